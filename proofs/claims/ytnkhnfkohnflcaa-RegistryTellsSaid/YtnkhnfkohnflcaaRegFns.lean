/- What registry's functions answer, together. -/
import Derived.Test.YtnkhnfkohnflcaaRegMay
import Derived.Test.YtnkhnfkohnflcaaRegFind
import Derived.Test.YtnkhnfkohnflcaaRegAdd
import Derived.Test.YtnkhnfkohnflcaaRegSame
