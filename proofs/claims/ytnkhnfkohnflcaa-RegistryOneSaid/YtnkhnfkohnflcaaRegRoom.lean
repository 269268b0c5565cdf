/- Where there is memory for as many fields again: of few schemas, and of those that add makes; no function of the program; nothing is asked. -/
import Derived.Test.YtnkhnfkohnflcaaRegFew
import Derived.Test.YtnkhnfkohnflcaaRegAddNew
namespace Go.Proofs.Ytnkhnfkohnflcaa.Rg
open Go.RowKit Go.Proofs.Ytnkhnfkohnflcaa.BM Go.Proofs.Ytnkhnfkohnflcaa.LeM Go.Proofs.Ytnkhnfkohnflcaa.VaM Go.Proofs.Ytnkhnfkohnflcaa.Va Go.Proofs.Ytnkhnfkohnflcaa.Sc Go.Proofs.Ytnkhnfkohnflcaa.RgM
open Go.Proofs.Ytnkhnfkohnflcaa.ScM (Sc)

theorem roomL_few {l : List Sc} (h : Few l) : RoomL l := fun i hi => by
  have h1 := (h.2 i hi).2.1
  unfold Room
  omega

theorem roomL_add {l : List Sc} {s : Sc} : RoomL (add l s).1 := by
  by_cases h : (add l s).2 = 0
  · exact roomL_may (add_found h).1
  · rw [add_err h]
    intro i hi
    exact absurd hi (Nat.not_lt_zero i)
end Go.Proofs.Ytnkhnfkohnflcaa.Rg
