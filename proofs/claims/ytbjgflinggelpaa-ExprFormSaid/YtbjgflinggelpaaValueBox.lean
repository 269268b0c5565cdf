/- A value's three cells; le's Put as a slice of bytes; append of a string; no function of package value; nothing is asked. -/
import Derived.Test.YtbjgflinggelpaaValueMath
import Derived.Test.YtbjgflinggelpaaSlB
import Derived.Test.YtbjgflinggelpaaStrMem
import Derived.Test.YtbjgflinggelpaaBx
import Derived.Test.YtbjgflinggelpaaPutSl
namespace Go.Proofs.Ytbjgflinggelpaa.Va
open Go.RowKit Go.Proofs.Ytbjgflinggelpaa.BM Go.Proofs.Ytbjgflinggelpaa.LM Go.Proofs.Ytbjgflinggelpaa.LeM Go.Proofs.Ytbjgflinggelpaa.LeP Go.Proofs.Ytbjgflinggelpaa.LeG Go.Proofs.Ytbjgflinggelpaa.VaM

theorem bx_new (w : World) (v0 v1 v2 : Value) : Bx (w.alloc (.cells #[v0, v1, v2] 38)) w.heap.size v0 v1 v2 := bx_new_t w _ v0 v1 v2
end Go.Proofs.Ytbjgflinggelpaa.Va
