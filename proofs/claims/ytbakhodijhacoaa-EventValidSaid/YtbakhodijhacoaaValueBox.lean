/- A value's three cells; le's Put as a slice of bytes; append of a string; no function of package value; nothing is asked. -/
import Derived.Test.YtbakhodijhacoaaValueMath
import Derived.Test.YtbakhodijhacoaaSlB
import Derived.Test.YtbakhodijhacoaaStrMem
import Derived.Test.YtbakhodijhacoaaBx
import Derived.Test.YtbakhodijhacoaaPutSl
namespace Go.Proofs.Ytbakhodijhacoaa.Va
open Go.RowKit Go.Proofs.Ytbakhodijhacoaa.BM Go.Proofs.Ytbakhodijhacoaa.LM Go.Proofs.Ytbakhodijhacoaa.LeM Go.Proofs.Ytbakhodijhacoaa.LeP Go.Proofs.Ytbakhodijhacoaa.LeG Go.Proofs.Ytbakhodijhacoaa.VaM

theorem bx_new (w : World) (v0 v1 v2 : Value) : Bx (w.alloc (.cells #[v0, v1, v2] 44)) w.heap.size v0 v1 v2 := bx_new_t w _ v0 v1 v2
end Go.Proofs.Ytbakhodijhacoaa.Va
