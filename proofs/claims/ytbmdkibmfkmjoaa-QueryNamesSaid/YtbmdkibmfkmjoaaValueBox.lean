/- A value's three cells; le's Put as a slice of bytes; append of a string; no function of package value; nothing is asked. -/
import Derived.Test.YtbmdkibmfkmjoaaValueMath
import Derived.Test.YtbmdkibmfkmjoaaSlB
import Derived.Test.YtbmdkibmfkmjoaaStrMem
import Derived.Test.YtbmdkibmfkmjoaaBx
import Derived.Test.YtbmdkibmfkmjoaaPutSl
namespace Go.Proofs.Ytbmdkibmfkmjoaa.Va
open Go.RowKit Go.Proofs.Ytbmdkibmfkmjoaa.BM Go.Proofs.Ytbmdkibmfkmjoaa.LM Go.Proofs.Ytbmdkibmfkmjoaa.LeM Go.Proofs.Ytbmdkibmfkmjoaa.LeP Go.Proofs.Ytbmdkibmfkmjoaa.LeG Go.Proofs.Ytbmdkibmfkmjoaa.VaM

theorem bx_new (w : World) (v0 v1 v2 : Value) : Bx (w.alloc (.cells #[v0, v1, v2] 59)) w.heap.size v0 v1 v2 := bx_new_t w _ v0 v1 v2
end Go.Proofs.Ytbmdkibmfkmjoaa.Va
