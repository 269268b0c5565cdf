/- A value's three cells; le's Put as a slice of bytes; append of a string; no function of package value; nothing is asked. -/
import Derived.Test.YtbmdkibmfkmjoaaGreatValueMath
import Derived.Test.YtbmdkibmfkmjoaaGreatSlB
import Derived.Test.YtbmdkibmfkmjoaaGreatStrMem
import Derived.Test.YtbmdkibmfkmjoaaGreatBx
import Derived.Test.YtbmdkibmfkmjoaaGreatPutSl
namespace Go.Proofs.YtbmdkibmfkmjoaaGreat.Va
open Go.RowKit Go.Proofs.YtbmdkibmfkmjoaaGreat.BM Go.Proofs.YtbmdkibmfkmjoaaGreat.LM Go.Proofs.YtbmdkibmfkmjoaaGreat.LeM Go.Proofs.YtbmdkibmfkmjoaaGreat.LeP Go.Proofs.YtbmdkibmfkmjoaaGreat.LeG Go.Proofs.YtbmdkibmfkmjoaaGreat.VaM

theorem bx_new (w : World) (v0 v1 v2 : Value) : Bx (w.alloc (.cells #[v0, v1, v2] 78)) w.heap.size v0 v1 v2 := bx_new_t w _ v0 v1 v2
end Go.Proofs.YtbmdkibmfkmjoaaGreat.Va
