/- A value's three cells; le's Put as a slice of bytes; append of a string; no function of package value; nothing is asked. -/
import Derived.Test.YtochpomddfjkoaaValueMath
import Derived.Test.YtochpomddfjkoaaStrCore
import Derived.Test.YtochpomddfjkoaaBx
namespace Go.Proofs.Ytochpomddfjkoaa.Va
open Go.RowKit Go.Proofs.Ytochpomddfjkoaa.BM Go.Proofs.Ytochpomddfjkoaa.VaM

theorem bx_new (w : World) (v0 v1 v2 : Value) : Bx (w.alloc (.cells #[v0, v1, v2] 52)) w.heap.size v0 v1 v2 := bx_new_t w _ v0 v1 v2
end Go.Proofs.Ytochpomddfjkoaa.Va
