/- What comes of two things, by the program; asked: both values may be. (Made by tools/gen_both.py.) -/
import Derived.Test.YtochpomddfjkoaaExprThing
import Derived.Test.YtochpomddfjkoaaExprSums
import Derived.Test.YtochpomddfjkoaaValueLess
import Derived.Test.YtochpomddfjkoaaValueEq
import Derived.BigQuiet
namespace Go.Proofs.Ytochpomddfjkoaa.Ex
open Go.RowKit Go.Proofs.Ytochpomddfjkoaa.BM Go.Proofs.Ytochpomddfjkoaa.LM Go.Proofs.Ytochpomddfjkoaa.VaM Go.Proofs.Ytochpomddfjkoaa.Va Go.Proofs.Ytochpomddfjkoaa.ExM Go.Proofs.Ytochpomddfjkoaa.EvM

theorem same_dec (a b : V) : same a b = decide (a = b) := by rw [Bool.eq_iff_iff, same_iff, decide_eq_true_iff]

/- Which type a thing has. -/
section
variable (v : Value) (w : World)
theorem as_0_0 : (Instr.typeAssert (.iface 102 v) 75 102 true).run Try.prog w = .ok (.tuple #[v, .bool true]) w := by kernel_rfl
theorem as_1_0 : (Instr.typeAssert (.iface 69 v) 75 102 true).run Try.prog w = .ok (.tuple #[.int .i64 0, .bool false]) w := by kernel_rfl
theorem as_2_0 : (Instr.typeAssert (.iface 103 v) 75 102 true).run Try.prog w = .ok (.tuple #[.int .i64 0, .bool false]) w := by kernel_rfl
theorem as_3_0 : (Instr.typeAssert (.iface 104 v) 75 102 true).run Try.prog w = .ok (.tuple #[.int .i64 0, .bool false]) w := by kernel_rfl
theorem as_0_1 : (Instr.typeAssert (.iface 102 v) 75 69 true).run Try.prog w = .ok (.tuple #[.bool false, .bool false]) w := by kernel_rfl
theorem as_1_1 : (Instr.typeAssert (.iface 69 v) 75 69 true).run Try.prog w = .ok (.tuple #[v, .bool true]) w := by kernel_rfl
theorem as_2_1 : (Instr.typeAssert (.iface 103 v) 75 69 true).run Try.prog w = .ok (.tuple #[.bool false, .bool false]) w := by kernel_rfl
theorem as_3_1 : (Instr.typeAssert (.iface 104 v) 75 69 true).run Try.prog w = .ok (.tuple #[.bool false, .bool false]) w := by kernel_rfl
theorem is_1 : (Instr.typeAssert (.iface 69 v) 75 69 false).run Try.prog w = .ok v w := by kernel_rfl
end
end Go.Proofs.Ytochpomddfjkoaa.Ex
