/- What comes of two things, by the program; asked: both values may be. (Made by tools/gen_both.py.) -/
import Derived.Test.YtbjgflinggelpaaExprThing
import Derived.Test.YtbjgflinggelpaaExprSums
import Derived.Test.YtbjgflinggelpaaValueLess
import Derived.Test.YtbjgflinggelpaaValueEq
import Derived.BigQuiet
namespace Go.Proofs.Ytbjgflinggelpaa.Ex
open Go.RowKit Go.Proofs.Ytbjgflinggelpaa.BM Go.Proofs.Ytbjgflinggelpaa.LM Go.Proofs.Ytbjgflinggelpaa.VaM Go.Proofs.Ytbjgflinggelpaa.Va Go.Proofs.Ytbjgflinggelpaa.ExM Go.Proofs.Ytbjgflinggelpaa.EvM

theorem same_dec (a b : V) : same a b = decide (a = b) := by rw [Bool.eq_iff_iff, same_iff, decide_eq_true_iff]

/- Which type a thing has. -/
section
variable (v : Value) (w : World)
theorem as_0_0 : (Instr.typeAssert (.iface 120 v) 69 120 true).run Try.prog w = .ok (.tuple #[v, .bool true]) w := by kernel_rfl
theorem as_1_0 : (Instr.typeAssert (.iface 86 v) 69 120 true).run Try.prog w = .ok (.tuple #[.int .i64 0, .bool false]) w := by kernel_rfl
theorem as_2_0 : (Instr.typeAssert (.iface 121 v) 69 120 true).run Try.prog w = .ok (.tuple #[.int .i64 0, .bool false]) w := by kernel_rfl
theorem as_3_0 : (Instr.typeAssert (.iface 122 v) 69 120 true).run Try.prog w = .ok (.tuple #[.int .i64 0, .bool false]) w := by kernel_rfl
theorem as_0_1 : (Instr.typeAssert (.iface 120 v) 69 86 true).run Try.prog w = .ok (.tuple #[.bool false, .bool false]) w := by kernel_rfl
theorem as_1_1 : (Instr.typeAssert (.iface 86 v) 69 86 true).run Try.prog w = .ok (.tuple #[v, .bool true]) w := by kernel_rfl
theorem as_2_1 : (Instr.typeAssert (.iface 121 v) 69 86 true).run Try.prog w = .ok (.tuple #[.bool false, .bool false]) w := by kernel_rfl
theorem as_3_1 : (Instr.typeAssert (.iface 122 v) 69 86 true).run Try.prog w = .ok (.tuple #[.bool false, .bool false]) w := by kernel_rfl
theorem is_1 : (Instr.typeAssert (.iface 86 v) 69 86 false).run Try.prog w = .ok v w := by kernel_rfl
end
end Go.Proofs.Ytbjgflinggelpaa.Ex
