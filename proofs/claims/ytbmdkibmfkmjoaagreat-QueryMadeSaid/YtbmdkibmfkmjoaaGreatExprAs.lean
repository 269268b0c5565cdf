/- What comes of two things, by the program; asked: both values may be. (Made by tools/gen_both.py.) -/
import Derived.Test.YtbmdkibmfkmjoaaGreatExprThing
import Derived.Test.YtbmdkibmfkmjoaaGreatExprSums
import Derived.Test.YtbmdkibmfkmjoaaGreatValueLess
import Derived.Test.YtbmdkibmfkmjoaaGreatValueEq
import Derived.BigQuiet
namespace Go.Proofs.YtbmdkibmfkmjoaaGreat.Ex
open Go.RowKit Go.Proofs.YtbmdkibmfkmjoaaGreat.BM Go.Proofs.YtbmdkibmfkmjoaaGreat.LM Go.Proofs.YtbmdkibmfkmjoaaGreat.VaM Go.Proofs.YtbmdkibmfkmjoaaGreat.Va Go.Proofs.YtbmdkibmfkmjoaaGreat.ExM Go.Proofs.YtbmdkibmfkmjoaaGreat.EvM

theorem same_dec (a b : V) : same a b = decide (a = b) := by rw [Bool.eq_iff_iff, same_iff, decide_eq_true_iff]

/- Which type a thing has. -/
section
variable (v : Value) (w : World)
theorem as_0_0 : (Instr.typeAssert (.iface 164 v) 132 164 true).run Tryz.prog w = .ok (.tuple #[v, .bool true]) w := by kernel_rfl
theorem as_1_0 : (Instr.typeAssert (.iface 165 v) 132 164 true).run Tryz.prog w = .ok (.tuple #[.int .i64 0, .bool false]) w := by kernel_rfl
theorem as_2_0 : (Instr.typeAssert (.iface 166 v) 132 164 true).run Tryz.prog w = .ok (.tuple #[.int .i64 0, .bool false]) w := by kernel_rfl
theorem as_3_0 : (Instr.typeAssert (.iface 167 v) 132 164 true).run Tryz.prog w = .ok (.tuple #[.int .i64 0, .bool false]) w := by kernel_rfl
theorem as_0_1 : (Instr.typeAssert (.iface 164 v) 132 165 true).run Tryz.prog w = .ok (.tuple #[.bool false, .bool false]) w := by kernel_rfl
theorem as_1_1 : (Instr.typeAssert (.iface 165 v) 132 165 true).run Tryz.prog w = .ok (.tuple #[v, .bool true]) w := by kernel_rfl
theorem as_2_1 : (Instr.typeAssert (.iface 166 v) 132 165 true).run Tryz.prog w = .ok (.tuple #[.bool false, .bool false]) w := by kernel_rfl
theorem as_3_1 : (Instr.typeAssert (.iface 167 v) 132 165 true).run Tryz.prog w = .ok (.tuple #[.bool false, .bool false]) w := by kernel_rfl
theorem is_1 : (Instr.typeAssert (.iface 165 v) 132 165 false).run Tryz.prog w = .ok v w := by kernel_rfl
end
end Go.Proofs.YtbmdkibmfkmjoaaGreat.Ex
