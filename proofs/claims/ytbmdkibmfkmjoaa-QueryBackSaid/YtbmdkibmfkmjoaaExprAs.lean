/- What comes of two things, by the program; asked: both values may be. (Made by tools/gen_both.py.) -/
import Derived.Test.YtbmdkibmfkmjoaaExprThing
import Derived.Test.YtbmdkibmfkmjoaaExprSums
import Derived.Test.YtbmdkibmfkmjoaaValueLess
import Derived.Test.YtbmdkibmfkmjoaaValueEq
import Derived.BigQuiet
namespace Go.Proofs.Ytbmdkibmfkmjoaa.Ex
open Go.RowKit Go.Proofs.Ytbmdkibmfkmjoaa.BM Go.Proofs.Ytbmdkibmfkmjoaa.LM Go.Proofs.Ytbmdkibmfkmjoaa.VaM Go.Proofs.Ytbmdkibmfkmjoaa.Va Go.Proofs.Ytbmdkibmfkmjoaa.ExM Go.Proofs.Ytbmdkibmfkmjoaa.EvM

theorem same_dec (a b : V) : same a b = decide (a = b) := by rw [Bool.eq_iff_iff, same_iff, decide_eq_true_iff]

/- Which type a thing has. -/
section
variable (v : Value) (w : World)
theorem as_0_0 : (Instr.typeAssert (.iface 142 v) 109 142 true).run Try.prog w = .ok (.tuple #[v, .bool true]) w := by kernel_rfl
theorem as_1_0 : (Instr.typeAssert (.iface 143 v) 109 142 true).run Try.prog w = .ok (.tuple #[.int .i64 0, .bool false]) w := by kernel_rfl
theorem as_2_0 : (Instr.typeAssert (.iface 144 v) 109 142 true).run Try.prog w = .ok (.tuple #[.int .i64 0, .bool false]) w := by kernel_rfl
theorem as_3_0 : (Instr.typeAssert (.iface 145 v) 109 142 true).run Try.prog w = .ok (.tuple #[.int .i64 0, .bool false]) w := by kernel_rfl
theorem as_0_1 : (Instr.typeAssert (.iface 142 v) 109 143 true).run Try.prog w = .ok (.tuple #[.bool false, .bool false]) w := by kernel_rfl
theorem as_1_1 : (Instr.typeAssert (.iface 143 v) 109 143 true).run Try.prog w = .ok (.tuple #[v, .bool true]) w := by kernel_rfl
theorem as_2_1 : (Instr.typeAssert (.iface 144 v) 109 143 true).run Try.prog w = .ok (.tuple #[.bool false, .bool false]) w := by kernel_rfl
theorem as_3_1 : (Instr.typeAssert (.iface 145 v) 109 143 true).run Try.prog w = .ok (.tuple #[.bool false, .bool false]) w := by kernel_rfl
theorem is_1 : (Instr.typeAssert (.iface 143 v) 109 143 false).run Try.prog w = .ok v w := by kernel_rfl
end
end Go.Proofs.Ytbmdkibmfkmjoaa.Ex
