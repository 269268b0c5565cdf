/- Which type an interface value has; nothing is asked. -/
import Derived.Test.YtochpomddfjkoaaValueHeld
namespace Go.Proofs.Ytochpomddfjkoaa.Va
open Go.RowKit Go.Proofs.Ytochpomddfjkoaa.BM Go.Proofs.Ytochpomddfjkoaa.VaM

theorem is_number (v : Value) (w : World) : (Instr.typeAssert (.iface 99 v) 20 99 true).run Try.prog w = .ok (.tuple #[v, .bool true]) w := by kernel_rfl
theorem nil_number (w : World) : (Instr.typeAssert .nilIface 20 99 true).run Try.prog w = .ok (.tuple #[.int .i64 0, .bool false]) w := by kernel_rfl
theorem is_truth (v : Value) (w : World) : (Instr.typeAssert (.iface 100 v) 20 100 true).run Try.prog w = .ok (.tuple #[v, .bool true]) w := by kernel_rfl
theorem nil_truth (w : World) : (Instr.typeAssert .nilIface 20 100 true).run Try.prog w = .ok (.tuple #[.int .i64 0, .bool false]) w := by kernel_rfl
theorem truth_no_number (v : Value) (w : World) : (Instr.typeAssert (.iface 100 v) 20 99 true).run Try.prog w = .ok (.tuple #[.int .i64 0, .bool false]) w := by kernel_rfl
theorem is_text (v : Value) (w : World) : (Instr.typeAssert (.iface 98 v) 20 98 true).run Try.prog w = .ok (.tuple #[v, .bool true]) w := by kernel_rfl
theorem nil_text (w : World) : (Instr.typeAssert .nilIface 20 98 true).run Try.prog w = .ok (.tuple #[.string ⟨#[]⟩, .bool false]) w := by kernel_rfl
theorem text_no_number (v : Value) (w : World) : (Instr.typeAssert (.iface 98 v) 20 99 true).run Try.prog w = .ok (.tuple #[.int .i64 0, .bool false]) w := by kernel_rfl
theorem text_no_truth (v : Value) (w : World) : (Instr.typeAssert (.iface 98 v) 20 100 true).run Try.prog w = .ok (.tuple #[.int .i64 0, .bool false]) w := by kernel_rfl
theorem is_moment (v : Value) (w : World) : (Instr.typeAssert (.iface 101 v) 20 101 true).run Try.prog w = .ok (.tuple #[v, .bool true]) w := by kernel_rfl
theorem nil_moment (w : World) : (Instr.typeAssert .nilIface 20 101 true).run Try.prog w = .ok (.tuple #[.int .i64 0, .bool false]) w := by kernel_rfl
theorem moment_no_number (v : Value) (w : World) : (Instr.typeAssert (.iface 101 v) 20 99 true).run Try.prog w = .ok (.tuple #[.int .i64 0, .bool false]) w := by kernel_rfl
theorem moment_no_truth (v : Value) (w : World) : (Instr.typeAssert (.iface 101 v) 20 100 true).run Try.prog w = .ok (.tuple #[.int .i64 0, .bool false]) w := by kernel_rfl
theorem moment_no_text (v : Value) (w : World) : (Instr.typeAssert (.iface 101 v) 20 98 true).run Try.prog w = .ok (.tuple #[.string ⟨#[]⟩, .bool false]) w := by kernel_rfl
end Go.Proofs.Ytochpomddfjkoaa.Va
