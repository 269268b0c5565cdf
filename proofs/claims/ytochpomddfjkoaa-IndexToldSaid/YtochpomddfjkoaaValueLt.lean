/- Which of two values is less; no program, nothing is asked. -/
import Derived.Test.YtochpomddfjkoaaValueMath
namespace Go.Proofs.Ytochpomddfjkoaa.Va
open Go.RowKit Go.Proofs.Ytochpomddfjkoaa.VaM

/-- Is one less than another one of its kind? -/
def lt (a b : V) : Bool := if a.k = 2 then Op.bytesLess a.s.toList b.s.toList else decide (a.n < b.n)

/-- Can it be told? -/
def can (a b : V) : Bool := decide (May a ∧ May b ∧ a.k = b.k)

theorem lt_n {a b : V} (h : a.k ≠ 2) : lt a b = decide (a.n < b.n) := by rw [lt, if_neg h]
theorem lt_s {a b : V} (h : a.k = 2) : lt a b = Op.bytesLess a.s.toList b.s.toList := by rw [lt, if_pos h]
end Go.Proofs.Ytochpomddfjkoaa.Va
