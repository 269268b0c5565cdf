/- What comes of two values; no function of the program; nothing is asked. -/
import Derived.Test.YtochpomddfjkoaaExprMath
namespace Go.Proofs.Ytochpomddfjkoaa.Ex
open Go.RowKit Go.Proofs.Ytochpomddfjkoaa.BM Go.Proofs.Ytochpomddfjkoaa.VaM Go.Proofs.Ytochpomddfjkoaa.Va Go.Proofs.Ytochpomddfjkoaa.ExM Go.Proofs.Ytochpomddfjkoaa.EvM

section
variable {a b : V} {c : Int}
theorem two_k (h : a.k ≠ b.k) : two c a b = (v0, 5) := by rw [two, if_pos h]
theorem two_6 (h : a.k = b.k) : two 6 a b = (truth (decide (a = b)), 0) := by rw [two, if_neg (fun k => k h), if_pos rfl]
theorem two_5b (h : a.k = b.k) (h1 : a.k = 1) : two 5 a b = (v0, 5) := by rw [two, if_neg (fun k => k h), if_neg (by decide), if_pos rfl, if_pos h1]
theorem two_5 (h : a.k = b.k) (h1 : a.k ≠ 1) : two 5 a b = (truth (can a b && lt a b), 0) := by rw [two, if_neg (fun k => k h), if_neg (by decide), if_pos rfl, if_neg h1]
theorem two_78n (h : a.k = b.k) (hc : c = 7 ∨ c = 8) (h1 : a.k ≠ 1) : two c a b = (v0, 5) := by rw [two, if_neg (fun k => k h), if_neg (by omega), if_neg (by omega), if_pos hc, if_pos h1]
theorem two_78 (h : a.k = b.k) (hc : c = 7 ∨ c = 8) (h1 : a.k = 1) : two c a b = (truth (decide (a.n + b.n = 2 ∨ (c = 8 ∧ 0 < a.n + b.n))), 0) := by rw [two, if_neg (fun k => k h), if_neg (by omega), if_neg (by omega), if_pos hc, if_neg (fun k => k h1)]
theorem two_n (h : a.k = b.k) (h5 : c ≠ 5) (h6 : c ≠ 6) (h7 : c ≠ 7) (h8 : c ≠ 8) (h1 : a.k ≠ 0) : two c a b = (v0, 5) := by rw [two, if_neg (fun k => k h), if_neg h6, if_neg h5, if_neg (by omega), if_pos h1]
theorem two_ar (h : a.k = b.k) (h5 : c ≠ 5) (h6 : c ≠ 6) (h7 : c ≠ 7) (h8 : c ≠ 8) (h1 : a.k = 0) : two c a b = if fits (arith c a.n b.n) = true then (⟨0, arith c a.n b.n, e0⟩, 0) else (v0, 6) := by rw [two, if_neg (fun k => k h), if_neg h6, if_neg h5, if_neg (by omega), if_neg (fun k => k h1)]
end

/-- What two answers. -/
def TwoV (r : V × Int) (w : World) (e : Ending) (w' : World) : Prop := e = .returned (.tuple #[.agg #[.int .i64 r.1.k, .int .i64 r.1.n, .string r.1.s], .int .i64 r.2]) ∧ Below w.heap.size w w'
end Go.Proofs.Ytochpomddfjkoaa.Ex
