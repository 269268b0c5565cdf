/- Two values compared; no function of the program; nothing is asked. -/
import Derived.Test.YtochpomddfjkoaaValueBox
import Derived.OpenShut
namespace Go.Proofs.Ytochpomddfjkoaa.Va
open Go.RowKit Go.Proofs.Ytochpomddfjkoaa.BM Go.Proofs.Ytochpomddfjkoaa.LM Go.Proofs.Ytochpomddfjkoaa.VaM

/-- Are two values the same? -/
def same (a b : V) : Bool := decide (a.k = b.k ∧ a.n = b.n ∧ a.s = b.s)

theorem same_iff {a b : V} : same a b = true ↔ a = b := by
  unfold same
  rw [decide_eq_true_iff]
  constructor
  · rintro ⟨h1, h2, h3⟩
    exact V.same h1 h2 h3
  · rintro rfl
    exact ⟨rfl, rfl, rfl⟩

theorem rng_of {n : Int} {k : Int} {s : ByteArray} (h : (Lit.int .i64 n).wf = true) : Rng ⟨k, n, s⟩ := by
  have hb := bounds_i64 h
  exact ⟨by simp only; omega, by simp only; omega⟩

set_option maxRecDepth 100000 in
/-- ==, of two values. -/
theorem eql_v (k n j m : Int) (s t : ByteArray) (w : World) :
    (binOp .eql 52 (.agg #[.int .i64 k, .int .i64 n, .string s]) (.agg #[.int .i64 j, .int .i64 m, .string t])).run Try.prog w = .ok (.bool (same ⟨k, n, s⟩ ⟨j, m, t⟩)) w := by
  have hs : same ⟨k, n, s⟩ ⟨j, m, t⟩ = ((k == j) && ((n == m) && (s.toList == t.toList))) := by
    rw [toList_beq, same, Bool.eq_iff_iff]
    simp
  rw [hs]
  simp only [run_eql_struct]
  go_simp
  by_cases h1 : k = j
  · by_cases h2 : n = m
    · by_cases h3 : s.toList = t.toList
      · simp [h1, h2, h3]
      · simp [h1, h2, h3]
    · simp [h1, h2]
  · simp [h1]

set_option maxRecDepth 100000 in
/-- !=, of two values. -/
theorem neq_v (k n j m : Int) (s t : ByteArray) (w : World) :
    (binOp .neq 52 (.agg #[.int .i64 k, .int .i64 n, .string s]) (.agg #[.int .i64 j, .int .i64 m, .string t])).run Try.prog w = .ok (.bool (!same ⟨k, n, s⟩ ⟨j, m, t⟩)) w := by
  have h := eql_v k n j m s t w
  rw [run_eql_struct] at h
  rw [run_neq_struct]
  cases hr : (Op.equalIn 10000 52 (.agg #[.int .i64 k, .int .i64 n, .string s]) (.agg #[.int .i64 j, .int .i64 m, .string t])).run Try.prog w with
  | ok b w' =>
    rw [hr] at h
    simp only [Result.andThen_ok] at h ⊢
    injection h with h1 h2
    injection h1 with h1
    rw [h1, h2]
  | halt x w' =>
    rw [hr] at h
    cases h
end Go.Proofs.Ytochpomddfjkoaa.Va
