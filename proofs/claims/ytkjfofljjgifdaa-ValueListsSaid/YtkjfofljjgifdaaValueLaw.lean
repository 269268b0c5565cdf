/- What the laws of layer 4 share: few, and whether two values are the same; nothing is asked. -/
import Derived.Test.YtkjfofljjgifdaaValueAwake
namespace Go.Proofs.Ytkjfofljjgifdaa.Va
open Go.RowKit Go.Proofs.Ytkjfofljjgifdaa.BM Go.Proofs.Ytkjfofljjgifdaa.LM Go.Proofs.Ytkjfofljjgifdaa.VaM

set_option maxRecDepth 100000 in
theorem few_any (k n : Int) (s : ByteArray) (w : World) (hs : s.size ≤ maxLen) :
    Calls Try.prog 11 #[.agg #[.int .i64 k, .int .i64 n, .string s]] w fun e w' => e = .returned (.bool (decide (s.size ≤ 100))) ∧ Below w.heap.size w w' := by
  have HB := Lib.hid ((Below.refl w.heap.size w).alloc (Nat.le_refl _) (.cells #[.int .i64 k, .int .i64 n, .string s] 23))
  unfold maxLen at hs
  have HD := Lib.hid (show decide (s.size ≤ 100) = decide ((s.size : Int) ≤ 100) by rw [decide_eq_decide]; omega)
  go_enter Try.func11, Try.ntmps11
  go_wp2_with fail
  go_ret
  exact ⟨ret_v (x := .bool (decide ((s.size : Int) ≤ 100))) (by rw [HD.out]), HB.out⟩

/-- Are two values the same? -/
def same (a b : V) : Bool := decide (a.k = b.k ∧ a.n = b.n ∧ a.s = b.s)

theorem same_iff {a b : V} : same a b = true ↔ a = b := by
  unfold same
  rw [decide_eq_true_iff]
  constructor
  · rintro ⟨h1, h2, h3⟩
    exact V.same h1 h2 h3
  · rintro rfl
    exact ⟨rfl, rfl, rfl⟩

theorem rng_of {n : Int} {k : Int} {s : ByteArray} (h : (Lit.int .i64 n).wf = true) : Rng ⟨k, n, s⟩ := by
  have hb := bounds_i64 h
  exact ⟨by simp only; omega, by simp only; omega⟩

theorem toList_beq (s t : ByteArray) : (s.toList == t.toList) = decide (s = t) := by
  by_cases h : s = t
  · subst h
    simp
  · rw [str_ne h, decide_eq_false h]

/-- ==, of two values. -/
theorem eql_v (k n j m : Int) (s t : ByteArray) (w : World) :
    (binOp .eql 23 (.agg #[.int .i64 k, .int .i64 n, .string s]) (.agg #[.int .i64 j, .int .i64 m, .string t])).run Try.prog w = .ok (.bool (same ⟨k, n, s⟩ ⟨j, m, t⟩)) w := by
  have hs : same ⟨k, n, s⟩ ⟨j, m, t⟩ = ((k == j) && ((n == m) && (s.toList == t.toList))) := by
    rw [toList_beq, same, Bool.eq_iff_iff]
    simp
  rw [hs]
  simp only [run_eql_struct]
  go_simp
  by_cases h1 : k = j
  · by_cases h2 : n = m
    · by_cases h3 : s.toList = t.toList
      · simp [h1, h2, h3]
      · simp [h1, h2, h3]
    · simp [h1, h2]
  · simp [h1]

/-- !=, of two values. -/
theorem neq_v (k n j m : Int) (s t : ByteArray) (w : World) :
    (binOp .neq 23 (.agg #[.int .i64 k, .int .i64 n, .string s]) (.agg #[.int .i64 j, .int .i64 m, .string t])).run Try.prog w = .ok (.bool (!same ⟨k, n, s⟩ ⟨j, m, t⟩)) w := by
  have h := eql_v k n j m s t w
  rw [run_eql_struct] at h
  rw [run_neq_struct]
  cases hr : (Op.equalIn 10000 23 (.agg #[.int .i64 k, .int .i64 n, .string s]) (.agg #[.int .i64 j, .int .i64 m, .string t])).run Try.prog w with
  | ok b w' =>
    rw [hr] at h
    simp only [Result.andThen_ok] at h ⊢
    injection h with h1 h2
    injection h1 with h1
    rw [h1, h2]
  | halt x w' =>
    rw [hr] at h
    cases h
end Go.Proofs.Ytkjfofljjgifdaa.Va
