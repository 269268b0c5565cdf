/- plus, minus, times and truth of the document's answers; the numbers are ints. -/
import Derived.Test.YtochpomddfjkoaaExprInts
import Derived.Test.YtochpomddfjkoaaExprMath
import Derived.Test.YtochpomddfjkoaaValueEq
import Derived.BigQuiet
namespace Go.Proofs.Ytochpomddfjkoaa.Ex
open Go.RowKit Go.Proofs.Ytochpomddfjkoaa.BM Go.Proofs.Ytochpomddfjkoaa.VaM Go.Proofs.Ytochpomddfjkoaa.Va Go.Proofs.Ytochpomddfjkoaa.ExM

set_option maxRecDepth 100000 in
theorem plus_any (a b : Int) (w : World) (ha : I64 a) (hb : I64 b) :
    Calls Try.prog 62 #[.int .i64 a, .int .i64 b] w fun e w' => ∃ n, e = .returned (.tuple #[.int .i64 n, .bool (fits (a + b))]) ∧ (fits (a + b) = true → n = a + b) ∧ w = w' := by
  have h1 := Lib.hid (plus_fits ha hb)
  have h2 := Lib.hid (fun h => wrap_in (fits_iff.1 h) : fits (a + b) = true → wrap64 (a + b) = a + b)
  go_enter Try.func62, Try.ntmps62
  go_wp2_with fail
  exact bodyPost_ret (v := .tuple #[.int .i64 (wrap64 (a + b)), .bool (decide (a < wrap64 (a + b)) == decide (0 < b))]) (by simp [results, Try.results62, go_sem]) rfl ⟨wrap64 (a + b), ret_v (by rw [h1.out]), h2.out, rfl⟩

set_option maxRecDepth 100000 in
theorem minus_any (a b : Int) (w : World) (ha : I64 a) (hb : I64 b) :
    Calls Try.prog 63 #[.int .i64 a, .int .i64 b] w fun e w' => ∃ n, e = .returned (.tuple #[.int .i64 n, .bool (fits (a - b))]) ∧ (fits (a - b) = true → n = a - b) ∧ w = w' := by
  have h1 := Lib.hid (minus_fits ha hb)
  have h2 := Lib.hid (fun h => wrap_in (fits_iff.1 h) : fits (a - b) = true → wrap64 (a - b) = a - b)
  go_enter Try.func63, Try.ntmps63
  go_wp2_with fail
  exact bodyPost_ret (v := .tuple #[.int .i64 (wrap64 (a - b)), .bool (decide (wrap64 (a - b) < a) == decide (0 < b))]) (by simp [results, Try.results63, go_sem]) rfl ⟨wrap64 (a - b), ret_v (by rw [h1.out]), h2.out, rfl⟩

set_option maxRecDepth 100000 in
set_option maxHeartbeats 4000000 in
theorem times_any (a b : Int) (w : World) (ha : I64 a) (hb : I64 b) :
    Calls Try.prog 64 #[.int .i64 a, .int .i64 b] w fun e w' => ∃ n, e = .returned (.tuple #[.int .i64 n, .bool (fits (a * b))]) ∧ (fits (a * b) = true → n = a * b) ∧ Below w.heap.size w w' := by
  by_cases h0 : a = 0
  · subst h0
    have e0 : fits (0 * b) = true := by rw [Int.zero_mul]; decide
    rw [e0]
    clear e0
    go_enter Try.func64, Try.ntmps64
    go_wp2_with fail
    exact bodyPost_ret (v := .tuple #[.int .i64 0, .bool true]) (by simp [results, Try.results64, go_sem]) rfl ⟨0, rfl, fun _ => by rw [Int.zero_mul], Below.refl _ _⟩
  · by_cases h1 : b = 0
    · subst h1
      have e0 : fits (a * 0) = true := by rw [Int.mul_zero]; decide
      have e1 : (a == 0) = false := by simpa using h0
      rw [e0]
      clear e0
      go_enter Try.func64, Try.ntmps64
      go_wp2_with fail
      exact bodyPost_ret (v := .tuple #[.int .i64 0, .bool true]) (by simp [results, Try.results64, go_sem]) rfl ⟨0, rfl, fun _ => by rw [Int.mul_zero], Below.refl _ _⟩
    · have g0 : (a == 0) = false := by simpa using h0
      have g1 : (b == 0) = false := by simpa using h1
      have HF := Lib.hid (fun h => fits_no.2 (low_times h) : (a = -1 ∧ b = -9223372036854775808) ∨ (b = -1 ∧ a = -9223372036854775808) → fits (a * b) = false)
      have HT := Lib.hid (fun h => by
        have := times_fits ha hb h1 h
        rw [Bool.eq_iff_iff, fits_iff, beq_iff_eq]
        exact this : ¬ (b = -1 ∧ a = -9223372036854775808) → (wrap64 ((wrap64 (a * b)).tdiv b) == a) = fits (a * b))
      have HW := Lib.hid (fun h => wrap_in (fits_iff.1 h) : fits (a * b) = true → wrap64 (a * b) = a * b)
      have k1 : ¬ b = 0 := h1
      clear h0 h1 ha hb
      by_cases hx : (a = -1 ∧ b = -9223372036854775808) ∨ (b = -1 ∧ a = -9223372036854775808)
      · have HNo := Lib.hid (HF.out hx)
        rcases hx with ⟨rfl, rfl⟩ | ⟨rfl, rfl⟩
        all_goals
          clear HF HT HW
          go_enter Try.func64, Try.ntmps64
          go_wp2_with fail
          exact bodyPost_ret (v := .tuple #[.int .i64 0, .bool false]) (by simp [results, Try.results64, go_sem]) rfl ⟨0, ret_v (by rw [HNo.out]), (fun h => by rw [HNo.out] at h; cases h), Below.refl _ _⟩
      · have HQ := Lib.hid (HT.out fun h => hx (Or.inr h))
        obtain ⟨z, hz⟩ : ∃ z, z = fits (a * b) := ⟨_, rfl⟩
        rw [← hz] at HW HQ ⊢
        clear HF HT hz
        obtain ⟨x1, g2⟩ : ∃ x, (a == -1) = x := ⟨_, rfl⟩
        obtain ⟨x2, g3⟩ : ∃ x, (b == -9223372036854775808) = x := ⟨_, rfl⟩
        obtain ⟨x3, g4⟩ : ∃ x, (b == -1) = x := ⟨_, rfl⟩
        obtain ⟨x4, g5⟩ : ∃ x, (a == -9223372036854775808) = x := ⟨_, rfl⟩
        have hways : (x1 = true ∧ x2 = false ∧ x3 = true ∧ x4 = false) ∨ (x1 = true ∧ x2 = false ∧ x3 = false) ∨ (x1 = false ∧ x3 = true ∧ x4 = false) ∨ (x1 = false ∧ x3 = false) := by
          have k1 : ¬ (x1 = true ∧ x2 = true) := fun h => hx (Or.inl ⟨by rw [h.1, beq_iff_eq] at g2; exact g2, by rw [h.2, beq_iff_eq] at g3; exact g3⟩)
          have k2 : ¬ (x3 = true ∧ x4 = true) := fun h => hx (Or.inr ⟨by rw [h.1, beq_iff_eq] at g4; exact g4, by rw [h.2, beq_iff_eq] at g5; exact g5⟩)
          cases x1 <;> cases x2 <;> cases x3 <;> cases x4 <;> simp_all
        clear hx
        rcases hways with ⟨rfl, rfl, rfl, rfl⟩ | ⟨rfl, rfl, rfl⟩ | ⟨rfl, rfl, rfl⟩ | ⟨rfl, rfl⟩
        all_goals
          go_enter Try.func64, Try.ntmps64
          go_wp2_with fail
          go_quiet (fail)
          go_wp2_with fail
          exact bodyPost_ret (v := .tuple #[.int .i64 (wrap64 (a * b)), .bool (wrap64 ((wrap64 (a * b)).tdiv b) == a)]) (by simp [results, Try.results64, go_sem]) rfl ⟨wrap64 (a * b), ret_v (by rw [HQ.out]), HW.out, below_drewN (Below.refl _ _) _⟩

set_option maxRecDepth 100000 in
theorem truth_any (b : Bool) (w : World) :
    Calls Try.prog 51 #[.bool b] w fun e w' => e = .returned (.agg #[.int .i64 1, .int .i64 (truth b).n, .string ⟨#[]⟩]) ∧ Below w.heap.size w w' := by
  have HB := Lib.hid (fun n => (Below.refl w.heap.size w).alloc (Nat.le_refl _) (.cells #[.int .i64 1, .int .i64 n, .string ⟨#[]⟩] 52))
  have HX := Lib.hid (fun n => bx_new_t w 52 (.int .i64 1) (.int .i64 n) (.string ⟨#[]⟩))
  cases b with
  | true =>
    have hn : (truth true).n = 1 := rfl
    rw [hn]
    clear hn
    go_enter Try.func51, Try.ntmps51
    go_wp2_with fail
    obtain ⟨⟨g0, g1, g2⟩, _⟩ := HX.out 1
    exact bodyPost_ret (v := .agg #[.int .i64 1, .int .i64 1, .string ⟨#[]⟩]) (by simp [results, Try.results51, go_sem, g0, g1, g2]) rfl ⟨rfl, HB.out 1⟩
  | false =>
    have hn : (truth false).n = 0 := rfl
    rw [hn]
    clear hn
    go_enter Try.func51, Try.ntmps51
    go_wp2_with fail
    obtain ⟨⟨g0, g1, g2⟩, _⟩ := HX.out 0
    exact bodyPost_ret (v := .agg #[.int .i64 1, .int .i64 0, .string ⟨#[]⟩]) (by simp [results, Try.results51, go_sem, g0, g1, g2]) rfl ⟨rfl, HB.out 0⟩
end Go.Proofs.Ytochpomddfjkoaa.Ex
