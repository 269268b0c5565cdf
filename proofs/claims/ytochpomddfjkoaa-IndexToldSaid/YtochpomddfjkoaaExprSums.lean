/- Numbers of the program: plus, minus, times, gone round; asked: they are ints. -/
import Derived.Test.YtochpomddfjkoaaExprInts
namespace Go.Proofs.Ytochpomddfjkoaa.Ex
open Go.RowKit Go.Proofs.Ytochpomddfjkoaa.BM Go.Proofs.Ytochpomddfjkoaa.VaM Go.Proofs.Ytochpomddfjkoaa.Va Go.Proofs.Ytochpomddfjkoaa.ExM

theorem plus_fits' {a b : Int} (ha : I64 a) (hb : I64 b) : (decide (wrap64 (a + b) < a) == decide (b < 0)) = fits (a + b) := by
  unfold I64 at ha hb
  rw [Bool.eq_iff_iff, beq_iff_eq, Bool.eq_iff_iff, fits_iff, decide_eq_true_iff, decide_eq_true_iff]
  unfold I64 wrap64
  omega

theorem minus_fits' {a b : Int} (ha : I64 a) (hb : I64 b) : (decide (a < wrap64 (a - b)) == decide (b < 0)) = fits (a - b) := by
  unfold I64 at ha hb
  rw [Bool.eq_iff_iff, beq_iff_eq, Bool.eq_iff_iff, fits_iff, decide_eq_true_iff, decide_eq_true_iff]
  unfold I64 wrap64
  omega

theorem times_low : wrap64 ((-9223372036854775808 : Int) * -1) = -9223372036854775808 := by unfold wrap64; omega

theorem times_sign {a b : Int} (ha : I64 a) (hb : I64 b) (h0 : a ≠ 0) (h1 : b ≠ 0) : (wrap64 ((wrap64 (a * b)).tdiv b) = a ∧ (decide (wrap64 (a * b) < 0) = (decide (a < 0) != decide (b < 0)))) ↔ fits (a * b) = true := by
  by_cases hx : b = -1 ∧ a = -9223372036854775808
  · obtain ⟨rfl, rfl⟩ := hx
    constructor
    · intro h
      have h2 := h.2
      rw [times_low] at h2
      cases h2
    · intro h
      rw [fits_iff] at h
      unfold I64 at h
      omega
  · rw [times_fits ha hb h1 hx, fits_iff]
    constructor
    · exact fun h => h.1
    · intro h
      refine ⟨h, ?_⟩
      rw [wrap_in h]
      rcases Int.lt_or_gt_of_ne h0 with g0 | g0
      · rcases Int.lt_or_gt_of_ne h1 with g1 | g1
        · have := Int.mul_pos_of_neg_of_neg g0 g1
          rw [decide_eq_false (by omega), decide_eq_true g0, decide_eq_true g1]
          rfl
        · have := Int.mul_neg_of_neg_of_pos g0 g1
          rw [decide_eq_true this, decide_eq_true g0, decide_eq_false (by omega)]
          rfl
      · rcases Int.lt_or_gt_of_ne h1 with g1 | g1
        · have := Int.mul_neg_of_pos_of_neg g0 g1
          rw [decide_eq_true this, decide_eq_false (by omega), decide_eq_true g1]
          rfl
        · have := Int.mul_pos g0 g1
          rw [decide_eq_false (by omega), decide_eq_false (by omega), decide_eq_false (by omega)]
          rfl

theorem reck_0 : Value.tuple #[.int .i64 (wrap64 0), .bool (fits 0)] = .tuple #[.int .i64 0, .bool true] := by rw [wrap_in (by unfold I64; omega), fits_iff.2 (by unfold I64; omega)]

/-- What two numbers come to. -/
def Reck (n : Int) (w : World) (e : Ending) (w' : World) : Prop := e = .returned (.tuple #[.int .i64 (wrap64 n), .bool (fits n)]) ∧ w = w'

set_option maxRecDepth 100000 in
set_option maxHeartbeats 4000000 in
theorem times_own (a b : Int) (w : World) (ha : I64 a) (hb : I64 b) : Calls Try.prog 71 #[.int .i64 a, .int .i64 b] w (Reck (a * b) w) := by
  by_cases h0 : a = 0
  · subst h0
    have e0 : (0 : Int) * b = 0 := Int.zero_mul _
    rw [e0]
    clear e0
    go_enter Try.func71, Try.ntmps71
    go_wp2_with fail
    go_ret2
    exact ⟨ret_v (x := .tuple #[.int .i64 0, .bool true]) reck_0, rfl⟩
  · have g0 : (a == 0) = false := by simpa using h0
    by_cases h1 : b = 0
    · subst h1
      have e0 : a * 0 = 0 := Int.mul_zero _
      rw [e0]
      clear e0
      go_enter Try.func71, Try.ntmps71
      go_wp2_with fail
      go_ret2
      exact ⟨ret_v (x := .tuple #[.int .i64 0, .bool true]) reck_0, rfl⟩
    · have g1 : (b == 0) = false := by simpa using h1
      have hs := times_sign ha hb h0 h1
      have k1 : ¬ b = 0 := h1
      obtain ⟨x1, g2⟩ : ∃ x, (wrap64 ((wrap64 (a * b)).tdiv b) == a) = x := ⟨_, rfl⟩
      have HF := Lib.hid (show fits (a * b) = (x1 && (decide (wrap64 (a * b) < 0) == (decide (a < 0) != decide (b < 0)))) by
        rw [Bool.eq_iff_iff, ← hs, ← g2, Bool.and_eq_true, beq_iff_eq, beq_iff_eq])
      clear hs ha hb h0 h1
      cases x1
      · go_enter Try.func71, Try.ntmps71
        go_wp2_with fail
        go_ret2
        exact ⟨ret_v (by rw [HF.out]; rfl), rfl⟩
      · go_enter Try.func71, Try.ntmps71
        go_wp2_with fail
        go_ret2
        exact ⟨ret_v (by rw [HF.out]; rfl), rfl⟩

set_option maxRecDepth 100000 in
theorem reckoned_any (c a b : Int) (w : World) (ha : I64 a) (hb : I64 b) (hc : c = 2 ∨ c = 3 ∨ c = 4) : Calls Try.prog 69 #[.int .i64 c, .int .i64 a, .int .i64 b] w (Reck (arith c a b) w) := by
  have HT := Lib.hid (times_own a b w ha hb)
  have hp := Lib.hid (plus_fits' ha hb)
  have hm := Lib.hid (minus_fits' ha hb)
  clear ha hb
  rcases hc with rfl | rfl | rfl
  · rw [show arith 2 a b = a + b from rfl]
    go_enter Try.func69, Try.ntmps69
    go_wp2_with fail
    go_ret2
    exact ⟨ret_v (x := .tuple #[.int .i64 (wrap64 (a + b)), .bool (decide (wrap64 (a + b) < a) == decide (b < 0))]) (by rw [hp.out]), rfl⟩
  · rw [show arith 3 a b = a - b from rfl]
    go_enter Try.func69, Try.ntmps69
    go_wp2_with fail
    go_ret2
    exact ⟨ret_v (x := .tuple #[.int .i64 (wrap64 (a - b)), .bool (decide (a < wrap64 (a - b)) == decide (b < 0))]) (by rw [hm.out]), rfl⟩
  · rw [show arith 4 a b = a * b from rfl]
    go_enter Try.func69, Try.ntmps69
    go_wp2_with fail
    refine HT.out.mono ?_
    rintro e w1 ⟨rfl, rfl⟩
    go_wp2_with fail
    go_ret2
    exact ⟨rfl, rfl⟩
end Go.Proofs.Ytochpomddfjkoaa.Ex
