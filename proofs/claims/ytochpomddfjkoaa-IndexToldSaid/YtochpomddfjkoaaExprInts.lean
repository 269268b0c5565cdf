/- Ints, and numbers that go round; no function of the program; nothing is asked. -/
import Derived.Test.YtochpomddfjkoaaExprMath
import Derived.Test.YtochpomddfjkoaaValueEq
import Derived.BigQuiet
namespace Go.Proofs.Ytochpomddfjkoaa.Ex
open Go.RowKit Go.Proofs.Ytochpomddfjkoaa.BM Go.Proofs.Ytochpomddfjkoaa.VaM Go.Proofs.Ytochpomddfjkoaa.Va Go.Proofs.Ytochpomddfjkoaa.ExM

/-- An int. -/
def I64 (n : Int) : Prop := -9223372036854775808 ≤ n ∧ n ≤ 9223372036854775807

theorem fits_iff {n : Int} : fits n = true ↔ I64 n := by
  unfold fits I64
  rw [decide_eq_true_iff]

theorem fits_no {n : Int} : fits n = false ↔ ¬ I64 n := by
  rw [← fits_iff]
  simp

theorem wrap_spec (p : Int) : (∃ k : Int, wrap64 p = p + k * 18446744073709551616) ∧ I64 (wrap64 p) := by
  unfold wrap64 I64
  exact ⟨⟨-((p + 9223372036854775808) / 18446744073709551616), by omega⟩, by omega⟩

theorem wrap_in {p : Int} (h : I64 p) : wrap64 p = p := by
  unfold I64 at h
  unfold wrap64
  omega

theorem plus_fits {a b : Int} (ha : I64 a) (hb : I64 b) : (decide (a < wrap64 (a + b)) == decide (0 < b)) = fits (a + b) := by
  unfold I64 at ha hb
  rw [Bool.eq_iff_iff, beq_iff_eq, Bool.eq_iff_iff, fits_iff, decide_eq_true_iff, decide_eq_true_iff]
  unfold I64 wrap64
  omega

theorem minus_fits {a b : Int} (ha : I64 a) (hb : I64 b) : (decide (wrap64 (a - b) < a) == decide (0 < b)) = fits (a - b) := by
  unfold I64 at ha hb
  rw [Bool.eq_iff_iff, beq_iff_eq, Bool.eq_iff_iff, fits_iff, decide_eq_true_iff, decide_eq_true_iff]
  unfold I64 wrap64
  omega

theorem times_fits {a b : Int} (ha : I64 a) (hb : I64 b) (h0 : b ≠ 0) (hx : ¬ (b = -1 ∧ a = -9223372036854775808)) : wrap64 ((wrap64 (a * b)).tdiv b) = a ↔ I64 (a * b) := by
  obtain ⟨⟨k, hk⟩, hN⟩ := wrap_spec (a * b)
  constructor
  · intro h
    have e1 := Int.mul_tdiv_add_tmod (wrap64 (a * b)) b
    have e2 : ((wrap64 (a * b)).tmod b).natAbs < b.natAbs := by
      rw [Int.natAbs_tmod]
      exact Nat.mod_lt _ (by omega)
    have e3 := Int.natAbs_tdiv_le_natAbs (wrap64 (a * b)) b
    generalize wrap64 (a * b) = N at *
    generalize N.tdiv b = q at *
    generalize N.tmod b = r at *
    unfold wrap64 at h
    unfold I64 at *
    by_cases hq : q = 9223372036854775808
    · subst hq
      exfalso
      omega
    · have hqa : q = a := by omega
      subst hqa
      have e4 : b * q = q * b := Int.mul_comm _ _
      rw [e4] at e1
      generalize q * b = p at *
      omega
  · intro h
    rw [wrap_in h, Int.mul_tdiv_cancel a h0, wrap_in ha]

theorem low_times {a b : Int} (h : (a = -1 ∧ b = -9223372036854775808) ∨ (b = -1 ∧ a = -9223372036854775808)) : ¬ I64 (a * b) := by
  unfold I64
  rcases h with ⟨rfl, rfl⟩ | ⟨rfl, rfl⟩ <;> decide
end Go.Proofs.Ytochpomddfjkoaa.Ex
