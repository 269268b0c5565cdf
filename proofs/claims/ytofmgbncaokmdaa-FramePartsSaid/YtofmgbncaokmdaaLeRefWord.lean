/- Word and Read of the document's answers: what they answer; asked: a slice reads as bytes. -/
import Derived.Test.YtofmgbncaokmdaaLeWord
import Derived.BigQuiet
import Derived.Deep.QuietTactic
import Derived.Deep.Draws
namespace Go.Proofs.Ytofmgbncaokmdaa.LeG
open Go.RowKit Go.Proofs.Ytofmgbncaokmdaa.BM

theorem refWord_own (n : Int) (w : World) (h0 : 0 ≤ n) (h1 : n ≤ 4294967295) :
    Calls Try.prog 21 #[.int .u32 n] w fun e w' => e = .returned (.slice (some ⟨w.heap.size, 0, none⟩) 4 4) ∧ w.alloc (.cells (cs (wordL n)).toArray 5) = w' := by
  go_enter Try.func21, Try.ntmps21
  go_wp2
  go_ret
  exact ⟨rfl, rfl⟩

theorem refWord_any (n : Int) (w : World) (h0 : 0 ≤ n) (h1 : n ≤ 4294967295) :
    Calls Try.prog 21 #[.int .u32 n] w fun e w' => e = .returned (.slice (some ⟨w.heap.size, 0, none⟩) 4 4) ∧ IsB w' (some ⟨w.heap.size, 0, none⟩) (wordL n) ∧ Below w.heap.size w w' := by
  refine (refWord_own n w h0 h1).mono ?_
  rintro e w' ⟨rfl, rfl⟩
  exact ⟨rfl, isB_new w _ (wordL_bytes h0 h1), (Below.refl _ _).alloc (Nat.le_refl _) _⟩

theorem refRead_no (A : Option Addr) (len cap : Nat) (w : World) (h : len ≠ 4) (_hm : len ≤ 9223372036854775807) :
    Calls Try.prog 27 #[.slice A len cap] w fun e w' => e = .returned (.tuple #[.int .u32 0, .bool false]) ∧ Below w.heap.size w w' := by
  have hd : ((len : Int) == 4) = false := by rw [beq_eq_false_iff_ne]; omega
  go_enter Try.func27, Try.ntmps27
  go_wp2
  go_ret2
  exact ⟨rfl, Below.refl _ _⟩

theorem refRead_yes (b o cap : Nat) (x0 x1 x2 x3 : Int) (w : World) (hb0 : 0 ≤ x0 ∧ x0 < 256) (hb1 : 0 ≤ x1 ∧ x1 < 256) (hb2 : 0 ≤ x2 ∧ x2 < 256) (hb3 : 0 ≤ x3 ∧ x3 < 256)
    (c0 : w.cell? ⟨b, o, none⟩ = some (.int .u8 x0)) (c1 : w.cell? ⟨b, o + 1, none⟩ = some (.int .u8 x1)) (c2 : w.cell? ⟨b, o + 2, none⟩ = some (.int .u8 x2)) (c3 : w.cell? ⟨b, o + 3, none⟩ = some (.int .u8 x3)) :
    Calls Try.prog 27 #[.slice (some ⟨b, o, none⟩) 4 cap] w fun e w' => e = .returned (.tuple #[.int .u32 (x0 + 256 * x1 + 65536 * x2 + 16777216 * x3), .bool true]) ∧ Below w.heap.size w w' := by
  obtain ⟨a0, b0⟩ := hb0
  obtain ⟨a1, b1⟩ := hb1
  obtain ⟨a2, b2⟩ := hb2
  obtain ⟨a3, b3⟩ := hb3
  go_enter Try.func27, Try.ntmps27
  go_wp2
  go_quiet (fail)
  go_wp2
  go_ret2
  exact ⟨rfl, below_drewN (Below.refl _ _) _⟩

theorem refRead_any (A : Option Addr) (xs : List Int) (cap : Nat) (w : World) (hm : xs.length ≤ 9223372036854775807) (h : IsB w A xs) :
    Calls Try.prog 27 #[.slice A xs.length cap] w fun e w' => e = .returned (readV xs) ∧ Below w.heap.size w w' := by
  by_cases hx : xs.length = 4
  · obtain ⟨b, o, rfl, hc⟩ := h.2 (by omega)
    match xs, hx with
    | [x0, x1, x2, x3], _ =>
      have hb := h.1
      exact refRead_yes b o cap x0 x1 x2 x3 w (hb x0 (by simp)) (hb x1 (by simp)) (hb x2 (by simp)) (hb x3 (by simp)) (hc 0 (by simp)) (hc 1 (by simp)) (hc 2 (by simp)) (hc 3 (by simp))
  · refine (refRead_no A xs.length cap w hx hm).mono ?_
    rintro e w' ⟨rfl, hb⟩
    exact ⟨by rw [readV, if_neg hx], hb⟩
end Go.Proofs.Ytofmgbncaokmdaa.LeG
