/- Put, Get, Word and Read of the document's answers: what they answer; asked: a slice reads as bytes. -/
import Derived.Test.YthkkokcghblkpaaLeWord
import Derived.Test.YthkkokcghblkpaaLeRefZig
import Derived.BigQuiet
import Derived.Deep.QuietTactic
namespace Go.Proofs.Ythkkokcghblkpaa.LeG
open Go.RowKit Go.Proofs.Ythkkokcghblkpaa.LeM Go.Proofs.Ythkkokcghblkpaa.LeZ Go.Proofs.Ythkkokcghblkpaa.LeP

set_option maxRecDepth 100000 in
theorem refPut_any (n : Nat) (w : World) (hn : n < 18446744073709551616) :
    Calls Try.prog 17 #[.int .u64 n] w (Puts n w) := by
  obtain ⟨i0, hi, hz0, hz1, hz2⟩ := info_parts info_u8
  have hL10 := putL_len64 hn
  obtain ⟨L, hLd⟩ : ∃ L, L = (putL n).length := ⟨_, rfl⟩
  rw [← hLd] at hL10
  have HL := Lib.hid hLd
  clear hLd
  go_enter Try.func17, Try.ntmps17
  go_wp2_with fail
  go_loopw [0, 3] (fun nn v wr => ∃ (k m : Nat) (pre : List Int), nn = .int .u64 m ∧ St n w k m pre v wr) (fun nn _ _ => (intOf nn).toNat)
  case atStart => exact ⟨0, n, [], rfl, rfl, rfl, Nat.le_refl _, World.ownsRow_nil _ _ _ _, Below.refl _ _⟩
  case round =>
    obtain ⟨k, m, pre, rfl, hst⟩ := hrel
    have hown := hst.2.2.2.1
    have hbel := hst.2.2.2.2
    have hpl : L = k + (putL m).length := by rw [HL.out, hst.2.1, List.length_append, hst.1]
    have hpm := putL_pos m
    have hmn : m ≤ n := hst.2.2.1
    have hk10 : k + 1 ≤ 10 := by omega
    clear hpl hpm
    by_cases hm : 128 ≤ m
    · go_wp2_with (at_builtin; refine wpList_append_own _ rfl (.tmp 6) (.tmp 11) 24 rfl w.heap.size 5 i0 (.int .u8 0) 1 1 Try.underlying24 hi hz0 hz1 hz2 rfl (by decide) _ _ _ rfl (hown.alloc _) ⟨wr.heap.size, 0, none⟩ 1 1 [.int .u8 ((m : Int) % 128 + 128)] rfl rfl (cell_one_new _ _ _) (fun x hx => by simp at hx; subst hx; rfl) (by unfold maxLen; omega) (by omega) (by have := hbel.size; simp; omega) ?_; intro v' w1 hown1 hgrow1 _)
      have hs := hst.step hm hown1 hgrow1
      clear hown1 hgrow1 hst hown hbel
      go_wp2
      go_roundw
      case rel => exact ⟨k + 1, m / 128, _, by go_num, hs⟩
      case measure => simp [intOf]; omega
    · have hm' : m < 128 := by omega
      go_wp2_with (at_builtin; refine wpList_append_own _ rfl (.tmp 15) (.tmp 18) 24 rfl w.heap.size 5 i0 (.int .u8 0) 1 1 Try.underlying24 hi hz0 hz1 hz2 rfl (by decide) _ _ _ rfl (hown.alloc _) ⟨wr.heap.size, 0, none⟩ 1 1 [.int .u8 (m : Int)] rfl rfl (cell_one_new _ _ _) (fun x hx => by simp at hx; subst hx; rfl) (by unfold maxLen; omega) (by omega) (by have := hbel.size; simp; omega) ?_; intro v' w1 hown1 hgrow1 _)
      have hs := hst.last hm' hown1 hgrow1
      clear hown1 hgrow1 hst hown hbel
      go_wp2
      go_ret
      exact hs

theorem refPut_mem (n : Nat) (w : World) (hn : n < 18446744073709551616) :
    Calls Try.prog 17 #[.int .u64 n] w fun e w' => ∃ g cap, e = .returned (.slice (some ⟨g, 0, none⟩) (putL n).length cap) ∧
      IsB w' (some ⟨g, 0, none⟩) (putL n) ∧ Below w.heap.size w w' := by
  refine (refPut_any n w hn).mono ?_
  rintro e w' ⟨v, rfl, hown, hb⟩
  obtain ⟨g, cap, rfl, _, h1, h2, h3, h4⟩ := isB_own hown (putL_bytes n) (putL_pos n)
  exact ⟨g, cap, rfl, h4, hb⟩

theorem refWord_any (n : Int) (w : World) (h0 : 0 ≤ n) (h1 : n ≤ 4294967295) :
    Calls Try.prog 19 #[.int .u32 n] w fun e w' => e = .returned (.slice (some ⟨w.heap.size, 0, none⟩) 4 4) ∧ IsB w' (some ⟨w.heap.size, 0, none⟩) (wordL n) ∧ Below w.heap.size w w' := by
  have h : Calls Try.prog 19 #[.int .u32 n] w fun e w' => e = .returned (.slice (some ⟨w.heap.size, 0, none⟩) 4 4) ∧ w.alloc (.cells (cs (wordL n)).toArray 5) = w' := by
    go_enter Try.func19, Try.ntmps19
    go_wp2
    go_ret
    exact ⟨rfl, rfl⟩
  refine h.mono ?_
  rintro e w' ⟨rfl, rfl⟩
  exact ⟨rfl, isB_new w _ (wordL_bytes h0 h1), (Below.refl _ _).alloc (Nat.le_refl _) _⟩

theorem refRead_no (A : Option Addr) (len cap : Nat) (w : World) (h : len ≠ 4) (_hm : len ≤ 9223372036854775807) :
    Calls Try.prog 15 #[.slice A len cap] w fun e w' => e = .returned (.tuple #[.int .u32 0, .bool false]) ∧ Below w.heap.size w w' := by
  have hd : ((len : Int) == 4) = false := by rw [beq_eq_false_iff_ne]; omega
  go_enter Try.func15, Try.ntmps15
  go_wp2
  go_ret2
  exact ⟨rfl, Below.refl _ _⟩

theorem refRead_yes (b o cap : Nat) (x0 x1 x2 x3 : Int) (w : World) (hb0 : 0 ≤ x0 ∧ x0 < 256) (hb1 : 0 ≤ x1 ∧ x1 < 256) (hb2 : 0 ≤ x2 ∧ x2 < 256) (hb3 : 0 ≤ x3 ∧ x3 < 256)
    (c0 : w.cell? ⟨b, o, none⟩ = some (.int .u8 x0)) (c1 : w.cell? ⟨b, o + 1, none⟩ = some (.int .u8 x1)) (c2 : w.cell? ⟨b, o + 2, none⟩ = some (.int .u8 x2)) (c3 : w.cell? ⟨b, o + 3, none⟩ = some (.int .u8 x3)) :
    Calls Try.prog 15 #[.slice (some ⟨b, o, none⟩) 4 cap] w fun e w' => e = .returned (.tuple #[.int .u32 (x0 + 256 * x1 + 65536 * x2 + 16777216 * x3), .bool true]) ∧ Below w.heap.size w w' := by
  obtain ⟨a0, b0⟩ := hb0
  obtain ⟨a1, b1⟩ := hb1
  obtain ⟨a2, b2⟩ := hb2
  obtain ⟨a3, b3⟩ := hb3
  go_enter Try.func15, Try.ntmps15
  go_wp2
  go_quiet (fail)
  go_wp2
  go_ret2
  exact ⟨rfl, below_drewN (Below.refl _ _) _⟩

theorem refRead_any (A : Option Addr) (xs : List Int) (cap : Nat) (w : World) (hm : xs.length ≤ 9223372036854775807) (h : IsB w A xs) :
    Calls Try.prog 15 #[.slice A xs.length cap] w fun e w' => e = .returned (readV xs) ∧ Below w.heap.size w w' := by
  by_cases hx : xs.length = 4
  · obtain ⟨b, o, rfl, hc⟩ := h.2 (by omega)
    match xs, hx with
    | [x0, x1, x2, x3], _ =>
      have hb := h.1
      exact refRead_yes b o cap x0 x1 x2 x3 w (hb x0 (by simp)) (hb x1 (by simp)) (hb x2 (by simp)) (hb x3 (by simp)) (hc 0 (by simp)) (hc 1 (by simp)) (hc 2 (by simp)) (hc 3 (by simp))
  · refine (refRead_no A xs.length cap w hx hm).mono ?_
    rintro e w' ⟨rfl, hb⟩
    exact ⟨by rw [readV, if_neg hx], hb⟩
end Go.Proofs.Ythkkokcghblkpaa.LeG
