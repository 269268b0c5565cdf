/- Put of the document's answers: what they answer; asked: a slice reads as bytes. -/
import Derived.Test.YtbakhodijhacoaaSlB
import Derived.Test.YtbakhodijhacoaaLeMem
import Derived.Test.YtbakhodijhacoaaLeZigMath
import Derived.BigQuiet
import Derived.Deep.QuietTactic
namespace Go.Proofs.Ytbakhodijhacoaa.LeG
open Go.RowKit Go.Proofs.Ytbakhodijhacoaa.LeM Go.Proofs.Ytbakhodijhacoaa.LeZ Go.Proofs.Ytbakhodijhacoaa.LeP Go.Proofs.Ytbakhodijhacoaa.BM

set_option maxRecDepth 100000 in
theorem refPut_any (n : Nat) (w : World) (hn : n < 18446744073709551616) :
    Calls Try.prog 27 #[.int .u64 n] w (Puts n w) := by
  obtain ⟨i0, hi, hz0, hz1, hz2⟩ := info_parts info_u8
  have hL10 := putL_len64 hn
  obtain ⟨L, hLd⟩ : ∃ L, L = (putL n).length := ⟨_, rfl⟩
  rw [← hLd] at hL10
  have HL := Lib.hid hLd
  clear hLd
  go_enter Try.func27, Try.ntmps27
  go_wp2_with fail
  go_loopw [0, 3] (fun nn v wr => ∃ (k m : Nat) (pre : List Int), nn = .int .u64 m ∧ St n w k m pre v wr) (fun nn _ _ => (intOf nn).toNat)
  case atStart => exact ⟨0, n, [], rfl, rfl, rfl, Nat.le_refl _, World.ownsRow_nil _ _ _ _, Below.refl _ _⟩
  case round =>
    obtain ⟨k, m, pre, rfl, hst⟩ := hrel
    have hown := hst.2.2.2.1
    have hbel := hst.2.2.2.2
    have hpl : L = k + (putL m).length := by rw [HL.out, hst.2.1, List.length_append, hst.1]
    have hpm := putL_pos m
    have hmn : m ≤ n := hst.2.2.1
    have hk10 : k + 1 ≤ 10 := by omega
    clear hpl hpm
    by_cases hm : 128 ≤ m
    · go_wp2_with (at_builtin; refine wpList_append_own _ rfl (.tmp 6) (.tmp 11) 28 rfl w.heap.size 5 i0 (.int .u8 0) 1 1 Try.underlying28 hi hz0 hz1 hz2 rfl (by decide) _ _ _ rfl (hown.alloc _) ⟨wr.heap.size, 0, none⟩ 1 1 [.int .u8 ((m : Int) % 128 + 128)] rfl rfl (cell_one_new _ _ _) (fun x hx => by simp at hx; subst hx; rfl) (by unfold maxLen; omega) (by omega) (by have := hbel.size; simp; omega) ?_; intro v' w1 hown1 hgrow1 _)
      have hs := hst.step hm hown1 hgrow1
      clear hown1 hgrow1 hst hown hbel
      go_wp2
      go_roundw
      case rel => exact ⟨k + 1, m / 128, _, by go_num, hs⟩
      case measure => simp [intOf]; omega
    · have hm' : m < 128 := by omega
      go_wp2_with (at_builtin; refine wpList_append_own _ rfl (.tmp 15) (.tmp 18) 28 rfl w.heap.size 5 i0 (.int .u8 0) 1 1 Try.underlying28 hi hz0 hz1 hz2 rfl (by decide) _ _ _ rfl (hown.alloc _) ⟨wr.heap.size, 0, none⟩ 1 1 [.int .u8 (m : Int)] rfl rfl (cell_one_new _ _ _) (fun x hx => by simp at hx; subst hx; rfl) (by unfold maxLen; omega) (by omega) (by have := hbel.size; simp; omega) ?_; intro v' w1 hown1 hgrow1 _)
      have hs := hst.last hm' hown1 hgrow1
      clear hown1 hgrow1 hst hown hbel
      go_wp2
      go_ret
      exact hs

theorem refPut_mem (n : Nat) (w : World) (hn : n < 18446744073709551616) :
    Calls Try.prog 27 #[.int .u64 n] w fun e w' => ∃ g cap, e = .returned (.slice (some ⟨g, 0, none⟩) (putL n).length cap) ∧
      IsB w' (some ⟨g, 0, none⟩) (putL n) ∧ Below w.heap.size w w' := by
  refine (refPut_any n w hn).mono ?_
  rintro e w' ⟨v, rfl, hown, hb⟩
  obtain ⟨g, cap, rfl, _, h1, h2, h3, h4⟩ := isB_own hown (putL_bytes n) (putL_pos n)
  exact ⟨g, cap, rfl, h4, hb⟩
end Go.Proofs.Ytbakhodijhacoaa.LeG
