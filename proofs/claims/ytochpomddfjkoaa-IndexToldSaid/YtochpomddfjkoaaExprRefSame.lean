/- Whether two expressions are the same, by the document's answer; asked: the parts lie where the slices say. -/
import Derived.Test.YtochpomddfjkoaaOpRow
import Derived.Test.YtochpomddfjkoaaValueEq
import Derived.BigQuiet
namespace Go.Proofs.Ytochpomddfjkoaa.Ex
open Go.RowKit Go.Proofs.Ytochpomddfjkoaa.BM Go.Proofs.Ytochpomddfjkoaa.VaM Go.Proofs.Ytochpomddfjkoaa.Va Go.Proofs.Ytochpomddfjkoaa.ExM Go.Proofs.Ytochpomddfjkoaa.EvM

theorem eqO_iff {a b : List O} (h : a.length = b.length) : a = b ↔ ∀ j, j < a.length → a.getD j o0 = b.getD j o0 := by
  constructor
  · intro e j _
    rw [e]
  · intro hall
    refine List.ext_getElem h (fun j h1 h2 => ?_)
    have := hall j h1
    rw [List.getD_eq_getElem?_getD, List.getD_eq_getElem?_getD, List.getElem?_eq_getElem h1, List.getElem?_eq_getElem h2] at this
    exact this

set_option maxRecDepth 100000 in
set_option maxHeartbeats 2000000 in
theorem refSame_any (a b : List O) (A : Option Addr) (c : Nat) (B : Option Addr) (d : Nat) (w : World) (h : SlO w A a c) (k : SlO w B b d) :
    Calls Try.prog 27 #[.slice A a.length c, .slice B b.length d] w fun e w' => e = .returned (.bool (decide (a = b))) ∧ Below w.heap.size w w' := by
  have hl := slO_len h
  have hm := slO_len k
  have hq := @eqO_iff a b
  have hne : a.length ≠ b.length → a ≠ b := fun h e => h (by rw [e])
  obtain ⟨n, hn⟩ : ∃ n, n = a.length := ⟨_, rfl⟩
  obtain ⟨r, hr⟩ : ∃ r, r = b.length := ⟨_, rfl⟩
  rw [← hn] at hl ⊢
  rw [← hr] at hm ⊢
  rw [← hn, ← hr] at hq hne
  have HN := Lib.hid hn
  have HR := Lib.hid hr
  have HS := Lib.hid h
  have HT := Lib.hid k
  have HQ := Lib.hid hq
  have HNe := Lib.hid hne
  clear hn hr h k hq hne
  by_cases g : n = r
  · subst g
    have HQ2 := Lib.hid (HQ.out rfl)
    have ee : ((n : Int) != n) = false := by simp
    clear HQ HNe
    go_enter Try.func27, Try.ntmps27
    go_wp2_with fail
    go_loopw [5] (fun i wr => ∃ j : Nat, i = .int .i64 j ∧ j ≤ n ∧ (∀ x, x < j → a.getD x o0 = b.getD x o0) ∧ Below w.heap.size w wr) (fun i _ => n - (intOf i).toNat)
    case atStart => exact ⟨0, rfl, Nat.zero_le _, fun x hx => absurd hx (Nat.not_lt_zero x), Below.refl _ _⟩
    case round =>
      obtain ⟨j, rfl, hj, hsame, hbel⟩ := hrel
      have HSm := Lib.hid hsame
      have HBl := Lib.hid hbel
      clear hsame hbel
      by_cases hjn : j < n
      · obtain ⟨b1, q1, hix1, hc1, _⟩ := HS.out.at j (by rw [← HN.out]; exact hjn)
        obtain ⟨b2, q2, hix2, hc2, _⟩ := HT.out.at j (by rw [← HR.out]; exact hjn)
        obtain ⟨f1, hf1⟩ : ∃ f, f = a.getD j o0 := ⟨_, rfl⟩
        obtain ⟨f2, hf2⟩ : ∃ f, f = b.getD j o0 := ⟨_, rfl⟩
        rw [← hf1] at hc1
        rw [← hf2] at hc2
        have hi1 := fun W => hix1 W n c hjn
        have hi2 := fun W => hix2 W n d hjn
        have HF1 := Lib.hid hf1
        have HF2 := Lib.hid hf2
        have hneq := fun W => neq_o f1 f2 W
        obtain ⟨s, hs⟩ : ∃ s, s = decide (f1 = f2) := ⟨_, rfl⟩
        simp only [← hs] at hneq
        unfold agO at hneq
        have HSs := Lib.hid hs
        obtain ⟨x0, x1, x2, x3, x4⟩ := hc1 wr HBl.out
        obtain ⟨y0, y1, y2, y3, y4⟩ := hc2 wr HBl.out
        clear hc1 hc2 hix1 hix2 hf1 hf2 hs
        obtain ⟨ac, aa, ak, an, az⟩ := f1
        obtain ⟨bc, ba, bk, bn, bz⟩ := f2
        simp only at x0 x1 x2 x3 x4 y0 y1 y2 y3 y4 hneq
        cases s with
        | true =>
          have HSu := Lib.hid (show ∀ x, x < j + 1 → a.getD x o0 = b.getD x o0 from fun x hx => by
            by_cases e : x = j
            · rw [e, ← HF1.out, ← HF2.out]
              exact of_decide_eq_true HSs.out.symm
            · exact HSm.out x (by omega))
          go_wp2_with fail
          go_quiet (fail)
          go_wp2_with fail
          go_roundw
          case rel => exact ⟨j + 1, by go_num, by omega, HSu.out, below_drewN HBl.out _⟩
          case measure => simp [intOf]; omega
        | false =>
          have HNo := Lib.hid (show ¬ a = b from fun h => by
            have h1 := HQ2.out.1 h j hjn
            rw [← HF1.out, ← HF2.out] at h1
            exact absurd h1 (of_decide_eq_false HSs.out.symm))
          go_wp2_with fail
          go_quiet (fail)
          go_wp2_with fail
          go_ret
          exact ⟨ret_v (x := .bool false) (by rw [decide_eq_false HNo.out]), below_drewN HBl.out _⟩
      · obtain rfl : j = n := by omega
        have HYes := Lib.hid (HQ2.out.2 HSm.out)
        go_wp2_with fail
        go_ret
        exact ⟨ret_v (x := .bool true) (by rw [decide_eq_true HYes.out]), HBl.out⟩
  · have g' : ((n : Int) != r) = true := by rw [bne_iff_ne]; omega
    have HNo := Lib.hid (HNe.out g)
    clear g
    go_enter Try.func27, Try.ntmps27
    go_wp2_with fail
    go_ret
    exact ⟨ret_v (x := .bool false) (by rw [decide_eq_false HNo.out]), Below.refl _ _⟩
end Go.Proofs.Ytochpomddfjkoaa.Ex
