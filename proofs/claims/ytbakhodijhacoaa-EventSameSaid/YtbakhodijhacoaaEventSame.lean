/- slices.Equal of values, Same of the program and of the document's answers; asked: the values lie where the slices say. -/
import Derived.Test.YtbakhodijhacoaaEventMath
import Derived.Test.YtbakhodijhacoaaValueRow
import Derived.Test.YtbakhodijhacoaaValueEq
import Derived.BigQuiet
import Derived.Deep.QuietTactic
namespace Go.Proofs.Ytbakhodijhacoaa.Ev
open Go.RowKit Go.Proofs.Ytbakhodijhacoaa.BM Go.Proofs.Ytbakhodijhacoaa.EvM
open Go.Proofs.Ytbakhodijhacoaa.VaM (V)
open Go.Proofs.Ytbakhodijhacoaa.Va (SlV slV_len bx_new_t Bx CellV neq_v same same_iff ret_v)

theorem vals_iff {l m : List V} (h : l.length = m.length) : l = m ↔ ∀ j, j < l.length → l.getD j v0 = m.getD j v0 := by
  constructor
  · rintro rfl j _
    rfl
  · intro hh
    apply List.ext_getElem h
    intro i h1 h2
    have h3 := hh i h1
    rw [List.getD_eq_getElem?_getD, List.getD_eq_getElem?_getD, List.getElem?_eq_getElem h1, List.getElem?_eq_getElem h2] at h3
    exact h3

set_option maxRecDepth 100000 in
set_option maxHeartbeats 2000000 in
theorem equal_any (A : Option Addr) (l : List V) (c : Nat) (B : Option Addr) (m : List V) (d : Nat) (w : World) (h : SlV w A l c) (k : SlV w B m d) :
    Calls Try.prog 39 #[.slice A l.length c, .slice B m.length d] w fun e w' => e = .returned (.bool (decide (l = m))) ∧ Below w.heap.size w w' := by
  have hl := slV_len h
  have hm := slV_len k
  have hbi := fun hh => vals_iff (l := l) (m := m) hh
  have hno : l.length ≠ m.length → ¬ l = m := fun h1 h2 => h1 (by rw [h2])
  obtain ⟨n, hn⟩ : ∃ n, n = l.length := ⟨_, rfl⟩
  obtain ⟨r, hr⟩ : ∃ r, r = m.length := ⟨_, rfl⟩
  rw [← hn, ← hr] at hbi hno ⊢
  rw [← hn] at hl
  rw [← hr] at hm
  have HN := Lib.hid hn
  have HR := Lib.hid hr
  have HS := Lib.hid h
  have HT := Lib.hid k
  have HBi := Lib.hid hbi
  have HNo := Lib.hid hno
  clear hbi hno hn hr h k
  by_cases hlt : n = r
  · subst hlt
    have HB := Lib.hid (HBi.out rfl)
    clear HBi HNo
    go_enter Try.func39, Try.ntmps39
    go_wp2_with fail
    go_loopw [13] (fun i wr => ∃ j : Nat, i = .int .i64 j ∧ j ≤ n ∧ (∀ x, x < j → l.getD x v0 = m.getD x v0) ∧ Below w.heap.size w wr) (fun i _ => n - (intOf i).toNat)
    case atStart => exact ⟨0, rfl, Nat.zero_le _, fun x hx => absurd hx (Nat.not_lt_zero x), Below.refl _ _⟩
    case round =>
      obtain ⟨j, rfl, hj, hsame, hbel⟩ := hrel
      have HSm := Lib.hid hsame
      have HBl := Lib.hid hbel
      clear hsame hbel
      by_cases hjr : j < n
      · obtain ⟨b1, q1, hix1, hc1, _⟩ := HS.out.at v0 j (by rw [← HN.out]; omega)
        obtain ⟨b2, q2, hix2, hc2, _⟩ := HT.out.at v0 j (by rw [← HR.out]; omega)
        obtain ⟨⟨k1, n1, s1⟩, hf1⟩ : ∃ f, f = l.getD j v0 := ⟨_, rfl⟩
        obtain ⟨⟨k2, n2, s2⟩, hf2⟩ : ∃ f, f = m.getD j v0 := ⟨_, rfl⟩
        rw [← hf1] at hc1
        rw [← hf2] at hc2
        obtain ⟨c0, c1, c2⟩ := hc2 wr HBl.out
        obtain ⟨e0, e1, e2⟩ := hc1 wr HBl.out
        simp only at c0 c1 c2 e0 e1 e2
        have hi1 := fun W => hix1 W n c (by omega)
        have hi2 := fun W => hix2 W n d hjr
        have hne := fun W => neq_v k1 n1 k2 n2 s1 s2 W
        have HF1 := Lib.hid hf1
        have HF2 := Lib.hid hf2
        clear hc1 hc2 hix1 hix2 hf1 hf2
        by_cases he : (⟨k1, n1, s1⟩ : V) = ⟨k2, n2, s2⟩
        · have hsucc : ∀ x, x < j + 1 → l.getD x v0 = m.getD x v0 := fun x hx => by
            by_cases e : x = j
            · rw [e, ← HF1.out, ← HF2.out, he]
            · exact HSm.out x (by omega)
          simp only [same_iff.2 he, Bool.not_true] at hne
          have HSu := Lib.hid hsucc
          clear he hsucc
          go_wp2_with fail
          go_quiet (fail)
          go_wp2_with fail
          go_roundw
          case rel => exact ⟨j + 1, by go_num, by omega, HSu.out, below_drewN HBl.out _⟩
          case measure => simp [intOf]; omega
        · have hs : same ⟨k1, n1, s1⟩ ⟨k2, n2, s2⟩ = false := by
            cases hx : same ⟨k1, n1, s1⟩ ⟨k2, n2, s2⟩
            · rfl
            · exact absurd (same_iff.1 hx) he
          simp only [hs, Bool.not_false] at hne
          have HNo := Lib.hid (show ¬ l = m from fun h => he (by rw [HF1.out, HF2.out]; exact HB.out.1 h j hjr))
          clear he hs
          go_wp2_with fail
          go_quiet (fail)
          go_wp2_with fail
          go_ret
          exact ⟨ret_v (x := .bool false) (by rw [decide_eq_false HNo.out]), below_drewN HBl.out _⟩
      · obtain rfl : j = n := by omega
        have HYes := Lib.hid (HB.out.2 HSm.out)
        go_wp2_with fail
        go_ret
        exact ⟨ret_v (x := .bool true) (by rw [decide_eq_true HYes.out]), HBl.out⟩
  · have HNo' := Lib.hid (HNo.out hlt)
    have hd1 : ((n : Int) == r) = false := by rw [beq_eq_false_iff_ne]; omega
    go_enter Try.func39, Try.ntmps39
    go_wp2_with fail
    go_ret
    exact ⟨ret_v (x := .bool false) (by rw [decide_eq_false HNo'.out]), Below.refl _ _⟩

theorem ev_ne {a b : Ev} : (a.s ≠ b.s → ¬ a = b) ∧ (a.t ≠ b.t → ¬ a = b) ∧ (a.v.length ≠ b.v.length → ¬ a = b) ∧ (a.s = b.s → a.t = b.t → (a = b ↔ a.v = b.v)) :=
  ⟨fun h e => h (by rw [e]), fun h e => h (by rw [e]), fun h e => h (by rw [e]), fun h1 h2 => ⟨fun e => by rw [e], fun h3 => Ev.same h1 h2 h3⟩⟩

set_option maxRecDepth 100000 in
set_option maxHeartbeats 2000000 in
theorem Same_any (a b : Ev) (A : Option Addr) (c : Nat) (B : Option Addr) (d : Nat) (w : World) (h : SlV w A a.v c) (k : SlV w B b.v d) :
    Calls Try.prog 19 #[.agg #[.string a.s, .int .i64 a.t, .slice A a.v.length c], .agg #[.string b.s, .int .i64 b.t, .slice B b.v.length d]] w fun e w' => e = .returned (.bool (decide (a = b))) ∧ Below w.heap.size w w' := by
  obtain ⟨hs1, hs2, _, hs4⟩ := @ev_ne a b
  have heq := fun W (hW : Below w.heap.size w W) => equal_any A a.v c B b.v d W (h.kept hW) (k.kept hW)
  obtain ⟨E, hE⟩ : ∃ E, E = decide (a = b) := ⟨_, rfl⟩
  rw [← hE]
  have H1 := Lib.hid hs1
  have H2 := Lib.hid hs2
  have H4 := Lib.hid hs4
  have HE := Lib.hid hE
  clear hs1 hs2 hs4 hE h k
  obtain ⟨s1, v1, l1⟩ := a
  obtain ⟨s2, v2, l2⟩ := b
  simp only at H1 H2 H4 heq ⊢
  obtain ⟨n, hn⟩ : ∃ n, n = l1.length := ⟨_, rfl⟩
  obtain ⟨r, hr⟩ : ∃ r, r = l2.length := ⟨_, rfl⟩
  rw [← hn, ← hr]
  simp only [← hn, ← hr] at heq
  have HEq := Lib.hid heq
  clear heq hn hr
  have hb1 := (Below.refl w.heap.size w).alloc (Nat.le_refl _) (.cells #[.string s1, .int .i64 v1, .slice A n c] 27)
  have hk := (Below.refl (w.alloc (.cells #[.string s1, .int .i64 v1, .slice A n c] 27)).heap.size (w.alloc (.cells #[.string s1, .int .i64 v1, .slice A n c] 27))).alloc (Nat.le_refl _) (.cells #[.string s2, .int .i64 v2, .slice B r d] 27)
  have hx2 := bx_new_t (w.alloc (.cells #[.string s1, .int .i64 v1, .slice A n c] 27)) 27 (.string s2) (.int .i64 v2) (.slice B r d)
  rw [show (w.alloc (.cells #[.string s1, .int .i64 v1, .slice A n c] 27)).heap.size = w.heap.size + 1 from by simp] at hx2
  obtain ⟨⟨p0, p1, p2⟩, _⟩ := (bx_new_t w 27 (.string s1) (.int .i64 v1) (.slice A n c)).kept hk
  obtain ⟨⟨q0, q1, q2⟩, _⟩ := hx2
  have HB := Lib.hid (bt hb1 hk)
  clear hb1 hk
  by_cases g1 : s1 = s2
  · subst g1
    have ee : (s1.toList == s1.toList) = true := by simp
    by_cases g2 : v1 = v2
    · subst g2
      have HV := Lib.hid (show decide (l1 = l2) = E from by rw [HE.out, decide_eq_decide]; exact (H4.out rfl rfl).symm)
      go_enter Try.func19, Try.ntmps19
      go_wp2_with fail
      refine (HEq.out _ HB.out).mono ?_
      rintro e w1 ⟨rfl, hb2⟩
      rw [HV.out]
      have HB2 := Lib.hid (bt HB.out hb2)
      clear hb2 p0 p1 p2 q0 q1 q2
      go_wp2_with fail
      go_ret
      exact ⟨rfl, HB2.out⟩
    · have hd : (v1 == v2) = false := by rw [beq_eq_false_iff_ne]; exact g2
      have HV := Lib.hid (show E = false from by rw [HE.out, decide_eq_false (H2.out g2)])
      clear g2
      go_enter Try.func19, Try.ntmps19
      go_wp2_with fail
      go_ret
      exact ⟨ret_v (x := .bool false) (by rw [HV.out]), HB.out⟩
  · have ee := str_ne g1
    have HV := Lib.hid (show E = false from by rw [HE.out, decide_eq_false (H1.out g1)])
    clear g1
    go_enter Try.func19, Try.ntmps19
    go_wp2_with fail
    go_ret
    exact ⟨ret_v (x := .bool false) (by rw [HV.out]), HB.out⟩
end Go.Proofs.Ytbakhodijhacoaa.Ev
