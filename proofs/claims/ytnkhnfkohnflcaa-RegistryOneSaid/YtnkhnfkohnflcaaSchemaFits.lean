/- Fits: whether a schema goes on with another one; asked: the fields lie where the slices say. -/
import Derived.Test.YtnkhnfkohnflcaaSchemaMay
import Derived.Test.YtnkhnfkohnflcaaSchemaBeg
namespace Go.Proofs.Ytnkhnfkohnflcaa.Sc
open Go.RowKit Go.Proofs.Ytnkhnfkohnflcaa.BM Go.Proofs.Ytnkhnfkohnflcaa.VaM Go.Proofs.Ytnkhnfkohnflcaa.Va Go.Proofs.Ytnkhnfkohnflcaa.ScM

set_option maxRecDepth 100000 in
set_option maxHeartbeats 1000000 in
theorem Fits_any (a b : Sc) (A : Option Addr) (c : Nat) (B : Option Addr) (d : Nat) (w : World) (h : SlF w A a.f c) (k : SlF w B b.f d) (ha : Fine a) (hb : Fine b) :
    Calls Try.prog 37 #[.agg #[.string a.s, .int .i64 a.v, .slice A a.f.length c], .agg #[.string b.s, .int .i64 b.v, .slice B b.f.length d]] w fun e w' => e = .returned (.bool (decide (Fit a b))) ∧ Below w.heap.size w w' := by
  have hs1 : ¬ May a → ¬ Fit a b := fun h e => h e.1
  have hs2 : ¬ May b → ¬ Fit a b := fun h e => h e.2.1
  have hs3 : a.s ≠ b.s → ¬ Fit a b := fun h e => h e.2.2.1
  have hs4 : b.v ≠ a.v + 1 → ¬ Fit a b := fun h e => h e.2.2.2.1
  have hbs := fun h1 h2 h3 h4 => fit_beg (a := a) (b := b) h1 h2 h3 h4
  have hma : May a → 1 ≤ a.v ∧ a.v ≤ 1000 := fun h => ⟨h.2.1, h.2.2.1⟩
  have hbg := fun W (hW : Below w.heap.size w W) => begins_any B b.f d A a.f c W (k.kept hW) (h.kept hW)
  have hm1 := fun W (hW : Below w.heap.size w W) => May_any a A c W (h.kept hW) ha
  have hm2 := fun W (hW : Below w.heap.size w W) => May_any b B d W (k.kept hW) hb
  obtain ⟨E, hE⟩ : ∃ E, E = decide (Fit a b) := ⟨_, rfl⟩
  have hl := slF_len h
  have hm := slF_len k
  by_cases q1 : May a
  · by_cases q2 : May b
    · simp only [decide_eq_true q1] at hm1
      simp only [decide_eq_true q2] at hm2
      obtain ⟨hv0, hv1⟩ := hma q1
      have HBs := Lib.hid (hbs q1 q2)
      have H3 := Lib.hid hs3
      have H4 := Lib.hid hs4
      rw [← hE]
      have HE := Lib.hid hE
      clear hs1 hs2 hs3 hs4 hE h k hbs ha hb hma q1 q2
      obtain ⟨s1, v1, l1⟩ := a
      obtain ⟨s2, v2, l2⟩ := b
      simp only at HBs H3 H4 hl hm hbg hm1 hm2 hv0 hv1 ⊢
      obtain ⟨n, hn⟩ : ∃ n, n = l1.length := ⟨_, rfl⟩
      obtain ⟨r, hr⟩ : ∃ r, r = l2.length := ⟨_, rfl⟩
      rw [← hn, ← hr]
      simp only [← hn, ← hr] at hbg hm1 hm2
      rw [← hn] at hl
      rw [← hr] at hm
      have HBg := Lib.hid hbg
      have HM1 := Lib.hid hm1
      have HM2 := Lib.hid hm2
      clear hbg hn hr hm1 hm2
      have hb1 := (Below.refl w.heap.size w).alloc (Nat.le_refl _) (.cells #[.string s1, .int .i64 v1, .slice A n c] 25)
      have hk := (Below.refl (w.alloc (.cells #[.string s1, .int .i64 v1, .slice A n c] 25)).heap.size (w.alloc (.cells #[.string s1, .int .i64 v1, .slice A n c] 25))).alloc (Nat.le_refl _) (.cells #[.string s2, .int .i64 v2, .slice B r d] 25)
      have hx2 := bx_new_t (w.alloc (.cells #[.string s1, .int .i64 v1, .slice A n c] 25)) 25 (.string s2) (.int .i64 v2) (.slice B r d)
      rw [show (w.alloc (.cells #[.string s1, .int .i64 v1, .slice A n c] 25)).heap.size = w.heap.size + 1 from by simp] at hx2
      have HX1 := Lib.hid ((bx_new_t w 25 (.string s1) (.int .i64 v1) (.slice A n c)).kept hk)
      have HX2 := Lib.hid hx2
      obtain ⟨⟨p0, p1, p2⟩, _⟩ := HX1.out
      obtain ⟨⟨q0, q1, q2⟩, _⟩ := HX2.out
      have HB := Lib.hid (bt hb1 hk)
      clear hb1 hk hx2
      go_enter Try.func37, Try.ntmps37
      go_wp2_with fail
      refine (HM1.out _ HB.out).mono ?_
      rintro e w1 ⟨rfl, hb1⟩
      have HB1 := Lib.hid (bt HB.out hb1)
      have HX11 := Lib.hid (HX1.out.kept hb1)
      have HX21 := Lib.hid (HX2.out.kept hb1)
      obtain ⟨⟨p0, p1, p2⟩, _⟩ := HX11.out
      obtain ⟨⟨q0, q1, q2⟩, _⟩ := HX21.out
      clear hb1 HB HX1 HX2
      go_wp2_with fail
      refine (HM2.out _ HB1.out).mono ?_
      rintro e w2 ⟨rfl, hb2⟩
      have HB2 := Lib.hid (bt HB1.out hb2)
      clear p0 p1 p2 q0 q1 q2
      obtain ⟨⟨p0, p1, p2⟩, _⟩ := HX11.out.kept hb2
      obtain ⟨⟨q0, q1, q2⟩, _⟩ := HX21.out.kept hb2
      clear hb2 HB1 HX11 HX21
      by_cases g1 : s1 = s2
      · subst g1
        have ee : (s1.toList == s1.toList) = true := by simp
        by_cases g2 : v2 = v1 + 1
        · subst g2
          have HEq := Lib.hid (show decide (Beg l2 l1) = E from by rw [HE.out, decide_eq_decide]; exact HBs.out rfl rfl)
          go_wp2_with fail
          refine (HBg.out _ HB2.out).mono ?_
          rintro e w3 ⟨rfl, hb⟩
          rw [HEq.out]
          have HB3 := Lib.hid (bt HB2.out hb)
          clear hb p0 p1 p2 q0 q1 q2
          go_wp2_with fail
          go_ret
          exact ⟨rfl, HB3.out⟩
        · have g2' : (v2 == v1 + 1) = false := by rw [beq_eq_false_iff_ne]; exact g2
          have HEq := Lib.hid (show false = E from by rw [HE.out, decide_eq_false (H4.out g2)])
          clear g2
          go_wp2_with fail
          go_ret
          exact ⟨ret_v (x := .bool false) (by rw [HEq.out]), HB2.out⟩
      · have g1' := str_ne g1
        have HEq := Lib.hid (show false = E from by rw [HE.out, decide_eq_false (H3.out g1)])
        clear g1
        go_wp2_with fail
        go_ret
        exact ⟨ret_v (x := .bool false) (by rw [HEq.out]), HB2.out⟩
    · simp only [decide_eq_true q1] at hm1
      simp only [decide_eq_false q2] at hm2
      have HEq := Lib.hid (show false = decide (Fit a b) from by rw [decide_eq_false (hs2 q2)])
      clear hs1 hs2 hs3 hs4 hE h k hbs ha hb hma q1 q2 hbg
      obtain ⟨s1, v1, l1⟩ := a
      obtain ⟨s2, v2, l2⟩ := b
      simp only at hl hm hm1 hm2 HEq ⊢
      obtain ⟨n, hn⟩ : ∃ n, n = l1.length := ⟨_, rfl⟩
      obtain ⟨r, hr⟩ : ∃ r, r = l2.length := ⟨_, rfl⟩
      rw [← hn, ← hr]
      simp only [← hn, ← hr] at hm1 hm2
      have HM1 := Lib.hid hm1
      have HM2 := Lib.hid hm2
      clear hn hr hm1 hm2 hl hm
      have hb1 := (Below.refl w.heap.size w).alloc (Nat.le_refl _) (.cells #[.string s1, .int .i64 v1, .slice A n c] 25)
      have hk := (Below.refl (w.alloc (.cells #[.string s1, .int .i64 v1, .slice A n c] 25)).heap.size (w.alloc (.cells #[.string s1, .int .i64 v1, .slice A n c] 25))).alloc (Nat.le_refl _) (.cells #[.string s2, .int .i64 v2, .slice B r d] 25)
      have hx2 := bx_new_t (w.alloc (.cells #[.string s1, .int .i64 v1, .slice A n c] 25)) 25 (.string s2) (.int .i64 v2) (.slice B r d)
      rw [show (w.alloc (.cells #[.string s1, .int .i64 v1, .slice A n c] 25)).heap.size = w.heap.size + 1 from by simp] at hx2
      have HX1 := Lib.hid ((bx_new_t w 25 (.string s1) (.int .i64 v1) (.slice A n c)).kept hk)
      have HX2 := Lib.hid hx2
      obtain ⟨⟨p0, p1, p2⟩, _⟩ := HX1.out
      obtain ⟨⟨q0, q1, q2⟩, _⟩ := HX2.out
      have HB := Lib.hid (bt hb1 hk)
      clear hb1 hk hx2
      go_enter Try.func37, Try.ntmps37
      go_wp2_with fail
      refine (HM1.out _ HB.out).mono ?_
      rintro e w1 ⟨rfl, hb1⟩
      have HB1 := Lib.hid (bt HB.out hb1)
      have HX11 := Lib.hid (HX1.out.kept hb1)
      have HX21 := Lib.hid (HX2.out.kept hb1)
      obtain ⟨⟨p0, p1, p2⟩, _⟩ := HX11.out
      obtain ⟨⟨q0, q1, q2⟩, _⟩ := HX21.out
      clear hb1 HB HX1 HX2
      go_wp2_with fail
      refine (HM2.out _ HB1.out).mono ?_
      rintro e w2 ⟨rfl, hb2⟩
      have HB2 := Lib.hid (bt HB1.out hb2)
      clear hb2 HB1 HX11 HX21
      go_wp2_with fail
      go_ret
      exact ⟨ret_v (x := .bool false) (by rw [HEq.out]), HB2.out⟩
  · simp only [decide_eq_false q1] at hm1
    have HEq := Lib.hid (show false = decide (Fit a b) from by rw [decide_eq_false (hs1 q1)])
    clear hs1 hs2 hs3 hs4 hE h k hbs ha hb hma q1 hbg hm2
    obtain ⟨s1, v1, l1⟩ := a
    obtain ⟨s2, v2, l2⟩ := b
    simp only at hl hm hm1 HEq ⊢
    obtain ⟨n, hn⟩ : ∃ n, n = l1.length := ⟨_, rfl⟩
    obtain ⟨r, hr⟩ : ∃ r, r = l2.length := ⟨_, rfl⟩
    rw [← hn, ← hr]
    simp only [← hn] at hm1
    have HM1 := Lib.hid hm1
    clear hn hr hm1 hl hm
    have hb1 := (Below.refl w.heap.size w).alloc (Nat.le_refl _) (.cells #[.string s1, .int .i64 v1, .slice A n c] 25)
    have hk := (Below.refl (w.alloc (.cells #[.string s1, .int .i64 v1, .slice A n c] 25)).heap.size (w.alloc (.cells #[.string s1, .int .i64 v1, .slice A n c] 25))).alloc (Nat.le_refl _) (.cells #[.string s2, .int .i64 v2, .slice B r d] 25)
    obtain ⟨⟨p0, p1, p2⟩, _⟩ := (bx_new_t w 25 (.string s1) (.int .i64 v1) (.slice A n c)).kept hk
    have HB := Lib.hid (bt hb1 hk)
    clear hb1 hk
    go_enter Try.func37, Try.ntmps37
    go_wp2_with fail
    refine (HM1.out _ HB.out).mono ?_
    rintro e w1 ⟨rfl, hb1⟩
    have HB1 := Lib.hid (bt HB.out hb1)
    clear hb1 HB p0 p1 p2
    go_wp2_with fail
    go_ret
    exact ⟨ret_v (x := .bool false) (by rw [HEq.out]), HB1.out⟩
end Go.Proofs.Ytnkhnfkohnflcaa.Sc
