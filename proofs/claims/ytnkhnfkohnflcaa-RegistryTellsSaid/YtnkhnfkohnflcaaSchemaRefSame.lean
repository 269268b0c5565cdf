/- Same and Fits of the document's answers; asked: the fields lie where the slices say. -/
import Derived.Test.YtnkhnfkohnflcaaSchemaRefMay
import Derived.Test.YtnkhnfkohnflcaaSchemaBeg
namespace Go.Proofs.Ytnkhnfkohnflcaa.Sc
open Go.RowKit Go.Proofs.Ytnkhnfkohnflcaa.BM Go.Proofs.Ytnkhnfkohnflcaa.VaM Go.Proofs.Ytnkhnfkohnflcaa.Va Go.Proofs.Ytnkhnfkohnflcaa.ScM

set_option maxRecDepth 100000 in
set_option maxHeartbeats 2000000 in
theorem refSame_any (a b : Sc) (A : Option Addr) (c : Nat) (B : Option Addr) (d : Nat) (w : World) (h : SlF w A a.f c) (k : SlF w B b.f d) :
    Calls Try.prog 16 #[.agg #[.string a.s, .int .i64 a.v, .slice A a.f.length c], .agg #[.string b.s, .int .i64 b.v, .slice B b.f.length d]] w fun e w' => e = .returned (.bool (decide (a = b))) ∧ Below w.heap.size w w' := by
  have hbs := fun h1 h2 h3 => beg_same (a := a) (b := b) h1 h2 h3
  have hs1 : a.s ≠ b.s → a ≠ b := fun h e => h (by rw [e])
  have hs2 : a.v ≠ b.v → a ≠ b := fun h e => h (by rw [e])
  have hs3 : a.f.length ≠ b.f.length → a ≠ b := fun h e => h (by rw [e])
  obtain ⟨E, hE⟩ : ∃ E, E = decide (a = b) := ⟨_, rfl⟩
  rw [← hE]
  have hl := slF_len h
  have hm := slF_len k
  have HBs := Lib.hid hbs
  have H1 := Lib.hid hs1
  have H2 := Lib.hid hs2
  have H3 := Lib.hid hs3
  have HE := Lib.hid hE
  have HS := Lib.hid h
  have HT := Lib.hid k
  clear hs1 hs2 hs3 hE h k hbs
  obtain ⟨s1, v1, l1⟩ := a
  obtain ⟨s2, v2, l2⟩ := b
  simp only at HBs H1 H2 H3 hl hm HS HT ⊢
  obtain ⟨n, hn⟩ : ∃ n, n = l1.length := ⟨_, rfl⟩
  obtain ⟨r, hr⟩ : ∃ r, r = l2.length := ⟨_, rfl⟩
  rw [← hn, ← hr] at HBs H3 ⊢
  rw [← hn] at hl
  rw [← hr] at hm
  have HN := Lib.hid hn
  have HR := Lib.hid hr
  clear hn hr
  have hb1 := (Below.refl w.heap.size w).alloc (Nat.le_refl _) (.cells #[.string s1, .int .i64 v1, .slice A n c] 25)
  have hk := (Below.refl (w.alloc (.cells #[.string s1, .int .i64 v1, .slice A n c] 25)).heap.size (w.alloc (.cells #[.string s1, .int .i64 v1, .slice A n c] 25))).alloc (Nat.le_refl _) (.cells #[.string s2, .int .i64 v2, .slice B r d] 25)
  have hx2 := bx_new_t (w.alloc (.cells #[.string s1, .int .i64 v1, .slice A n c] 25)) 25 (.string s2) (.int .i64 v2) (.slice B r d)
  rw [show (w.alloc (.cells #[.string s1, .int .i64 v1, .slice A n c] 25)).heap.size = w.heap.size + 1 from by simp] at hx2
  have HX1 := Lib.hid ((bx_new_t w 25 (.string s1) (.int .i64 v1) (.slice A n c)).kept hk)
  have HX2 := Lib.hid hx2
  obtain ⟨⟨p0, p1, p2⟩, _⟩ := HX1.out
  obtain ⟨⟨q0, q1, q2⟩, _⟩ := HX2.out
  have HB := Lib.hid (bt hb1 hk)
  clear hb1 hk hx2
  by_cases g1 : s1 = s2
  · subst g1
    have ee : (s1.toList == s1.toList) = true := by simp
    by_cases g2 : v1 = v2
    · subst g2
      have ee2 : (v1 != v1) = false := by simp
      by_cases g3 : n = r
      · subst g3
        have ee3 : ((n : Int) != n) = false := by simp
        have hEq : decide (Beg l1 l2) = E := by rw [HE.out, decide_eq_decide]; exact HBs.out rfl rfl rfl
        have hbi := beg_iff (l := l1) (m := l2) (by rw [← HN.out, ← HR.out]; exact Nat.le_refl _)
        rw [← HR.out] at hbi
        have HEq := Lib.hid hEq
        have HBi := Lib.hid hbi
        clear hEq hbi
        go_enter Try.func16, Try.ntmps16
        go_wp2_with fail
        obtain ⟨w1, hw1⟩ : ∃ w1, w1 = (w.alloc (.cells #[.string s1, .int .i64 v1, .slice A n c] 25)).alloc (.cells #[.string s1, .int .i64 v1, .slice B n d] 25) := ⟨_, rfl⟩
        rw [← hw1] at HB HX1 HX2 ⊢
        clear hw1 p0 p1 p2 q0 q1 q2
        go_loopw [5] (fun i wr => ∃ j : Nat, i = .int .i64 j ∧ j ≤ n ∧ (∀ x, x < j → l1.getD x d0 = l2.getD x d0) ∧ Below w1.heap.size w1 wr) (fun i _ => n - (intOf i).toNat)
        case atStart => exact ⟨0, rfl, Nat.zero_le _, fun x hx => absurd hx (Nat.not_lt_zero x), Below.refl _ _⟩
        case round =>
          obtain ⟨j, rfl, hj, hsame, hbel⟩ := hrel
          have HSm := Lib.hid hsame
          have HBl := Lib.hid hbel
          clear hsame hbel
          obtain ⟨⟨_, _, p2⟩, _⟩ := HX1.out.kept HBl.out
          obtain ⟨⟨_, _, q2⟩, _⟩ := HX2.out.kept HBl.out
          by_cases hjr : j < n
          · obtain ⟨b1, q1, hix1, hc1, _⟩ := HS.out.at j (by rw [← HN.out]; omega)
            obtain ⟨b2, q2', hix2, hc2, _⟩ := HT.out.at j (by rw [← HR.out]; omega)
            obtain ⟨⟨t1, k1⟩, hf1⟩ : ∃ f, f = l1.getD j d0 := ⟨_, rfl⟩
            obtain ⟨⟨t2, k2⟩, hf2⟩ : ∃ f, f = l2.getD j d0 := ⟨_, rfl⟩
            rw [← hf1] at hc1
            rw [← hf2] at hc2
            obtain ⟨c0, c1⟩ := hc2 wr (bt HB.out HBl.out)
            obtain ⟨e0, e1⟩ := hc1 wr (bt HB.out HBl.out)
            simp only at c0 c1 e0 e1
            have hi1 := fun W => hix1 W n c (by omega)
            have hi2 := fun W => hix2 W n d (by omega)
            have hne := fun W => neq_f t1 t2 k1 k2 W
            have HF1 := Lib.hid hf1
            have HF2 := Lib.hid hf2
            clear hc1 hc2 hix1 hix2 hf1 hf2
            by_cases he : (⟨t1, k1⟩ : F) = ⟨t2, k2⟩
            · have hsucc : ∀ x, x < j + 1 → l1.getD x d0 = l2.getD x d0 := fun x hx => by
                by_cases e : x = j
                · rw [e, ← HF1.out, ← HF2.out, he]
                · exact HSm.out x (by omega)
              simp only [decide_eq_true he, Bool.not_true] at hne
              have HSu := Lib.hid hsucc
              clear he hsucc
              go_wp2_with fail
              go_quiet (fail)
              go_wp2_with fail
              go_roundw
              case rel => exact ⟨j + 1, by go_num, by omega, HSu.out, below_drewN HBl.out _⟩
              case measure => simp [intOf]; omega
            · simp only [decide_eq_false he, Bool.not_false] at hne
              have HNo := Lib.hid (show false = E from by rw [← HEq.out, decide_eq_false (fun h => he (by rw [HF1.out, HF2.out]; exact HBi.out.1 h j hjr))])
              clear he
              go_wp2_with fail
              go_quiet (fail)
              go_wp2_with fail
              go_ret
              exact ⟨ret_v (x := .bool false) (by rw [HNo.out]), below_drewN (bt HB.out HBl.out) _⟩
          · obtain rfl : j = n := by omega
            have HYes := Lib.hid (show true = E from by rw [← HEq.out, decide_eq_true (HBi.out.2 HSm.out)])
            go_wp2_with fail
            go_ret
            exact ⟨ret_v (x := .bool true) (by rw [HYes.out]), bt HB.out HBl.out⟩
      · have g3' : ((n : Int) != r) = true := by rw [bne_iff_ne]; omega
        have HEq := Lib.hid (show false = E from by rw [HE.out, decide_eq_false (H3.out g3)])
        go_enter Try.func16, Try.ntmps16
        go_wp2_with fail
        go_ret
        exact ⟨ret_v (x := .bool false) (by rw [HEq.out]), HB.out⟩
    · have g2' : (v1 != v2) = true := by rw [bne_iff_ne]; exact g2
      have HEq := Lib.hid (show false = E from by rw [HE.out, decide_eq_false (H2.out g2)])
      clear g2
      go_enter Try.func16, Try.ntmps16
      go_wp2_with fail
      go_ret
      exact ⟨ret_v (x := .bool false) (by rw [HEq.out]), HB.out⟩
  · have g1' := str_ne g1
    have HEq := Lib.hid (show false = E from by rw [HE.out, decide_eq_false (H1.out g1)])
    clear g1
    go_enter Try.func16, Try.ntmps16
    go_wp2_with fail
    go_ret
    exact ⟨ret_v (x := .bool false) (by rw [HEq.out]), HB.out⟩
end Go.Proofs.Ytnkhnfkohnflcaa.Sc
