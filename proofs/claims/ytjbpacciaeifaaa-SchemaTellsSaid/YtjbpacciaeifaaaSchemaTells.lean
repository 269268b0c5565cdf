/- The walk of SchemaTells: names, schemas, what fits, bytes, and what bytes begin by, are what the document says; the schemas' parts lie where they say, the string is within the reach. -/
import Derived.Test.YtjbpacciaeifaaaSchemaAwake
import Derived.Test.YtjbpacciaeifaaaSchemaRefGet
import Derived.Test.YtjbpacciaeifaaaSchemaRefPut
import Derived.Test.YtjbpacciaeifaaaSchemaRefSame
import Derived.Test.YtjbpacciaeifaaaSchemaRefFits
import Derived.Test.YtjbpacciaeifaaaOpenSchema
namespace Go.Proofs.Ytjbpacciaeifaaa.Sc
open Go.RowKit Go.Proofs.Ytjbpacciaeifaaa.BM Go.Proofs.Ytjbpacciaeifaaa.LM Go.Proofs.Ytjbpacciaeifaaa.VaM Go.Proofs.Ytjbpacciaeifaaa.Va Go.Proofs.Ytjbpacciaeifaaa.ScM

set_option maxRecDepth 100000 in
set_option maxHeartbeats 8000000 in
theorem tells_walk (s1 : ByteArray) (v1 : Int) (a1 : Option Addr) (n1 c1 : Nat) (s2 : ByteArray) (v2 : Int) (a2 : Option Addr) (n2 c2 : Nat) (x : Option Addr) (len xcap : Nat) (zs : List Int) (st : ByteArray) (w : World)
    (h1 : Op.ArgS w s1 v1 a1 n1 c1) (h2 : Op.ArgS w s2 v2 a2 n2 c2) (hz : RowU8 w x len xcap zs) (hst : st.size ≤ 140737488351232) :
    Calls Try.prog 3 #[.agg #[.string s1, .int .i64 v1, .slice a1 n1 c1], .agg #[.string s2, .int .i64 v2, .slice a2 n2 c2], .slice x len xcap, .string st] w fun e w' => e = .returned (.bool true) ∧ Below w.heap.size w w' := by
  obtain ⟨l1, e1, g1, f1⟩ := h1
  obtain ⟨l2, e2, g2, f2⟩ := h2
  obtain ⟨xs, hxlen, hxs⟩ := row_slB hz
  have hlm : len ≤ 9223372036854775807 := by
    have h1 := hxs.2.1
    have h2 := hxs.2.2.2
    unfold maxLen at h2
    omega
  have hF1 := fun W (hW : Below w.heap.size w W) => Few_any ⟨s1, v1, l1⟩ a1 c1 W (g1.kept hW) f1.1
  have hF2 := fun W (hW : Below w.heap.size w W) => Few_any ⟨s2, v2, l2⟩ a2 c2 W (g2.kept hW) f2.1
  have hP1 := fun W (hW : Below w.heap.size w W) => Put_any ⟨s1, v1, l1⟩ a1 c1 W (g1.kept hW) f1
  have hP2 := fun W (hW : Below w.heap.size w W) => refPut_any ⟨s1, v1, l1⟩ a1 c1 W (g1.kept hW) f1
  have hG1 := fun W (hW : Below w.heap.size w W) => Get_any x xs xcap W (hxs.kept hW)
  have hG2 := fun W (hW : Below w.heap.size w W) => refGet_any x xs xcap W (hxs.kept hW)
  have hN1 := fun W => Name_any st W (by unfold maxLen; omega)
  have hN2 := fun W => refName_any st W (by unfold maxLen; omega)
  have hM1 := fun W (hW : Below w.heap.size w W) => May_any ⟨s1, v1, l1⟩ a1 c1 W (g1.kept hW) f1
  have hM2 := fun W (hW : Below w.heap.size w W) => refMay_any ⟨s1, v1, l1⟩ a1 c1 W (g1.kept hW) f1
  have hT1 := fun W (hW : Below w.heap.size w W) => Fits_any ⟨s1, v1, l1⟩ ⟨s2, v2, l2⟩ a1 c1 a2 c2 W (g1.kept hW) (g2.kept hW) f1 f2
  have hT2 := fun W (hW : Below w.heap.size w W) => refFits_any ⟨s1, v1, l1⟩ ⟨s2, v2, l2⟩ a1 c1 a2 c2 W (g1.kept hW) (g2.kept hW) f1 f2
  have hS1 := fun W (hW : Below w.heap.size w W) => Same_any ⟨s1, v1, l1⟩ ⟨s2, v2, l2⟩ a1 c1 a2 c2 W (g1.kept hW) (g2.kept hW)
  have hS2 := fun W (hW : Below w.heap.size w W) => refSame_any ⟨s1, v1, l1⟩ ⟨s2, v2, l2⟩ a1 c1 a2 c2 W (g1.kept hW) (g2.kept hW)
  unfold Gots at hG1 hG2
  unfold Putted at hP1 hP2
  obtain ⟨⟨⟨gs, gv, gl⟩, gm, gc⟩, hgot⟩ : ∃ r, r = gotS (gS xs) := ⟨_, rfl⟩
  have hgs : gs.size ≤ maxLen ∨ True := Or.inr trivial
  obtain ⟨I, hI⟩ : ∃ I, I = decide (May ⟨s1, v1, l1⟩) := ⟨_, rfl⟩
  obtain ⟨Nn, hNn⟩ : ∃ I, I = decide (Nm st) := ⟨_, rfl⟩
  obtain ⟨Ft, hFt⟩ : ∃ I, I = decide (Fit ⟨s1, v1, l1⟩ ⟨s2, v2, l2⟩) := ⟨_, rfl⟩
  obtain ⟨E, hE⟩ : ∃ I, I = decide ((⟨s1, v1, l1⟩ : Sc) = ⟨s2, v2, l2⟩) := ⟨_, rfl⟩
  obtain ⟨P, hPd⟩ : ∃ I, I = decide (Few ⟨s1, v1, l1⟩) := ⟨_, rfl⟩
  obtain ⟨Q, hQd⟩ : ∃ I, I = decide (Few ⟨s2, v2, l2⟩) := ⟨_, rfl⟩
  obtain ⟨bs, hbs⟩ : ∃ b, b = pv ⟨s1, v1, l1⟩ := ⟨_, rfl⟩
  obtain ⟨L, hL⟩ : ∃ L, L = bs.length := ⟨_, rfl⟩
  simp only [e1, e2, ← hI, ← hNn, ← hFt, ← hE, ← hPd, ← hQd, ← hbs, ← hL, ← hgot, got3] at hF1 hF2 hP1 hP2 hG1 hG2 hN1 hN2 hM1 hM2 hT1 hT2 hS1 hS2
  simp only [hxlen] at hG1 hG2
  have hgS := fun W (A B : Option Addr) (c d : Nat) (hA : SlF W A gl c) (hB : SlF W B gl d) => refSame_any ⟨gs, gv, gl⟩ ⟨gs, gv, gl⟩ A c B d W hA hB
  simp only [decide_true] at hgS
  obtain ⟨ng, hng⟩ : ∃ n, n = gl.length := ⟨_, rfl⟩
  simp only [← hng] at hG1 hG2 hgS
  have HF1 := Lib.hid hF1
  have HF2 := Lib.hid hF2
  have HP1 := Lib.hid hP1
  have HP2 := Lib.hid hP2
  have HG1 := Lib.hid hG1
  have HG2 := Lib.hid hG2
  have HN1 := Lib.hid hN1
  have HN2 := Lib.hid hN2
  have HM1 := Lib.hid hM1
  have HM2 := Lib.hid hM2
  have HT1 := Lib.hid hT1
  have HT2 := Lib.hid hT2
  have HS1 := Lib.hid hS1
  have HS2 := Lib.hid hS2
  have HGs := Lib.hid hgS
  have HLn := Lib.hid hL
  have hb1 := (Below.refl w.heap.size w).alloc (Nat.le_refl _) (.cells #[.string s1, .int .i64 v1, .slice a1 n1 c1] 24)
  have hk := (Below.refl (w.alloc (.cells #[.string s1, .int .i64 v1, .slice a1 n1 c1] 24)).heap.size (w.alloc (.cells #[.string s1, .int .i64 v1, .slice a1 n1 c1] 24))).alloc (Nat.le_refl _) (.cells #[.string s2, .int .i64 v2, .slice a2 n2 c2] 24)
  have hx2 := bx_new_t (w.alloc (.cells #[.string s1, .int .i64 v1, .slice a1 n1 c1] 24)) 24 (.string s2) (.int .i64 v2) (.slice a2 n2 c2)
  rw [show (w.alloc (.cells #[.string s1, .int .i64 v1, .slice a1 n1 c1] 24)).heap.size = w.heap.size + 1 from by simp] at hx2
  have HX := Lib.hid ((bx_new_t w 24 (.string s1) (.int .i64 v1) (.slice a1 n1 c1)).kept hk)
  have HY := Lib.hid hx2
  have HB := Lib.hid (bt hb1 hk)
  clear hF1 hF2 hP1 hP2 hG1 hG2 hN1 hN2 hM1 hM2 hT1 hT2 hS1 hS2 hgS hI hNn hFt hE hPd hQd hbs hL hgot hng hgs hb1 hk hx2 e1 e2 g1 g2 f1 f2 hxs hxlen hz
  go_enter Try.func3, Try.ntmps3
  go_wp2_with fail
  refine (awake_any _).mono ?_
  rintro e w1 ⟨rfl, hb⟩
  have HB1 := Lib.hid (bt HB.out hb)
  have HX1 := Lib.hid (HX.out.kept hb)
  have HY1 := Lib.hid (HY.out.kept hb)
  clear hb HB HX HY
  obtain ⟨⟨p0, p1, p2⟩, _⟩ := HX1.out
  go_wp2_with fail
  refine (HF1.out _ HB1.out).mono ?_
  rintro e w2 ⟨rfl, hb⟩
  have HB2 := Lib.hid (bt HB1.out hb)
  have HX2 := Lib.hid (HX1.out.kept hb)
  have HY2 := Lib.hid (HY1.out.kept hb)
  clear hb HB1 HX1 HY1 p0 p1 p2 HF1
  obtain ⟨⟨p0, p1, p2⟩, _⟩ := HY2.out
  go_wp2_with fail
  refine (HF2.out _ HB2.out).mono ?_
  rintro e w3 ⟨rfl, hb⟩
  have HB3 := Lib.hid (bt HB2.out hb)
  have HX3 := Lib.hid (HX2.out.kept hb)
  have HY3 := Lib.hid (HY2.out.kept hb)
  clear hb HB2 HX2 HY2 p0 p1 p2 HF2
  by_cases hpq : P = true ∧ Q = true ∧ len ≤ 300 ∧ st.size ≤ 60
  · obtain ⟨rfl, rfl, q1, q2⟩ := hpq
    have hd1 : decide ((300 : Int) < (len : Int)) = false := by rw [decide_eq_false_iff_not]; omega
    have hd2 : decide ((60 : Int) < (st.size : Int)) = false := by rw [decide_eq_false_iff_not]; omega
    obtain ⟨⟨p0, p1, p2⟩, _⟩ := HX3.out
    go_wp2_with fail
    refine (HP1.out _ HB3.out).mono ?_
    rintro e w4 ⟨A1, d1, rfl, ht1, _, hb⟩
    have HB4 := Lib.hid (bt HB3.out hb)
    have HX4 := Lib.hid (HX3.out.kept hb)
    have HY4 := Lib.hid (HY3.out.kept hb)
    have HU4 := Lib.hid ht1
    clear hb HB3 HX3 HY3 p0 p1 p2 ht1 HP1
    obtain ⟨⟨p0, p1, p2⟩, _⟩ := HX4.out
    go_wp2_with fail
    refine (HP2.out _ HB4.out).mono ?_
    rintro e w5 ⟨A2, d2, rfl, ht2, _, hb⟩
    have HB5 := Lib.hid (bt HB4.out hb)
    have HX5 := Lib.hid (HX4.out.kept hb)
    have HY5 := Lib.hid (HY4.out.kept hb)
    have HU5 := Lib.hid (HU4.out.kept hb)
    have HV5 := Lib.hid ht2
    clear hb HB4 HX4 HY4 HU4 p0 p1 p2 ht2 HP2
    go_wp2_with fail
    refine (HG1.out _ HB5.out).mono ?_
    rintro e w6 ⟨A3, d3, rfl, hs3, _, hb⟩
    have ha := (Below.refl w6.heap.size w6).alloc (Nat.le_refl _) (.cells #[.string gs, .int .i64 gv, .slice A3 ng d3] 24)
    have HZ7 := Lib.hid (bx_new_t w6 24 (.string gs) (.int .i64 gv) (.slice A3 ng d3))
    have HB7 := Lib.hid (bt HB5.out (bt hb ha))
    have HX7 := Lib.hid (HX5.out.kept (bt hb ha))
    have HY7 := Lib.hid (HY5.out.kept (bt hb ha))
    have HU7 := Lib.hid (HU5.out.kept (bt hb ha))
    have HV7 := Lib.hid (HV5.out.kept (bt hb ha))
    have HS7 := Lib.hid (hs3.kept ha)
    clear hb HB5 HX5 HY5 HU5 HV5 hs3 ha HG1
    go_wp2_with fail
    obtain ⟨w7, hw7⟩ : ∃ w7, w7 = w6.alloc (.cells #[.string gs, .int .i64 gv, .slice A3 ng d3] 24) := ⟨_, rfl⟩
    obtain ⟨b7, hb7⟩ : ∃ b, b = w6.heap.size := ⟨_, rfl⟩
    rw [← hw7] at HZ7 HB7 HX7 HY7 HU7 HV7 HS7 ⊢
    rw [← hb7] at HZ7 ⊢
    clear hw7 hb7
    refine (HG2.out _ HB7.out).mono ?_
    rintro e w8 ⟨A4, d4, rfl, hs4, _, hb⟩
    have ha := (Below.refl w8.heap.size w8).alloc (Nat.le_refl _) (.cells #[.string gs, .int .i64 gv, .slice A4 ng d4] 24)
    have HW9 := Lib.hid (bx_new_t w8 24 (.string gs) (.int .i64 gv) (.slice A4 ng d4))
    have HZ9 := Lib.hid (HZ7.out.kept (bt hb ha))
    have HB9 := Lib.hid (bt HB7.out (bt hb ha))
    have HX9 := Lib.hid (HX7.out.kept (bt hb ha))
    have HY9 := Lib.hid (HY7.out.kept (bt hb ha))
    have HU9 := Lib.hid (HU7.out.kept (bt hb ha))
    have HV9 := Lib.hid (HV7.out.kept (bt hb ha))
    have HS9 := Lib.hid (HS7.out.kept (bt hb ha))
    have HR9 := Lib.hid (hs4.kept ha)
    have hlt := HZ7.out.kept hb
    have hblt := hlt.lt
    clear hb hlt HB7 HX7 HY7 HU7 HV7 HS7 HZ7 hs4 ha HG2
    obtain ⟨⟨p0, p1, p2⟩, _⟩ := HZ9.out
    obtain ⟨⟨q0, q1', q2'⟩, _⟩ := HW9.out
    have HGs9 := Lib.hid (HGs.out _ A3 A4 d3 d4 HS9.out HR9.out)
    clear HGs HS9 HR9
    go_wp2_with fail
    obtain ⟨w9, hw9⟩ : ∃ w9, w9 = w8.alloc (.cells #[.string gs, .int .i64 gv, .slice A4 ng d4] 24) := ⟨_, rfl⟩
    rw [← hw9] at HB9 HX9 HY9 HU9 HV9 HGs9 ⊢
    clear hw9 p0 p1 p2 q0 q1' q2' HZ9 HW9
    refine HGs9.out.mono ?_
    rintro e w10 ⟨rfl, hb⟩
    have HB10 := Lib.hid (bt HB9.out hb)
    have HX10 := Lib.hid (HX9.out.kept hb)
    have HY10 := Lib.hid (HY9.out.kept hb)
    have HU10 := Lib.hid (HU9.out.kept hb)
    have HV10 := Lib.hid (HV9.out.kept hb)
    clear hb HB9 HX9 HY9 HU9 HV9 HGs9
    go_wp2_with fail
    refine (HN2.out _).mono ?_
    rintro e w11 ⟨rfl, rfl⟩
    obtain ⟨⟨p0, p1, p2⟩, _⟩ := HX10.out
    go_wp2_with fail
    refine (HM2.out _ HB10.out).mono ?_
    rintro e w11 ⟨rfl, hb⟩
    have HB11 := Lib.hid (bt HB10.out hb)
    have HX11 := Lib.hid (HX10.out.kept hb)
    have HY11 := Lib.hid (HY10.out.kept hb)
    have HU11 := Lib.hid (HU10.out.kept hb)
    have HV11 := Lib.hid (HV10.out.kept hb)
    clear hb HB10 HX10 HY10 HU10 HV10 p0 p1 p2 HN2 HM2
    obtain ⟨⟨p0, p1, p2⟩, _⟩ := HX11.out
    obtain ⟨⟨q0, q1', q2'⟩, _⟩ := HY11.out
    go_wp2_with fail
    refine (HT2.out _ HB11.out).mono ?_
    rintro e w12 ⟨rfl, hb⟩
    have HB12 := Lib.hid (bt HB11.out hb)
    have HX12 := Lib.hid (HX11.out.kept hb)
    have HY12 := Lib.hid (HY11.out.kept hb)
    have HU12 := Lib.hid (HU11.out.kept hb)
    have HV12 := Lib.hid (HV11.out.kept hb)
    clear hb HB11 HX11 HY11 HU11 HV11 p0 p1 p2 q0 q1' q2' HT2
    obtain ⟨⟨p0, p1, p2⟩, _⟩ := HX12.out
    obtain ⟨⟨q0, q1', q2'⟩, _⟩ := HY12.out
    go_wp2_with fail
    refine (HS2.out _ HB12.out).mono ?_
    rintro e w13 ⟨rfl, hb⟩
    have HB13 := Lib.hid (bt HB12.out hb)
    have HX13 := Lib.hid (HX12.out.kept hb)
    have HY13 := Lib.hid (HY12.out.kept hb)
    have hcx := conv_any (HU12.out.kept hb).1 d1 9 Try.underlying9
    have hcy := conv_any (HV12.out.kept hb).1 d2 9 Try.underlying9
    rw [← HLn.out] at hcx hcy
    obtain ⟨S, hS⟩ : ∃ S, S = strOfNums bs := ⟨_, rfl⟩
    rw [← hS] at hcx hcy
    have hee : (S.toList == S.toList) = true := by simp
    clear hb HB12 HX12 HY12 HU12 HV12 p0 p1 p2 q0 q1' q2' HS2 hS
    go_wp2_with fail
    refine (HN1.out _).mono ?_
    rintro e w14 ⟨rfl, hb⟩
    have HB14 := Lib.hid (bt HB13.out hb)
    have HX14 := Lib.hid (HX13.out.kept hb)
    have HY14 := Lib.hid (HY13.out.kept hb)
    clear hb HB13 HX13 HY13 hcx hcy HN1
    obtain ⟨⟨p0, p1, p2⟩, _⟩ := HX14.out
    go_wp2_with fail
    refine (HM1.out _ HB14.out).mono ?_
    rintro e w15 ⟨rfl, hb⟩
    have HB15 := Lib.hid (bt HB14.out hb)
    have HX15 := Lib.hid (HX14.out.kept hb)
    have HY15 := Lib.hid (HY14.out.kept hb)
    clear hb HB14 HX14 HY14 p0 p1 p2 HM1
    obtain ⟨⟨p0, p1, p2⟩, _⟩ := HX15.out
    obtain ⟨⟨q0, q1', q2'⟩, _⟩ := HY15.out
    go_wp2_with fail
    refine (HT1.out _ HB15.out).mono ?_
    rintro e w16 ⟨rfl, hb⟩
    have HB16 := Lib.hid (bt HB15.out hb)
    have HX16 := Lib.hid (HX15.out.kept hb)
    have HY16 := Lib.hid (HY15.out.kept hb)
    clear hb HB15 HX15 HY15 p0 p1 p2 q0 q1' q2' HT1
    obtain ⟨⟨p0, p1, p2⟩, _⟩ := HX16.out
    obtain ⟨⟨q0, q1', q2'⟩, _⟩ := HY16.out
    go_wp2_with fail
    refine (HS1.out _ HB16.out).mono ?_
    rintro e w17 ⟨rfl, hb⟩
    have HB17 := Lib.hid (bt HB16.out hb)
    clear hb HB16 HX16 HY16 p0 p1 p2 q0 q1' q2' HS1
    go_wp2_with fail
    go_ret
    exact ⟨ret_bool (by first | rfl | simp), HB17.out⟩
  · have hw : P = false ∨ (P = true ∧ Q = false) ∨ (P = true ∧ Q = true ∧ 300 < len) ∨ (P = true ∧ Q = true ∧ len ≤ 300 ∧ 60 < st.size) := by
      cases P
      · exact Or.inl rfl
      · cases Q
        · exact Or.inr (Or.inl ⟨rfl, rfl⟩)
        · by_cases h : len ≤ 300
          · exact Or.inr (Or.inr (Or.inr ⟨rfl, rfl, h, Nat.lt_of_not_le (fun k => hpq ⟨rfl, rfl, h, k⟩)⟩))
          · exact Or.inr (Or.inr (Or.inl ⟨rfl, rfl, by omega⟩))
    clear hpq
    rcases hw with rfl | ⟨rfl, rfl⟩ | ⟨rfl, rfl, q⟩ | ⟨rfl, rfl, q, q'⟩
    · go_wp2_with fail
      go_ret
      exact ⟨ret_bool (by first | rfl | simp), HB3.out⟩
    · go_wp2_with fail
      go_ret
      exact ⟨ret_bool (by first | rfl | simp), HB3.out⟩
    · have hd1 : decide ((300 : Int) < (len : Int)) = true := by rw [decide_eq_true_iff]; omega
      go_wp2_with fail
      go_ret
      exact ⟨ret_bool (by first | rfl | simp), HB3.out⟩
    · have hd1 : decide ((300 : Int) < (len : Int)) = false := by rw [decide_eq_false_iff_not]; omega
      have hd2 : decide ((60 : Int) < (st.size : Int)) = true := by rw [decide_eq_true_iff]; omega
      go_wp2_with fail
      go_ret
      exact ⟨ret_bool (by first | rfl | simp), HB3.out⟩
end Go.Proofs.Ytjbpacciaeifaaa.Sc
