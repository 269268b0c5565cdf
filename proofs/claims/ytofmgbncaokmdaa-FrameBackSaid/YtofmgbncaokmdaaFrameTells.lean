/- The walk of FrameTells: any bytes are packed, and any framer is fed, as the document says; no condition. -/
import Derived.Test.YtofmgbncaokmdaaFrameAwake
import Derived.Test.YtofmgbncaokmdaaFrameRefFeed
namespace Go.Proofs.Ytofmgbncaokmdaa.Fr
open Go.RowKit Go.Proofs.Ytofmgbncaokmdaa.BM Go.Proofs.Ytofmgbncaokmdaa.LM Go.Proofs.Ytofmgbncaokmdaa.Std Go.Proofs.Ytofmgbncaokmdaa.FrM

/-- What Pack answers: the bytes, and whether it is. -/
def packR (xs : List Int) : List Int × Bool := if xs.length ≤ 512 then (pk xs, true) else ([], false)

theorem Pack_any (A : Option Addr) (xs : List Int) (c : Nat) (w : World) (h : SlB w A xs c) :
    Calls Try.prog 11 #[.slice A xs.length c] w fun e w' => ∃ A' c', e = .returned (.tuple #[.slice A' (packR xs).1.length c', .bool (packR xs).2]) ∧ SlB w' A' (packR xs).1 c' ∧ Below w.heap.size w w' := by
  have hc := h.2.1
  have hm := h.2.2.2
  unfold maxLen at hm
  by_cases hl : xs.length ≤ 512
  · rw [packR, if_pos hl]
    refine (Pack_yes A xs c w h hl).mono ?_
    rintro e w' ⟨A', c', rfl, h1, _, h2⟩
    exact ⟨A', c', rfl, h1, h2⟩
  · rw [packR, if_neg hl]
    refine (Pack_no A xs.length c w (by omega) (by omega)).mono ?_
    rintro e w' ⟨rfl, rfl⟩
    exact ⟨none, 0, rfl, slB_none _, Below.refl _ _⟩

theorem refPack_any (A : Option Addr) (xs : List Int) (c : Nat) (w : World) (h : SlB w A xs c) :
    Calls Try.prog 12 #[.slice A xs.length c] w fun e w' => ∃ A' c', e = .returned (.tuple #[.slice A' (packR xs).1.length c', .bool (packR xs).2]) ∧ SlB w' A' (packR xs).1 c' ∧ Below w.heap.size w w' := by
  have hc := h.2.1
  have hm := h.2.2.2
  unfold maxLen at hm
  by_cases hl : xs.length ≤ 512
  · rw [packR, if_pos hl]
    refine (refPack_yes A xs c w h hl).mono ?_
    rintro e w' ⟨A', c', rfl, h1, h2⟩
    exact ⟨A', c', rfl, h1, h2⟩
  · rw [packR, if_neg hl]
    refine (refPack_no A xs.length c w (by omega) (by omega)).mono ?_
    rintro e w' ⟨rfl, rfl⟩
    exact ⟨none, 0, rfl, slB_none _, Below.refl _ _⟩

theorem refFeed_later (d : Bool) (A B : Option Addr) (xs ys : List Int) (n m c k : Nat) (w : World) (h : SlB w A xs c) (g : SlB w B ys k) (hn : xs.length = n) (hk : ys.length = m) (hm : n + m ≤ 100000000) (r : R) (hr : feed' d xs ys = r) :
    ∀ W, Below w.heap.size w W → Calls Try.prog 14 #[.agg #[.slice A n c, .bool d], .slice B m k] W (FeedRes W r) := by
  subst hn
  subst hk
  subst hr
  intro W hW
  cases d with
  | true => exact refFeed_dead A B xs ys.length c k W (h.kept hW)
  | false => exact refFeed_all A B xs ys (xs ++ ys) c k W (h.kept hW) (g.kept hW) hm rfl

set_option maxRecDepth 100000 in
set_option maxHeartbeats 1000000 in
theorem tells_up (a0 : Option Addr) (len0 cap0 : Nat) (d0 : Bool) (a1 : Option Addr) (len1 cap1 : Nat) (a2 : Option Addr) (len2 cap2 : Nat) (d2 : Bool) (w : World) (l0 : len0 ≤ 9223372036854775807) (l1 : len1 ≤ 9223372036854775807) (l2 : len2 ≤ 9223372036854775807)
    (h : 1500 < len0 ∨ 1500 < len1 ∨ 1500 < len2) :
    Calls Try.prog 3 #[.agg #[.slice a0 len0 cap0, .bool d0], .slice a1 len1 cap1, .agg #[.slice a2 len2 cap2, .bool d2]] w fun e w' => e = .returned (.bool true) ∧ Below w.heap.size w w' := by
  have ha := ((Below.refl w.heap.size w).alloc (Nat.le_refl _) (.cells #[.slice a0 len0 cap0, .bool d0] 24)).alloc (by simp) (.cells #[.slice a2 len2 cap2, .bool d2] 24)
  have hk := (Below.refl (w.alloc (.cells #[.slice a0 len0 cap0, .bool d0] 24)).heap.size (w.alloc (.cells #[.slice a0 len0 cap0, .bool d0] 24))).alloc (Nat.le_refl _) (.cells #[.slice a2 len2 cap2, .bool d2] 24)
  have hbg := box_new (w.alloc (.cells #[.slice a0 len0 cap0, .bool d0] 24)) (.slice a2 len2 cap2) (.bool d2)
  rw [show (w.alloc (.cells #[.slice a0 len0 cap0, .bool d0] 24)).heap.size = w.heap.size + 1 from by simp] at hbg
  have HBf := Lib.hid ((box_new w (.slice a0 len0 cap0) (.bool d0)).kept hk)
  have HBg := Lib.hid hbg
  have Haw := Lib.hid (awake_any ((w.alloc (.cells #[.slice a0 len0 cap0, .bool d0] 24)).alloc (.cells #[.slice a2 len2 cap2, .bool d2] 24)))
  have HA := Lib.hid ha
  clear ha hk hbg
  by_cases h0 : 1500 < len0
  · clear h
    go_enter Try.func3, Try.ntmps3
    go_wp2_with fail
    refine Haw.out.mono ?_
    rintro e w1 ⟨rfl, hb1⟩
    obtain ⟨p0, p1, p2, p3⟩ := HBf.out.kept hb1
    have HB := Lib.hid (bt HA.out hb1)
    clear hb1
    go_wp2_with fail
    go_ret
    exact ⟨rfl, HB.out⟩
  · by_cases h1 : 1500 < len1
    · clear h
      go_enter Try.func3, Try.ntmps3
      go_wp2_with fail
      refine Haw.out.mono ?_
      rintro e w1 ⟨rfl, hb1⟩
      obtain ⟨p0, p1, p2, p3⟩ := HBf.out.kept hb1
      have HB := Lib.hid (bt HA.out hb1)
      clear hb1
      go_wp2_with fail
      go_ret
      exact ⟨rfl, HB.out⟩
    · have h2 : 1500 < len2 := by omega
      clear h
      go_enter Try.func3, Try.ntmps3
      go_wp2_with fail
      refine Haw.out.mono ?_
      rintro e w1 ⟨rfl, hb1⟩
      obtain ⟨p0, p1, p2, p3⟩ := HBf.out.kept hb1
      obtain ⟨q0, q1, q2, q3⟩ := HBg.out.kept hb1
      have HB := Lib.hid (bt HA.out hb1)
      clear hb1
      go_wp2_with fail
      go_ret
      exact ⟨rfl, HB.out⟩

set_option maxRecDepth 100000 in
set_option maxHeartbeats 2000000 in
theorem tells_in (a0 : Option Addr) (fb : List Int) (len0 cap0 : Nat) (d0 : Bool) (a1 : Option Addr) (b : List Int) (len1 cap1 : Nat) (a2 : Option Addr) (gb : List Int) (len2 cap2 : Nat) (d2 : Bool) (w : World) (l0 : len0 ≤ 1500) (l1 : len1 ≤ 1500) (l2 : len2 ≤ 1500)
    (e0 : fb.length = len0) (e1 : b.length = len1) (e2 : gb.length = len2) (s0 : SlB w a0 fb cap0) (s1 : SlB w a1 b cap1) (s2 : SlB w a2 gb cap2) :
    Calls Try.prog 3 #[.agg #[.slice a0 len0 cap0, .bool d0], .slice a1 len1 cap1, .agg #[.slice a2 len2 cap2, .bool d2]] w fun e w' => e = .returned (.bool true) ∧ Below w.heap.size w w' := by
  have ha := ((Below.refl w.heap.size w).alloc (Nat.le_refl _) (.cells #[.slice a0 len0 cap0, .bool d0] 24)).alloc (by simp) (.cells #[.slice a2 len2 cap2, .bool d2] 24)
  have hk := (Below.refl (w.alloc (.cells #[.slice a0 len0 cap0, .bool d0] 24)).heap.size (w.alloc (.cells #[.slice a0 len0 cap0, .bool d0] 24))).alloc (Nat.le_refl _) (.cells #[.slice a2 len2 cap2, .bool d2] 24)
  have hbg := box_new (w.alloc (.cells #[.slice a0 len0 cap0, .bool d0] 24)) (.slice a2 len2 cap2) (.bool d2)
  rw [show (w.alloc (.cells #[.slice a0 len0 cap0, .bool d0] 24)).heap.size = w.heap.size + 1 from by simp] at hbg
  have HBf := Lib.hid ((box_new w (.slice a0 len0 cap0) (.bool d0)).kept hk)
  have HBg := Lib.hid hbg
  have Haw := Lib.hid (awake_any ((w.alloc (.cells #[.slice a0 len0 cap0, .bool d0] 24)).alloc (.cells #[.slice a2 len2 cap2, .bool d2] 24)))
  have HA := Lib.hid ha
  have hP := fun W (hW : Below w.heap.size w W) => Pack_any a1 b cap1 W (s1.kept hW)
  have hQ := fun W (hW : Below w.heap.size w W) => refPack_any a1 b cap1 W (s1.kept hW)
  obtain ⟨P, i, hpr⟩ : ∃ P i, packR b = (P, i) := ⟨_, _, rfl⟩
  have hPl : P.length ≤ 520 := by
    have h := congrArg (fun z => z.1.length) hpr
    simp only at h
    rw [← h, packR]
    split
    · simp only [pk_len]
      omega
    · simp
  rw [hpr, e1] at hP hQ
  simp only at hP hQ
  obtain ⟨dr, left, fs, hr⟩ : ∃ dr left fs, feed' d0 fb b = ⟨dr, left, fs⟩ := ⟨_, _, _, rfl⟩
  have hlen : left.length ≤ 3000 := by have := feed'_len d0 fb b; rw [hr, e0, e1] at this; simp only at this; omega
  have hmany : fs.length ≤ 3000 := by have := feed'_many d0 fb b; rw [hr, e0, e1] at this; simp only at this; omega
  have HF := Lib.hid (Feed_later d0 a0 a1 fb b len0 len1 cap0 cap1 w s0 s1 e0 e1 (by omega) _ hr)
  have HRF := Lib.hid (refFeed_later d0 a0 a1 fb b len0 len1 cap0 cap1 w s0 s1 e0 e1 (by omega) _ hr)
  have hsm := fun W (hW : Below w.heap.size w W) => Same_any a0 a2 fb gb cap0 cap2 d0 d2 W (s0.kept hW) (s2.kept hW)
  have hrs := fun W (hW : Below w.heap.size w W) => refSame_any a0 a2 fb gb cap0 cap2 d0 d2 W (s0.kept hW) (s2.kept hW)
  obtain ⟨s, hs⟩ : ∃ s, s = (d0 == d2 && decide (fb = gb)) := ⟨_, rfl⟩
  rw [← hs, e0, e2] at hsm hrs
  simp only [frm] at hsm hrs
  have HP := Lib.hid hP
  have HQ := Lib.hid hQ
  have HSm := Lib.hid hsm
  have HRs := Lib.hid hrs
  clear ha hk hbg hP hQ hpr hr hsm hrs hs s0 s1 s2 e0 e1 e2
  go_enter Try.func3, Try.ntmps3
  go_wp2_with fail
  refine Haw.out.mono ?_
  rintro e w1 ⟨rfl, hb1⟩
  have HBf1 := Lib.hid (HBf.out.kept hb1)
  have HBg1 := Lib.hid (HBg.out.kept hb1)
  have HB1 := Lib.hid (bt HA.out hb1)
  obtain ⟨p0, p1, p2, p3⟩ := HBf.out.kept hb1
  obtain ⟨q0, q1, q2, q3⟩ := HBg.out.kept hb1
  clear hb1 HBf HBg HA Haw
  go_wp2_with fail
  refine (HP.out _ HB1.out).mono ?_
  rintro e w2 ⟨A2, c2, rfl, h2, hB2⟩
  have HB2 := Lib.hid (bt HB1.out hB2)
  have H2 := Lib.hid h2
  have HBf2 := Lib.hid (HBf1.out.kept hB2)
  have HBg2 := Lib.hid (HBg1.out.kept hB2)
  clear h2 hB2 HBf1 HBg1 HB1 p0 p1 p2 p3 q0 q1 q2 q3
  go_wp2_with fail
  refine (HQ.out _ HB2.out).mono ?_
  rintro e w3 ⟨A3, c3, rfl, h3, hB3⟩
  have HB3 := Lib.hid (bt HB2.out hB3)
  have H2' := Lib.hid (H2.out.kept hB3)
  have H3 := Lib.hid h3
  have HBf3 := Lib.hid (HBf2.out.kept hB3)
  have HBg3 := Lib.hid (HBg2.out.kept hB3)
  obtain ⟨p0, p1, p2, p3⟩ := HBf2.out.kept hB3
  clear h3 hB3 HBf2 HBg2 HB2 H2
  go_wp2_with fail
  refine (HF.out _ HB3.out).mono ?_
  rintro e w4 ⟨A4, c4, V4, k4, rfl, h4, hl4, hB4⟩
  simp only [frm]
  obtain ⟨nl, hnl⟩ : ∃ nl, nl = left.length := ⟨_, rfl⟩
  rw [← hnl] at hlen ⊢
  have HNl := Lib.hid hnl
  have ha5 := (Below.refl w4.heap.size w4).alloc (Nat.le_refl _) (.cells #[.slice A4 nl c4, .bool dr] 24)
  have hk5 := bt hB4 ha5
  have HB5 := Lib.hid (bt HB3.out hk5)
  have HP5 := Lib.hid (H2'.out.kept hk5)
  have HQ5 := Lib.hid (H3.out.kept hk5)
  have hbf4 := HBf3.out.kept hB4
  have HBf5 := Lib.hid (hbf4.kept ha5)
  have HBg5 := Lib.hid (HBg3.out.kept hk5)
  have HBx5 := Lib.hid (box_new w4 (.slice A4 nl c4) (.bool dr))
  have HX5 := Lib.hid (h4.kept ha5)
  have HL5 := Lib.hid (hl4.kept ha5)
  have hlt := hbf4.lt
  clear p0 p1 p2 p3
  obtain ⟨p0, p1, p2, p3⟩ := hbf4.kept ha5
  obtain ⟨q0, q1, q2, q3⟩ := hbf4
  clear h4 hl4 hB4 ha5 hk5 H2' H3 HBf3 HBg3 HB3 hnl
  go_wp2_with fail
  refine (HRF.out _ HB5.out).mono ?_
  rintro e w6 ⟨A6, c6, V6, k6, rfl, h6, hl6, hB6⟩
  simp only [frm]
  rw [← HNl.out]
  have ha7 := (Below.refl w6.heap.size w6).alloc (Nat.le_refl _) (.cells #[.slice A6 nl c6, .bool dr] 24)
  have hk7 := bt hB6 ha7
  have HB7 := Lib.hid (bt HB5.out hk7)
  have HP7 := Lib.hid (HP5.out.kept hk7)
  have HQ7 := Lib.hid (HQ5.out.kept hk7)
  have HBf7 := Lib.hid (HBf5.out.kept hk7)
  have HBg7 := Lib.hid (HBg5.out.kept hk7)
  have hbx6 := HBx5.out.kept hB6
  have hlx := hbx6.lt
  have hsm := refSame_any A4 A6 left left c4 c6 dr dr _ (HX5.out.kept hk7) (h6.kept ha7)
  simp only [frm, beq_self_eq_true, decide_true, Bool.and_self] at hsm
  rw [← HNl.out] at hsm
  have HSx := Lib.hid hsm
  have HL7 := Lib.hid (HL5.out.kept hk7)
  have HM7 := Lib.hid (hl6.kept ha7)
  clear p0 p1 p2 p3 q0 q1 q2 q3 hlt
  obtain ⟨p0, p1, p2, p3⟩ := hbx6.kept ha7
  obtain ⟨q0, q1, q2, q3⟩ := hbx6
  clear h6 hl6 hB6 ha7 hk7 hsm HP5 HQ5 HBf5 HBg5 HBx5 HX5 HL5 HB5
  go_wp2_with fail
  refine HSx.out.mono ?_
  rintro e w8 ⟨rfl, hB8⟩
  have hli := Lists_any V4 V6 fs fs k4 k6 w8 (HL7.out.kept hB8) (HM7.out.kept hB8)
  simp only [decide_true] at hli
  have HLi := Lib.hid hli
  have HB8 := Lib.hid (bt HB7.out hB8)
  have HP8 := Lib.hid (HP7.out.kept hB8)
  have HQ8 := Lib.hid (HQ7.out.kept hB8)
  have HBf8 := Lib.hid (HBf7.out.kept hB8)
  have HBg8 := Lib.hid (HBg7.out.kept hB8)
  clear hB8 hli p0 p1 p2 p3 q0 q1 q2 q3 hlx HP7 HQ7 HBf7 HBg7 HB7 HL7 HM7
  go_wp2_with fail
  refine HLi.out.mono ?_
  rintro e w9 ⟨rfl, hB9⟩
  have HB9 := Lib.hid (bt HB8.out hB9)
  have HP9 := Lib.hid (HP8.out.kept hB9)
  have HQ9 := Lib.hid (HQ8.out.kept hB9)
  have HBf9 := Lib.hid (HBf8.out.kept hB9)
  have HBg9 := Lib.hid (HBg8.out.kept hB9)
  obtain ⟨p0, p1, p2, p3⟩ := HBf8.out.kept hB9
  obtain ⟨q0, q1, q2, q3⟩ := HBg8.out.kept hB9
  clear hB9 HB8 HP8 HQ8 HBf8 HBg8
  go_wp2_with fail
  refine (HRs.out _ HB9.out).mono ?_
  rintro e w10 ⟨rfl, hB10⟩
  have HB10 := Lib.hid (bt HB9.out hB10)
  have cv1 := conv_any (HP9.out.kept hB10).1 c2 9 Try.underlying9
  have cv2 := conv_any (HQ9.out.kept hB10).1 c3 9 Try.underlying9
  clear p0 p1 p2 p3 q0 q1 q2 q3
  obtain ⟨p0, p1, p2, p3⟩ := HBf9.out.kept hB10
  obtain ⟨q0, q1, q2, q3⟩ := HBg9.out.kept hB10
  clear hB10 HB9 HP9 HQ9 HBf9 HBg9
  go_wp2_with fail
  refine (HSm.out _ HB10.out).mono ?_
  rintro e w11 ⟨rfl, hB11⟩
  have HB11 := Lib.hid (bt HB10.out hB11)
  clear hB11 p0 p1 p2 p3 q0 q1 q2 q3
  go_wp2_with fail
  go_ret
  exact ⟨ret_bool (by simp), HB11.out⟩

theorem tells_walk (a0 : Option Addr) (len0 cap0 : Nat) (z0 : List Int) (d0 : Bool) (a1 : Option Addr) (len1 cap1 : Nat) (z1 : List Int) (a2 : Option Addr) (len2 cap2 : Nat) (z2 : List Int) (d2 : Bool) (w : World) (w0 : RowU8 w a0 len0 cap0 z0) (w1 : RowU8 w a1 len1 cap1 z1) (w2 : RowU8 w a2 len2 cap2 z2) :
    Calls Try.prog 3 #[.agg #[.slice a0 len0 cap0, .bool d0], .slice a1 len1 cap1, .agg #[.slice a2 len2 cap2, .bool d2]] w fun e w' => e = .returned (.bool true) ∧ Below w.heap.size w w' := by
  obtain ⟨x0, e0, s0⟩ := row_slB w0
  obtain ⟨x1, e1, s1⟩ := row_slB w1
  obtain ⟨x2, e2, s2⟩ := row_slB w2
  have m0 := s0.2.1
  have m1 := s1.2.1
  have m2 := s2.2.1
  have c0 := s0.2.2.2
  have c1 := s1.2.2.2
  have c2 := s2.2.2.2
  unfold maxLen at c0 c1 c2
  by_cases h : 1500 < len0 ∨ 1500 < len1 ∨ 1500 < len2
  · exact tells_up a0 len0 cap0 d0 a1 len1 cap1 a2 len2 cap2 d2 w (by omega) (by omega) (by omega) h
  · exact tells_in a0 x0 len0 cap0 d0 a1 x1 len1 cap1 a2 x2 len2 cap2 d2 w (by omega) (by omega) (by omega) e0 e1 e2 s0 s1 s2
end Go.Proofs.Ytofmgbncaokmdaa.Fr
