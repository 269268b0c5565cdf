/- RegistryTells: the walk; asked: what comes in, opened. -/
import Derived.Test.YtnkhnfkohnflcaaRegAwake
import Derived.Test.YtnkhnfkohnflcaaRegRoom
import Derived.Test.YtnkhnfkohnflcaaOpenSchemas
namespace Go.Proofs.Ytnkhnfkohnflcaa.Rg
open Go.RowKit Go.Proofs.Ytnkhnfkohnflcaa.BM Go.Proofs.Ytnkhnfkohnflcaa.LM Go.Proofs.Ytnkhnfkohnflcaa.VaM Go.Proofs.Ytnkhnfkohnflcaa.Va Go.Proofs.Ytnkhnfkohnflcaa.Sc Go.Proofs.Ytnkhnfkohnflcaa.RgM
open Go.Proofs.Ytnkhnfkohnflcaa.ScM (Sc Fit F d0)

set_option maxRecDepth 100000 in
set_option maxHeartbeats 4000000 in
theorem tells_walk (a0 : Option Addr) (len0 cap0 : Nat) (sn : ByteArray) (v : Int) (B : Option Addr) (len1 d : Nat) (nm : ByteArray) (C : Option Addr) (len3 cap3 : Nat) (W : World) (h0 : Op.ArgL W a0 len0 cap0) (h1 : Op.ArgS W sn v B len1 d) (_hz : nm.size ≤ 140737488351232) (h3 : Op.ArgL W C len3 cap3) :
    Calls Try.prog 3 #[.slice a0 len0 cap0, .agg #[.string sn, .int .i64 v, .slice B len1 d], .string nm, .slice C len3 cap3] W fun e w' => e = .returned (.bool true) ∧ Below W.heap.size W w' := by
  obtain ⟨l, hn, hS⟩ := h0
  obtain ⟨f, hk, hF, hfz⟩ := h1
  obtain ⟨m, hm, hT⟩ := h3
  subst hn
  subst hk
  subst hm
  have hfew := fun w (h : Below W.heap.size W w) => Few_any l a0 cap0 w (hS.kept h)
  have hfewm := fun w (h : Below W.heap.size W w) => Few_any m C cap3 w (hT.kept h)
  have hfew5 := fun w (h : Below W.heap.size W w) => Sc.Few_any ⟨sn, v, f⟩ B d w (hF.kept h) hfz.1
  have hfind := fun w (h : Below W.heap.size W w) (g : RoomL l) => Find_any l nm a0 cap0 w (hS.kept h) g
  have hfind2 := fun w (h : Below W.heap.size W w) => refFind_any l nm a0 cap0 w (hS.kept h)
  have hadd := fun w (h : Below W.heap.size W w) => Add_any l ⟨sn, v, f⟩ a0 cap0 B d w (hS.kept h) (hF.kept h) hfz
  have hadd2 := fun w (h : Below W.heap.size W w) (g : l.length ≤ 1000) => refAdd_any l ⟨sn, v, f⟩ a0 cap0 B d w (hS.kept h) (hF.kept h) hfz g
  have hmay := fun w (h : Below W.heap.size W w) => May_any l a0 cap0 w (hS.kept h)
  have hmay2 := fun w (h : Below W.heap.size W w) => refMay_any l a0 cap0 w (hS.kept h)
  have hsm := fun w (h : Below W.heap.size W w) => Same_any l m a0 cap0 C cap3 w (hS.kept h) (hT.kept h)
  have hsm2 := fun w (h : Below W.heap.size W w) => refSame_any l m a0 cap0 C cap3 w (hS.kept h) (hT.kept h)
  have hl := slS_len hS
  have hl3 := slS_len hT
  have h12 : Few l → l.length ≤ 12 := fun h => h.1
  unfold Added at hadd hadd2
  unfold Found at hfind hfind2
  simp only at hfew5 hadd hadd2
  obtain ⟨x, hx⟩ : ∃ x, x = (add l ⟨sn, v, f⟩).1 := ⟨_, rfl⟩
  obtain ⟨E, hE⟩ : ∃ E, E = (add l ⟨sn, v, f⟩).2 := ⟨_, rfl⟩
  obtain ⟨o, ho⟩ : ∃ o, o = (find l nm).1 := ⟨_, rfl⟩
  obtain ⟨is, his⟩ : ∃ is, is = (find l nm).2 := ⟨_, rfl⟩
  obtain ⟨b1, hb1⟩ : ∃ b, b = decide (May l) := ⟨_, rfl⟩
  obtain ⟨b2, hb2⟩ : ∃ b, b = decide (l = m) := ⟨_, rfl⟩
  simp only [← hx, ← hE] at hadd hadd2
  simp only [← ho, ← his] at hfind hfind2
  simp only [← hb1] at hmay hmay2
  simp only [← hb2] at hsm hsm2
  clear hx hE ho his hb1 hb2
  obtain ⟨n, hn⟩ : ∃ n, n = l.length := ⟨_, rfl⟩
  obtain ⟨r, hr⟩ : ∃ r, r = m.length := ⟨_, rfl⟩
  obtain ⟨k, hk⟩ : ∃ k, k = f.length := ⟨_, rfl⟩
  simp only [← hn] at hfew hfind hfind2 h12 hmay hmay2
  simp only [← hn, ← hr] at hsm hsm2
  simp only [← hr] at hfewm
  simp only [← hk] at hfew5
  rw [← hn] at hl
  rw [← hr] at hl3
  rw [← hn, ← hr]
  simp only [← hn, ← hk] at hadd hadd2
  rw [← hk]
  obtain ⟨on, ov, of⟩ := o
  simp only at hfind hfind2
  obtain ⟨q, hq⟩ : ∃ q, q = of.length := ⟨_, rfl⟩
  simp only [← hq] at hfind hfind2
  have HQ := Lib.hid hq
  have HFew := Lib.hid hfew
  have HFewM := Lib.hid hfewm
  have HFew5 := Lib.hid hfew5
  have HFind := Lib.hid hfind
  have HFind2 := Lib.hid hfind2
  have HAdd := Lib.hid hadd
  have HAdd2 := Lib.hid hadd2
  have HMay := Lib.hid hmay
  have HMay2 := Lib.hid hmay2
  have HSm := Lib.hid hsm
  have HSm2 := Lib.hid hsm2
  have H12 := Lib.hid h12
  have HX1 := Lib.hid (bx_new_t W 25 (.string sn) (.int .i64 v) (.slice B k d))
  have HB1 := Lib.hid ((Below.refl W.heap.size W).alloc (Nat.le_refl _) (.cells #[.string sn, .int .i64 v, .slice B k d] 25))
  clear hq hn hr hk hS hT hF hfz hfew hfewm hfew5 hfind hfind2 hadd hadd2 hmay hmay2 hsm hsm2 h12
  go_enter Try.func3, Try.ntmps3
  go_wp2_with fail
  obtain ⟨w1, hw1⟩ : ∃ w1, w1 = W.alloc (.cells #[.string sn, .int .i64 v, .slice B k d] 25) := ⟨_, rfl⟩
  rw [← hw1] at HX1 HB1 ⊢
  clear hw1
  refine (awake_any w1).mono ?_
  rintro e w2 ⟨rfl, hb2⟩
  have HB2 := Lib.hid (bt HB1.out hb2)
  have HX2 := Lib.hid (HX1.out.kept hb2)
  clear hb2 HB1 HX1
  obtain ⟨e1, he1⟩ : ∃ e1, e1 = decide (Few l) := ⟨_, rfl⟩
  have HFl := Lib.hid (HFew.out w2 HB2.out)
  rw [← he1] at HFl
  have HE1 := Lib.hid he1
  clear he1
  go_wp2_with fail
  refine HFl.out.mono ?_
  rintro e w3 ⟨rfl, hb3⟩
  have HB3 := Lib.hid (bt HB2.out hb3)
  have HX3 := Lib.hid (HX2.out.kept hb3)
  clear hb3 HB2 HX2 HFl
  obtain ⟨⟨p0, p1, p2⟩, _⟩ := HX3.out
  obtain ⟨e2, he2⟩ : ∃ e2, e2 = decide (Sc.Few ⟨sn, v, f⟩) := ⟨_, rfl⟩
  have HFl := Lib.hid (HFew5.out w3 HB3.out)
  rw [← he2] at HFl
  clear he2
  go_wp2_with fail
  refine HFl.out.mono ?_
  rintro e w4 ⟨rfl, hb4⟩
  have HB4 := Lib.hid (bt HB3.out hb4)
  have HX4 := Lib.hid (HX3.out.kept hb4)
  clear hb4 HB3 HX3 HFl p0 p1 p2
  obtain ⟨e4, he4⟩ : ∃ e4, e4 = decide (Few m) := ⟨_, rfl⟩
  have HFl := Lib.hid (HFewM.out w4 HB4.out)
  rw [← he4] at HFl
  clear he4
  go_wp2_with fail
  refine HFl.out.mono ?_
  rintro e w5 ⟨rfl, hb5⟩
  have HB5 := Lib.hid (bt HB4.out hb5)
  have HX5 := Lib.hid (HX4.out.kept hb5)
  clear hb5 HB4 HX4 HFl
  obtain ⟨e3, he3⟩ : ∃ e3, e3 = decide ((60 : Int) < (nm.size : Int)) := ⟨_, rfl⟩
  have hways : e1 = false ∨ (e1 = true ∧ e2 = false) ∨ (e1 = true ∧ e2 = true ∧ e4 = false) ∨ (e1 = true ∧ e2 = true ∧ e4 = true ∧ e3 = true) ∨ (e1 = true ∧ e2 = true ∧ e4 = true ∧ e3 = false) := by cases e1 <;> cases e2 <;> cases e3 <;> cases e4 <;> simp
  obtain ⟨⟨p0, p1, p2⟩, _⟩ := HX5.out
  rcases hways with rfl | ⟨rfl, rfl⟩ | ⟨rfl, rfl, rfl⟩ | ⟨rfl, rfl, rfl, rfl⟩ | ⟨rfl, rfl, rfl, rfl⟩
  · go_wp2_with fail
    go_ret
    exact ⟨ret_v (x := .bool true) rfl, HB5.out⟩
  · go_wp2_with fail
    go_ret
    exact ⟨ret_v (x := .bool true) rfl, HB5.out⟩
  · go_wp2_with fail
    go_ret
    exact ⟨ret_v (x := .bool true) rfl, HB5.out⟩
  · have hd := he3.symm
    clear he3
    go_wp2_with fail
    go_ret
    exact ⟨ret_v (x := .bool true) rfl, HB5.out⟩
  · have hd := he3.symm
    have hn12 := H12.out (of_decide_eq_true HE1.out.symm)
    clear he3
    have HA := Lib.hid (HAdd.out w5 HB5.out)
    go_wp2_with fail
    refine HA.out.mono ?_
    rintro e w6 ⟨A6, c6, rfl, hs6, hb6⟩
    have HB6 := Lib.hid (bt HB5.out hb6)
    have HX6 := Lib.hid (HX5.out.kept hb6)
    have HS6 := Lib.hid hs6
    clear hb6 hs6 HB5 HX5 HA p0 p1 p2 hd
    obtain ⟨⟨p0, p1, p2⟩, _⟩ := HX6.out
    have HA := Lib.hid (HAdd2.out w6 HB6.out (by omega))
    go_wp2_with fail
    refine HA.out.mono ?_
    rintro e w7 ⟨A7, c7, rfl, hs7, hb7⟩
    have HB7 := Lib.hid (bt HB6.out hb7)
    have hsame := refSame_any x x A6 c6 A7 c7
    have HS67 := Lib.hid (fun w (h : Below w7.heap.size w7 w) => refSame_any x x A6 c6 A7 c7 w (HS6.out.kept (bt hb7 h)) (hs7.kept h))
    rw [decide_eq_true (rfl : x = x)] at HS67
    obtain ⟨X, hX⟩ : ∃ X, X = x.length := ⟨_, rfl⟩
    rw [← hX] at HS67 ⊢
    clear hb7 hs7 HB6 HX6 HA p0 p1 p2 hsame hX HS6
    have HF := Lib.hid (HFind.out w7 HB7.out (roomL_few (of_decide_eq_true HE1.out.symm)))
    go_wp2_with fail
    refine HF.out.mono ?_
    rintro e w8 ⟨A8, c8, rfl, hf8, _, hb8⟩
    have ha8 := (Below.refl w8.heap.size w8).alloc (Nat.le_refl _) (.cells #[.string on, .int .i64 ov, .slice A8 q c8] 25)
    have HX9 := Lib.hid (bx_new_t w8 25 (.string on) (.int .i64 ov) (.slice A8 q c8))
    have HB9 := Lib.hid (bt hb8 ha8)
    have HO9 := Lib.hid (hf8.kept ha8)
    clear ha8 hb8 hf8 HF
    go_wp2_with fail
    obtain ⟨b9, hb9⟩ : ∃ b9, b9 = w8.heap.size := ⟨_, rfl⟩
    obtain ⟨w9, hw9⟩ : ∃ w9, w9 = w8.alloc (.cells #[.string on, .int .i64 ov, .slice A8 q c8] 25) := ⟨_, rfl⟩
    rw [← hw9] at HX9 HB9 HO9 ⊢
    rw [← hb9] at HX9 ⊢
    clear hw9 hb9
    refine (HFind2.out w9 (bt HB7.out HB9.out)).mono ?_
    rintro e w10 ⟨A10, c10, rfl, hf10, _, hb10⟩
    have ha10 := (Below.refl w10.heap.size w10).alloc (Nat.le_refl _) (.cells #[.string on, .int .i64 ov, .slice A10 q c10] 25)
    have HY11 := Lib.hid (bx_new_t w10 25 (.string on) (.int .i64 ov) (.slice A10 q c10))
    have HX11 := Lib.hid (HX9.out.kept (bt hb10 ha10))
    have HB11 := Lib.hid (bt HB9.out (bt hb10 ha10))
    have HO11 := Lib.hid (HO9.out.kept (bt hb10 ha10))
    have HU11 := Lib.hid (hf10.kept ha10)
    clear ha10 hb10 hf10 HX9 HB9 HO9
    go_wp2_with fail
    obtain ⟨b11, hb11⟩ : ∃ b11, b11 = w10.heap.size := ⟨_, rfl⟩
    obtain ⟨w11, hw11⟩ : ∃ w11, w11 = w10.alloc (.cells #[.string on, .int .i64 ov, .slice A10 q c10] 25) := ⟨_, rfl⟩
    rw [← hw11] at HX11 HB11 HO11 HU11 HY11 ⊢
    rw [← hb11] at HY11 ⊢
    clear hw11 hb11
    refine (HS67.out w11 HB11.out).mono ?_
    rintro e w12 ⟨rfl, hb12⟩
    have HX12 := Lib.hid (HX11.out.kept hb12)
    have HY12 := Lib.hid (HY11.out.kept hb12)
    have HB12 := Lib.hid (bt HB7.out (bt HB11.out hb12))
    have HSs := Lib.hid (Go.Proofs.Ytnkhnfkohnflcaa.Sc.refSame_any ⟨on, ov, of⟩ ⟨on, ov, of⟩ A8 c8 A10 c10 w12 (HO11.out.kept hb12) (HU11.out.kept hb12))
    rw [decide_eq_true (rfl : (⟨on, ov, of⟩ : Sc) = ⟨on, ov, of⟩)] at HSs
    simp only [← HQ.out] at HSs
    clear hb12 HX11 HY11 HB11 HO11 HU11 HB7 HS67
    obtain ⟨⟨p0, p1, p2⟩, _⟩ := HX12.out
    obtain ⟨⟨y0, y1, y2⟩, _⟩ := HY12.out
    go_wp2_with fail
    refine HSs.out.mono ?_
    rintro e w13 ⟨rfl, hb13⟩
    have HB13 := Lib.hid (bt HB12.out hb13)
    clear hb13 HB12 HX12 HY12 HSs p0 p1 p2 y0 y1 y2
    go_wp2_with fail
    refine (HMay2.out w13 HB13.out).mono ?_
    rintro e w14 ⟨rfl, hb14⟩
    have HB14 := Lib.hid (bt HB13.out hb14)
    clear hb14 HB13
    go_wp2_with fail
    refine (HSm2.out w14 HB14.out).mono ?_
    rintro e w15 ⟨rfl, hb15⟩
    have HB15 := Lib.hid (bt HB14.out hb15)
    clear hb15 HB14
    go_wp2_with fail
    refine (HMay.out w15 HB15.out).mono ?_
    rintro e w16 ⟨rfl, hb16⟩
    have HB16 := Lib.hid (bt HB15.out hb16)
    clear hb16 HB15
    go_wp2_with fail
    refine (HSm.out w16 HB16.out).mono ?_
    rintro e w17 ⟨rfl, hb17⟩
    have HB17 := Lib.hid (bt HB16.out hb17)
    clear hb17 HB16
    go_wp2_with fail
    go_ret
    exact ⟨ret_v (x := .bool true) rfl, HB17.out⟩
end Go.Proofs.Ytnkhnfkohnflcaa.Rg
