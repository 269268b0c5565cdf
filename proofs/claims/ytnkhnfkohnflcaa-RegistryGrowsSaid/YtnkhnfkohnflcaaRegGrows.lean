/- RegistryGrows: the walk; asked: what comes in, opened. -/
import Derived.Test.YtnkhnfkohnflcaaRegAwake
import Derived.Test.YtnkhnfkohnflcaaRegRoom
import Derived.Test.YtnkhnfkohnflcaaOpenSchemas
namespace Go.Proofs.Ytnkhnfkohnflcaa.Rg
open Go.RowKit Go.Proofs.Ytnkhnfkohnflcaa.BM Go.Proofs.Ytnkhnfkohnflcaa.LM Go.Proofs.Ytnkhnfkohnflcaa.VaM Go.Proofs.Ytnkhnfkohnflcaa.Va Go.Proofs.Ytnkhnfkohnflcaa.Sc Go.Proofs.Ytnkhnfkohnflcaa.RgM
open Go.Proofs.Ytnkhnfkohnflcaa.ScM (Sc Fit F d0)

/-- What is found later is no less. -/
theorem grown_facts {l : List Sc} {s o : Sc} {nm : ByteArray} (h : (add l s).2 = 0) (hf : find l nm = (o, true)) : (find (add l s).1 nm).2 = true ∧ o.v ≤ (find (add l s).1 nm).1.v ∧ o.f.length ≤ (find (add l s).1 nm).1.f.length ∧ ∀ i, i < o.f.length → (find (add l s).1 nm).1.f.getD i d0 = o.f.getD i d0 := by
  obtain ⟨u, hu, hw⟩ := add_grows h hf
  rw [hu]
  refine ⟨rfl, ?_⟩
  rcases hw with rfl | ⟨_, _, _, h4, h5, h6⟩
  · exact ⟨Int.le_refl _, Nat.le_refl _, fun _ _ => rfl⟩
  · refine ⟨by simp only; omega, h5, fun i hi => ?_⟩
    simp only
    rw [← h6, List.getD_eq_getElem?_getD, List.getD_eq_getElem?_getD, List.getElem?_take, if_pos hi]

set_option maxRecDepth 100000 in
set_option maxHeartbeats 4000000 in
theorem grows_walk (a0 : Option Addr) (len0 cap0 : Nat) (sn : ByteArray) (v : Int) (B : Option Addr) (len1 d : Nat) (nm : ByteArray) (W : World) (h0 : Op.ArgL W a0 len0 cap0) (h1 : Op.ArgS W sn v B len1 d) (_hz : nm.size ≤ 140737488351232) :
    Calls Try.prog 5 #[.slice a0 len0 cap0, .agg #[.string sn, .int .i64 v, .slice B len1 d], .string nm] W fun e w' => e = .returned (.bool true) ∧ Below W.heap.size W w' := by
  obtain ⟨l, hn, hS⟩ := h0
  obtain ⟨f, hk, hF, hfz⟩ := h1
  subst hn
  subst hk
  have hfew := fun w (h : Below W.heap.size W w) => Few_any l a0 cap0 w (hS.kept h)
  have hfew5 := fun w (h : Below W.heap.size W w) => Sc.Few_any ⟨sn, v, f⟩ B d w (hF.kept h) hfz.1
  have hfind := fun w (h : Below W.heap.size W w) (g : RoomL l) => Find_any l nm a0 cap0 w (hS.kept h) g
  have hadd := fun w (h : Below W.heap.size W w) => Add_any l ⟨sn, v, f⟩ a0 cap0 B d w (hS.kept h) (hF.kept h) hfz
  have hl := slS_len hS
  have h12 : Few l → l.length ≤ 12 := fun h => h.1
  have hgr := fun o => @grown_facts l ⟨sn, v, f⟩ o nm
  unfold Added at hadd
  unfold Found at hfind
  simp only at hfew5 hadd
  obtain ⟨x, hx⟩ : ∃ x, x = (add l ⟨sn, v, f⟩).1 := ⟨_, rfl⟩
  obtain ⟨E, hE⟩ : ∃ E, E = (add l ⟨sn, v, f⟩).2 := ⟨_, rfl⟩
  simp only [← hx, ← hE] at hadd hgr
  have HRx := Lib.hid (show RoomL x from by rw [hx]; exact roomL_add)
  clear hx hE
  obtain ⟨n, hn⟩ : ∃ n, n = l.length := ⟨_, rfl⟩
  obtain ⟨k, hk⟩ : ∃ k, k = f.length := ⟨_, rfl⟩
  simp only [← hn] at hfew hfind h12
  simp only [← hk] at hfew5
  rw [← hn] at hl ⊢
  simp only [← hn, ← hk] at hadd
  rw [← hk]
  have HFew := Lib.hid hfew
  have HFew5 := Lib.hid hfew5
  have HFind := Lib.hid hfind
  have HAdd := Lib.hid hadd
  have H12 := Lib.hid h12
  have HGr := Lib.hid hgr
  have HX1 := Lib.hid (bx_new_t W 25 (.string sn) (.int .i64 v) (.slice B k d))
  have HB1 := Lib.hid ((Below.refl W.heap.size W).alloc (Nat.le_refl _) (.cells #[.string sn, .int .i64 v, .slice B k d] 25))
  clear hn hk hS hF hfz hfew hfew5 hfind hadd h12 hgr
  go_enter Try.func5, Try.ntmps5
  go_wp2_with fail
  obtain ⟨w1, hw1⟩ : ∃ w1, w1 = W.alloc (.cells #[.string sn, .int .i64 v, .slice B k d] 25) := ⟨_, rfl⟩
  rw [← hw1] at HX1 HB1 ⊢
  clear hw1
  refine (awake_any w1).mono ?_
  rintro e w2 ⟨rfl, hb2⟩
  have HB2 := Lib.hid (bt HB1.out hb2)
  have HX2 := Lib.hid (HX1.out.kept hb2)
  clear hb2 HB1 HX1
  obtain ⟨e1, he1⟩ : ∃ e1, e1 = decide (Few l) := ⟨_, rfl⟩
  have HFl := Lib.hid (HFew.out w2 HB2.out)
  rw [← he1] at HFl
  have HE1 := Lib.hid he1
  clear he1
  go_wp2_with fail
  refine HFl.out.mono ?_
  rintro e w3 ⟨rfl, hb3⟩
  have HB3 := Lib.hid (bt HB2.out hb3)
  have HX3 := Lib.hid (HX2.out.kept hb3)
  clear hb3 HB2 HX2 HFl
  obtain ⟨⟨p0, p1, p2⟩, _⟩ := HX3.out
  obtain ⟨e2, he2⟩ : ∃ e2, e2 = decide (Sc.Few ⟨sn, v, f⟩) := ⟨_, rfl⟩
  have HFl := Lib.hid (HFew5.out w3 HB3.out)
  rw [← he2] at HFl
  clear he2
  go_wp2_with fail
  refine HFl.out.mono ?_
  rintro e w4 ⟨rfl, hb4⟩
  have HB4 := Lib.hid (bt HB3.out hb4)
  have HX4 := Lib.hid (HX3.out.kept hb4)
  clear hb4 HB3 HX3 HFl p0 p1 p2
  obtain ⟨e3, he3⟩ : ∃ e3, e3 = decide ((60 : Int) < (nm.size : Int)) := ⟨_, rfl⟩
  have hways : e1 = false ∨ (e1 = true ∧ e2 = false) ∨ (e1 = true ∧ e2 = true ∧ e3 = true) ∨ (e1 = true ∧ e2 = true ∧ e3 = false) := by cases e1 <;> cases e2 <;> cases e3 <;> simp
  obtain ⟨⟨p0, p1, p2⟩, _⟩ := HX4.out
  rcases hways with rfl | ⟨rfl, rfl⟩ | ⟨rfl, rfl, rfl⟩ | ⟨rfl, rfl, rfl⟩
  · go_wp2_with fail
    go_ret
    exact ⟨ret_v (x := .bool true) rfl, HB4.out⟩
  · go_wp2_with fail
    go_ret
    exact ⟨ret_v (x := .bool true) rfl, HB4.out⟩
  · have hd := he3.symm
    clear he3
    go_wp2_with fail
    go_ret
    exact ⟨ret_v (x := .bool true) rfl, HB4.out⟩
  · have hd := he3.symm
    have hn12 := H12.out (of_decide_eq_true HE1.out.symm)
    clear he3
    have HAd := Lib.hid (HAdd.out w4 HB4.out)
    go_wp2_with fail
    refine HAd.out.mono ?_
    rintro e w5 ⟨A5, c5, rfl, hs5, hb5⟩
    have HB5 := Lib.hid (bt HB4.out hb5)
    have HS5 := Lib.hid hs5
    have hx5 := slS_len hs5
    obtain ⟨X, hX⟩ : ∃ X, X = x.length := ⟨_, rfl⟩
    have HF5 := Lib.hid (fun w (h : Below w5.heap.size w5 w) => Find_any x nm A5 c5 w (hs5.kept h) HRx.out)
    rw [← hX] at HF5 hx5 ⊢
    unfold Found at HF5
    clear hb5 hs5 HB4 HX4 HAd p0 p1 p2 hX hd
    have HFi := Lib.hid (HFind.out w5 HB5.out (roomL_few (of_decide_eq_true HE1.out.symm)))
    obtain ⟨o, ho⟩ : ∃ o, o = (find l nm).1 := ⟨_, rfl⟩
    obtain ⟨is, his⟩ : ∃ is, is = (find l nm).2 := ⟨_, rfl⟩
    rw [← ho, ← his] at HFi
    have HIs := Lib.hid (show find l nm = (o, is) from by rw [ho, his])
    clear ho his
    obtain ⟨u, hu⟩ : ∃ u, u = (find x nm).1 := ⟨_, rfl⟩
    obtain ⟨was, hwas⟩ : ∃ was, was = (find x nm).2 := ⟨_, rfl⟩
    rw [← hu, ← hwas] at HF5 HGr
    clear hu hwas
    have HG := Lib.hid (fun h (g : is = true) => HGr.out o h (by rw [HIs.out, g]))
    obtain ⟨on, ov, of⟩ := o
    obtain ⟨un, uv, uf⟩ := u
    simp only at HFi HF5 HG
    clear HGr HIs
    obtain ⟨m, hm⟩ : ∃ m, m = of.length := ⟨_, rfl⟩
    obtain ⟨q, hq⟩ : ∃ q, q = uf.length := ⟨_, rfl⟩
    simp only [← hm] at HFi HG
    simp only [← hq] at HF5 HG
    have HM := Lib.hid hm
    have HQ := Lib.hid hq
    clear hm hq
    go_wp2_with fail
    refine HFi.out.mono ?_
    rintro e w6 ⟨A6, c6, rfl, hf6, _, hb6⟩
    have ha6 := (Below.refl w6.heap.size w6).alloc (Nat.le_refl _) (.cells #[.string on, .int .i64 ov, .slice A6 m c6] 25)
    have HX7 := Lib.hid (bx_new_t w6 25 (.string on) (.int .i64 ov) (.slice A6 m c6))
    have HB57 := Lib.hid (bt hb6 ha6)
    have HO7 := Lib.hid (hf6.kept ha6)
    clear ha6 hb6 hf6 HFi
    go_wp2_with fail
    obtain ⟨b7, hb7⟩ : ∃ b7, b7 = w6.heap.size := ⟨_, rfl⟩
    obtain ⟨w7, hw7⟩ : ∃ w7, w7 = w6.alloc (.cells #[.string on, .int .i64 ov, .slice A6 m c6] 25) := ⟨_, rfl⟩
    rw [← hw7] at HX7 HB57 HO7 ⊢
    rw [← hb7] at HX7 ⊢
    clear hw7 hb7
    refine (HF5.out w7 HB57.out).mono ?_
    rintro e w8 ⟨A8, c8, rfl, hf8, _, hb8⟩
    have ha8 := (Below.refl w8.heap.size w8).alloc (Nat.le_refl _) (.cells #[.string un, .int .i64 uv, .slice A8 q c8] 25)
    have HY9 := Lib.hid (bx_new_t w8 25 (.string un) (.int .i64 uv) (.slice A8 q c8))
    have HB9 := Lib.hid (bt HB5.out (bt HB57.out (bt hb8 ha8)))
    have HO9 := Lib.hid (HO7.out.kept (bt hb8 ha8))
    have HX9 := Lib.hid (HX7.out.kept (bt hb8 ha8))
    have HU9 := Lib.hid (hf8.kept ha8)
    clear ha8 hb8 hf8 HF5 HB57 HO7 HX7 HB5
    obtain ⟨w9, hw9⟩ : ∃ w9, w9 = w8.alloc (.cells #[.string un, .int .i64 uv, .slice A8 q c8] 25) := ⟨_, rfl⟩
    rw [← hw9] at HY9 HB9 HO9 HX9 HU9
    by_cases hE : E = 0
    · subst hE
      cases is with
      | false =>
        go_wp2_with fail
        rw [← hw9]
        go_ret
        exact ⟨ret_v (x := .bool true) rfl, HB9.out⟩
      | true =>
        obtain ⟨rfl, g1, g2, g3⟩ := HG.out rfl rfl
        have hd1 : decide (uv < ov) = false := by rw [decide_eq_false_iff_not]; omega
        have hd2 : decide (q < m) = false := by rw [decide_eq_false_iff_not]; omega
        have hlo := slF_len HO9.out
        have hlu := slF_len HU9.out
        rw [← HM.out] at hlo
        rw [← HQ.out] at hlu
        have HQm := Lib.hid g2
        have HEq := Lib.hid g3
        have hx9 := HX9.out
        have hy9 := HY9.out
        rw [hw9] at hx9 hy9
        obtain ⟨⟨_, p1, p2⟩, _⟩ := hx9
        obtain ⟨⟨_, y1, y2⟩, _⟩ := hy9
        clear g1 g2 g3 HG
        go_wp2_with fail
        rw [← hw9]
        clear hw9 p1 p2 y1 y2 hd1 hd2
        obtain ⟨b9, hb9⟩ : ∃ b9, b9 = w8.heap.size := ⟨_, rfl⟩
        rw [← hb9] at HY9 ⊢
        clear hb9
        go_loopw [16] (fun i wr => ∃ j : Nat, i = .int .i64 j ∧ j ≤ m ∧ Below w9.heap.size w9 wr) (fun i _ => m - (intOf i).toNat)
        case atStart => exact ⟨0, rfl, Nat.zero_le _, Below.refl _ _⟩
        case round =>
          obtain ⟨j, rfl, hj, hbel⟩ := hrel
          have HBl := Lib.hid hbel
          clear hbel
          obtain ⟨⟨_, _, p2⟩, _⟩ := HX9.out.kept HBl.out
          obtain ⟨⟨_, _, y2⟩, _⟩ := HY9.out.kept HBl.out
          by_cases hjm : j < m
          · obtain ⟨g1, q1, hix1, hc1, _⟩ := HO9.out.at j (by rw [← HM.out]; exact hjm)
            obtain ⟨g2, q2, hix2, hc2, _⟩ := HU9.out.at j (by rw [← HQ.out]; have := HQm.out; omega)
            have heq := HEq.out j hjm
            rw [heq] at hc2
            obtain ⟨⟨t, z⟩, ht⟩ : ∃ f, f = of.getD j d0 := ⟨_, rfl⟩
            rw [← ht] at hc1 hc2
            obtain ⟨c0, c1⟩ := hc1 wr HBl.out
            obtain ⟨e0, e1⟩ := hc2 wr HBl.out
            simp only at c0 c1 e0 e1
            have hi1 := fun W => hix1 W m c6 hjm
            have hi2 := fun W => hix2 W q c8 (by have := HQm.out; omega)
            have hne := fun W => neq_f t t z z W
            simp only [decide_true, Bool.not_true] at hne
            clear hc1 hc2 hix1 hix2 ht heq
            go_wp2_with fail
            go_quiet (fail)
            go_wp2_with fail
            go_roundw
            case rel => exact ⟨j + 1, by go_num, by omega, below_drewN HBl.out _⟩
            case measure => simp [intOf]; omega
          · obtain rfl : j = m := by omega
            go_wp2_with fail
            go_ret
            exact ⟨ret_v (x := .bool true) rfl, bt HB9.out HBl.out⟩
    · have hd : (E != 0) = true := by rw [bne_iff_ne]; exact hE
      clear hE
      go_wp2_with fail
      rw [← hw9]
      go_ret
      exact ⟨ret_v (x := .bool true) rfl, HB9.out⟩
end Go.Proofs.Ytnkhnfkohnflcaa.Rg
