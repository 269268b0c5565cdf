/- RegistryAdds: the walk; asked: what comes in, opened. -/
import Derived.Test.YtnkhnfkohnflcaaRegAwake
import Derived.Test.YtnkhnfkohnflcaaRegRoom
import Derived.Test.YtnkhnfkohnflcaaOpenSchemas
import Derived.Test.YtnkhnfkohnflcaaSchemaSame
namespace Go.Proofs.Ytnkhnfkohnflcaa.Rg
open Go.RowKit Go.Proofs.Ytnkhnfkohnflcaa.BM Go.Proofs.Ytnkhnfkohnflcaa.LM Go.Proofs.Ytnkhnfkohnflcaa.VaM Go.Proofs.Ytnkhnfkohnflcaa.Va Go.Proofs.Ytnkhnfkohnflcaa.Sc Go.Proofs.Ytnkhnfkohnflcaa.RgM
open Go.Proofs.Ytnkhnfkohnflcaa.ScM (Sc Fit F d0)

set_option maxRecDepth 100000 in
set_option maxHeartbeats 4000000 in
theorem adds_walk (a0 : Option Addr) (len0 cap0 : Nat) (sn : ByteArray) (v : Int) (B : Option Addr) (len1 d : Nat) (W : World) (h0 : Op.ArgL W a0 len0 cap0) (h1 : Op.ArgS W sn v B len1 d) :
    Calls Try.prog 4 #[.slice a0 len0 cap0, .agg #[.string sn, .int .i64 v, .slice B len1 d]] W fun e w' => e = .returned (.bool true) ∧ Below W.heap.size W w' := by
  obtain ⟨l, hn, hS⟩ := h0
  obtain ⟨f, hk, hF, hfz⟩ := h1
  subst hn
  subst hk
  have hfew := fun w (h : Below W.heap.size W w) => Few_any l a0 cap0 w (hS.kept h)
  have hfew5 := fun w (h : Below W.heap.size W w) => Sc.Few_any ⟨sn, v, f⟩ B d w (hF.kept h) hfz.1
  have hadd := fun w (h : Below W.heap.size W w) => Add_any l ⟨sn, v, f⟩ a0 cap0 B d w (hS.kept h) (hF.kept h) hfz
  have hadd2 := fun w (h : Below W.heap.size W w) (x : List Sc) A c (hs : SlS w A x c) => Add_any x ⟨sn, v, f⟩ A c B d w hs (hF.kept h) hfz
  have hsm := fun w (h : Below W.heap.size W w) T c (ht : SlF w T f c) => Sc.Same_any ⟨sn, v, f⟩ ⟨sn, v, f⟩ T c B d w ht (hF.kept h)
  rw [decide_eq_true (rfl : (⟨sn, v, f⟩ : Sc) = ⟨sn, v, f⟩)] at hsm
  have hl := slS_len hS
  have h12 : Few l → l.length ≤ 12 := fun h => h.1
  have herr := @add_err l ⟨sn, v, f⟩
  have hfound := @add_found l ⟨sn, v, f⟩
  have hrest := @add_rest l ⟨sn, v, f⟩
  unfold Added at hadd hadd2
  simp only at hfew5 hadd hadd2 hsm hfound hrest
  obtain ⟨x, hx⟩ : ∃ x, x = (add l ⟨sn, v, f⟩).1 := ⟨_, rfl⟩
  obtain ⟨E, hE⟩ : ∃ E, E = (add l ⟨sn, v, f⟩).2 := ⟨_, rfl⟩
  simp only [← hx, ← hE] at hadd herr hfound hrest
  clear hx hE
  obtain ⟨n, hn⟩ : ∃ n, n = l.length := ⟨_, rfl⟩
  obtain ⟨k, hk⟩ : ∃ k, k = f.length := ⟨_, rfl⟩
  simp only [← hn] at hfew h12 hrest
  simp only [← hk] at hfew5 hsm hadd2
  rw [← hn] at hl ⊢
  simp only [← hn, ← hk] at hadd
  rw [← hk]
  have HFew := Lib.hid hfew
  have HFew5 := Lib.hid hfew5
  have HAdd := Lib.hid hadd
  have HAdd2 := Lib.hid hadd2
  have HSm := Lib.hid hsm
  have H12 := Lib.hid h12
  have HErr := Lib.hid herr
  have HFound := Lib.hid hfound
  have HRest := Lib.hid hrest
  have HS := Lib.hid hS
  have HLen := Lib.hid hn
  have HK := Lib.hid hk
  have HX1 := Lib.hid (bx_new_t W 25 (.string sn) (.int .i64 v) (.slice B k d))
  have HB1 := Lib.hid ((Below.refl W.heap.size W).alloc (Nat.le_refl _) (.cells #[.string sn, .int .i64 v, .slice B k d] 25))
  clear hn hk hS hF hfz hfew hfew5 hadd hadd2 hsm h12 herr hfound hrest
  go_enter Try.func4, Try.ntmps4
  go_wp2_with fail
  obtain ⟨w1, hw1⟩ : ∃ w1, w1 = W.alloc (.cells #[.string sn, .int .i64 v, .slice B k d] 25) := ⟨_, rfl⟩
  rw [← hw1] at HX1 HB1 ⊢
  clear hw1
  refine (awake_any w1).mono ?_
  rintro e w2 ⟨rfl, hb2⟩
  have HB2 := Lib.hid (bt HB1.out hb2)
  have HX2 := Lib.hid (HX1.out.kept hb2)
  clear hb2 HB1 HX1
  obtain ⟨e1, he1⟩ : ∃ e1, e1 = decide (Few l) := ⟨_, rfl⟩
  have HFl := Lib.hid (HFew.out w2 HB2.out)
  rw [← he1] at HFl
  have HE1 := Lib.hid he1
  clear he1
  go_wp2_with fail
  refine HFl.out.mono ?_
  rintro e w3 ⟨rfl, hb3⟩
  have HB3 := Lib.hid (bt HB2.out hb3)
  have HX3 := Lib.hid (HX2.out.kept hb3)
  clear hb3 HB2 HX2 HFl
  obtain ⟨⟨p0, p1, p2⟩, _⟩ := HX3.out
  obtain ⟨e2, he2⟩ : ∃ e2, e2 = decide (Sc.Few ⟨sn, v, f⟩) := ⟨_, rfl⟩
  have HFl := Lib.hid (HFew5.out w3 HB3.out)
  rw [← he2] at HFl
  clear he2
  go_wp2_with fail
  refine HFl.out.mono ?_
  rintro e w4 ⟨rfl, hb4⟩
  have HB4 := Lib.hid (bt HB3.out hb4)
  have HX4 := Lib.hid (HX3.out.kept hb4)
  clear hb4 HB3 HX3 HFl p0 p1 p2
  have hways : e1 = false ∨ (e1 = true ∧ e2 = false) ∨ (e1 = true ∧ e2 = true) := by cases e1 <;> cases e2 <;> simp
  obtain ⟨⟨p0, p1, p2⟩, _⟩ := HX4.out
  rcases hways with rfl | ⟨rfl, rfl⟩ | ⟨rfl, rfl⟩
  · go_wp2_with fail
    go_ret
    exact ⟨ret_v (x := .bool true) rfl, HB4.out⟩
  · go_wp2_with fail
    go_ret
    exact ⟨ret_v (x := .bool true) rfl, HB4.out⟩
  · have hn12 := H12.out (of_decide_eq_true HE1.out.symm)
    have HAd := Lib.hid (HAdd.out w4 HB4.out)
    go_wp2_with fail
    refine HAd.out.mono ?_
    rintro e w5 ⟨A5, c5, rfl, hs5, hb5⟩
    have HB5 := Lib.hid (bt HB4.out hb5)
    have HX5 := Lib.hid (HX4.out.kept hb5)
    have HS5 := Lib.hid hs5
    have hx5 := slS_len hs5
    clear hb5 hs5 HB4 HX4 HAd p0 p1 p2
    by_cases hE : E = 0
    · subst hE
      obtain ⟨hmx, hfx, hax⟩ := HFound.out rfl
      obtain ⟨hr1, hr2, hr3⟩ := HRest.out rfl
      have HF5 := Lib.hid (fun w (h : Below w5.heap.size w5 w) => Find_any x sn A5 c5 w (HS5.out.kept h) (roomL_may hmx))
      have HM5 := Lib.hid (fun w (h : Below w5.heap.size w5 w) => May_any x A5 c5 w (HS5.out.kept h))
      have HA5 := Lib.hid (fun w (h : Below w5.heap.size w5 w) => HAdd2.out w (bt HB5.out h) x A5 c5 (HS5.out.kept h))
      unfold Found at HF5
      simp only [hfx, ← HK.out] at HF5
      rw [decide_eq_true hmx] at HM5
      simp only [hax] at HA5
      have HR3 := Lib.hid hr3
      obtain ⟨X, hX⟩ : ∃ X, X = x.length := ⟨_, rfl⟩
      rw [← hX] at hr1 hr2 hx5 HM5 ⊢
      simp only [← hX] at HF5 HA5
      have HXl := Lib.hid hX
      clear hmx hfx hax hr3 HFound HRest HErr HAdd HAdd2 hX
      obtain ⟨⟨p0, p1, p2⟩, _⟩ := HX5.out
      go_wp2_with fail
      refine (HF5.out w5 (Below.refl _ _)).mono ?_
      rintro e w6 ⟨A6, c6, rfl, hf6, _, hb6⟩
      have ha6 := (Below.refl w6.heap.size w6).alloc (Nat.le_refl _) (.cells #[.string sn, .int .i64 v, .slice A6 k c6] 25)
      have HY7 := Lib.hid (bx_new_t w6 25 (.string sn) (.int .i64 v) (.slice A6 k c6))
      have HB7 := Lib.hid (bt hb6 ha6)
      have HO7 := Lib.hid (hf6.kept ha6)
      have HX7 := Lib.hid (HX5.out.kept (bt hb6 ha6))
      clear ha6 hb6 hf6 HF5 p0 p1 p2
      obtain ⟨w7, hw7⟩ : ∃ w7, w7 = w6.alloc (.cells #[.string sn, .int .i64 v, .slice A6 k c6] 25) := ⟨_, rfl⟩
      rw [← hw7] at HY7 HB7 HO7 HX7
      have hx7 := HX7.out
      rw [hw7] at hx7
      obtain ⟨⟨p0, p1, p2⟩, _⟩ := hx7
      go_wp2_with fail
      rw [← hw7]
      clear hw7 p0 p1 p2
      obtain ⟨b7, hb7⟩ : ∃ b7, b7 = w6.heap.size := ⟨_, rfl⟩
      rw [← hb7] at HY7 ⊢
      clear hb7
      refine (HA5.out w7 HB7.out).mono ?_
      rintro e w8 ⟨A8, c8, rfl, _, hb8⟩
      have HB8 := Lib.hid (bt HB7.out hb8)
      have HY8 := Lib.hid (HY7.out.kept hb8)
      have HO8 := Lib.hid (HO7.out.kept hb8)
      have HX8 := Lib.hid (HX7.out.kept hb8)
      clear hb8 HB7 HY7 HO7 HX7 HA5
      go_wp2_with fail
      refine (HM5.out w8 HB8.out).mono ?_
      rintro e w9 ⟨rfl, hb9⟩
      have HB9 := Lib.hid (bt HB8.out hb9)
      have HY9 := Lib.hid (HY8.out.kept hb9)
      have HO9 := Lib.hid (HO8.out.kept hb9)
      have HX9 := Lib.hid (HX8.out.kept hb9)
      clear hb9 HB8 HY8 HO8 HX8 HM5
      obtain ⟨⟨p0, p1, p2⟩, _⟩ := HX9.out
      obtain ⟨⟨y0, y1, y2⟩, _⟩ := HY9.out
      have HS9 := Lib.hid (HSm.out w9 (bt HB5.out HB9.out) A6 c6 HO9.out)
      go_wp2_with fail
      refine HS9.out.mono ?_
      rintro e w10 ⟨rfl, hb10⟩
      have HB10 := Lib.hid (bt HB9.out hb10)
      have HX10 := Lib.hid (HX9.out.kept hb10)
      have hd1 : decide ((n : Int) + 1 < (X : Int)) = false := by rw [decide_eq_false_iff_not]; omega
      have hd2 : decide (X < n) = false := by rw [decide_eq_false_iff_not]; omega
      clear hb10 HB9 HY9 HO9 HX9 p0 p1 p2 y0 y1 y2 HS9 HSm
      go_wp2_with fail
      clear hd1 hd2
      have HXn := Lib.hid hr1
      clear hr1 hr2
      go_loopw [14] (fun i wr => ∃ j : Nat, i = .int .i64 j ∧ j ≤ n ∧ Below w10.heap.size w10 wr) (fun i _ => n - (intOf i).toNat)
      case atStart => exact ⟨0, rfl, Nat.zero_le _, Below.refl _ _⟩
      case round =>
        obtain ⟨j, rfl, hj, hbel⟩ := hrel
        have HBl := Lib.hid hbel
        clear hbel
        by_cases hjn : j < n
        · obtain ⟨g1, q1, T1, k1, hix1, hc1, _⟩ := HS.out.at j (by rw [← HLen.out]; exact hjn)
          obtain ⟨g2, q2, T2, k2, hix2, hc2, _⟩ := HS5.out.at j (by rw [← HXl.out]; have := HXn.out; omega)
          have hi1 := fun W => hix1 W n cap0 hjn
          have hi2 := fun W => hix2 W X c5 (by have := HXn.out; omega)
          obtain ⟨hnm, hrs⟩ := HR3.out j hjn
          obtain ⟨t, ht⟩ : ∃ t, t = l.getD j s0 := ⟨_, rfl⟩
          obtain ⟨u, hu⟩ : ∃ u, u = x.getD j s0 := ⟨_, rfl⟩
          rw [← ht] at hc1 hnm hrs
          rw [← hu] at hc2 hnm hrs
          clear hix1 hix2 ht hu
          have HC1 := Lib.hid hc1
          have HC2 := Lib.hid hc2
          clear hc1 hc2
          go_wp2_with fail
          obtain ⟨tn, tv, tf⟩ := t
          simp only at hnm hrs
          by_cases hts : tn = sn
          · subst hts
            obtain ⟨un, uv, uf⟩ := u
            simp only at hnm
            subst hnm
            obtain ⟨⟨x0, _⟩, _⟩ := HC1.out wr (bt HB5.out (bt HB10.out HBl.out))
            obtain ⟨⟨z0, _⟩, _⟩ := HC2.out wr (bt HB10.out HBl.out)
            obtain ⟨⟨p0, _⟩, _⟩ := HX10.out.kept HBl.out
            simp only at x0 z0
            have hee : (un.toList == un.toList) = true := by simp
            clear hrs
            go_quiet (fail)
            go_wp2_with fail
            go_roundw
            case rel => exact ⟨j + 1, by go_num, by omega, below_drewN HBl.out _⟩
            case measure => simp [intOf]; omega
          · obtain rfl := hrs hts
            have hes := str_ne hts
            have hee : (tn.toList == tn.toList) = true := by simp
            have HSb := Lib.hid (fun w (h : Below w5.heap.size w5 w) => Sc.Same_any ⟨tn, tv, tf⟩ ⟨tn, tv, tf⟩ T2 k2 T1 k1 w (HC2.out w h).2 (HC1.out w (bt HB5.out h)).2)
            rw [decide_eq_true (rfl : (⟨tn, tv, tf⟩ : Sc) = ⟨tn, tv, tf⟩)] at HSb
            simp only at HSb
            have HD1 := Lib.hid (fun w (h : Below w5.heap.size w5 w) => (HC1.out w (bt HB5.out h)).1)
            have HD2 := Lib.hid (fun w (h : Below w5.heap.size w5 w) => (HC2.out w h).1)
            unfold CellS at HD1 HD2
            simp only at HD1 HD2
            obtain ⟨m, hm⟩ : ∃ m, m = tf.length := ⟨_, rfl⟩
            simp only [← hm] at HSb HD1 HD2
            clear hnm hrs hts hm HC1 HC2
            refine Reg.G_start (by kernel_rfl) (by repeat (first | exact Reg.frameless_bodyPost | refine Reg.frameless_then ?_ | refine Reg.frameless_inBlock ?_)) (fun w' hW => ?_)
            have hBW := bt HB10.out (bt HBl.out hW)
            obtain ⟨c0, c1, c2⟩ := HD1.out w' hBW
            obtain ⟨z0, z1, z2⟩ := HD2.out w' hBW
            obtain ⟨⟨r0, _⟩, _⟩ := HX10.out.kept (bt HBl.out hW)
            have x0 := Reg.later_cell (Below.refl _ w') c0
            have x1 := Reg.later_cell (Below.refl _ w') c1
            have x2 := Reg.later_cell (Below.refl _ w') c2
            have x3 := Reg.later_cell (Below.refl _ w') z0
            have x4 := Reg.later_cell (Below.refl _ w') z1
            have x5 := Reg.later_cell (Below.refl _ w') z2
            have x6 := Reg.later_cell (Below.refl _ w') r0
            clear c0 c1 c2 z0 z1 z2 r0
            first | (refine Reg.G_step (i := 0) rfl (by kernel_rfl) (by rfl) (fun K hK => ?_); go_big_quiet_op; refine hK _ ?_; clear hK K) | (refine Reg.G_skip (i := 0) rfl (by kernel_rfl) (by rfl) ?_; simp only [Act.put, List.setIfInBounds_toArray, List.set_cons_zero, List.set_cons_succ])
            first | (refine Reg.G_step (i := 1) rfl (by kernel_rfl) (by rfl) (fun K hK => ?_); go_big_quiet_op; refine hK _ ?_; clear hK K) | (refine Reg.G_skip (i := 1) rfl (by kernel_rfl) (by rfl) ?_; simp only [Act.put, List.setIfInBounds_toArray, List.set_cons_zero, List.set_cons_succ])
            first | (refine Reg.G_step (i := 2) rfl (by kernel_rfl) (by rfl) (fun K hK => ?_); go_big_quiet_op; refine hK _ ?_; clear hK K) | (refine Reg.G_skip (i := 2) rfl (by kernel_rfl) (by rfl) ?_; simp only [Act.put, List.setIfInBounds_toArray, List.set_cons_zero, List.set_cons_succ])
            first | (refine Reg.G_step (i := 3) rfl (by kernel_rfl) (by rfl) (fun K hK => ?_); go_big_quiet_op; refine hK _ ?_; clear hK K) | (refine Reg.G_skip (i := 3) rfl (by kernel_rfl) (by rfl) ?_; simp only [Act.put, List.setIfInBounds_toArray, List.set_cons_zero, List.set_cons_succ])
            first | (refine Reg.G_step (i := 4) rfl (by kernel_rfl) (by rfl) (fun K hK => ?_); go_big_quiet_op; refine hK _ ?_; clear hK K) | (refine Reg.G_skip (i := 4) rfl (by kernel_rfl) (by rfl) ?_; simp only [Act.put, List.setIfInBounds_toArray, List.set_cons_zero, List.set_cons_succ])
            first | (refine Reg.G_step (i := 5) rfl (by kernel_rfl) (by rfl) (fun K hK => ?_); go_big_quiet_op; refine hK _ ?_; clear hK K) | (refine Reg.G_skip (i := 5) rfl (by kernel_rfl) (by rfl) ?_; simp only [Act.put, List.setIfInBounds_toArray, List.set_cons_zero, List.set_cons_succ])
            first | (refine Reg.G_step (i := 6) rfl (by kernel_rfl) (by rfl) (fun K hK => ?_); go_big_quiet_op; refine hK _ ?_; clear hK K) | (refine Reg.G_skip (i := 6) rfl (by kernel_rfl) (by rfl) ?_; simp only [Act.put, List.setIfInBounds_toArray, List.set_cons_zero, List.set_cons_succ])
            first | (refine Reg.G_step (i := 7) rfl (by kernel_rfl) (by rfl) (fun K hK => ?_); go_big_quiet_op; refine hK _ ?_; clear hK K) | (refine Reg.G_skip (i := 7) rfl (by kernel_rfl) (by rfl) ?_; simp only [Act.put, List.setIfInBounds_toArray, List.set_cons_zero, List.set_cons_succ])
            first | (refine Reg.G_step (i := 8) rfl (by kernel_rfl) (by rfl) (fun K hK => ?_); go_big_quiet_op; refine hK _ ?_; clear hK K) | (refine Reg.G_skip (i := 8) rfl (by kernel_rfl) (by rfl) ?_; simp only [Act.put, List.setIfInBounds_toArray, List.set_cons_zero, List.set_cons_succ])
            first | (refine Reg.G_step (i := 9) rfl (by kernel_rfl) (by rfl) (fun K hK => ?_); go_big_quiet_op; refine hK _ ?_; clear hK K) | (refine Reg.G_skip (i := 9) rfl (by kernel_rfl) (by rfl) ?_; simp only [Act.put, List.setIfInBounds_toArray, List.set_cons_zero, List.set_cons_succ])
            first | (refine Reg.G_step (i := 10) rfl (by kernel_rfl) (by rfl) (fun K hK => ?_); go_big_quiet_op; refine hK _ ?_; clear hK K) | (refine Reg.G_skip (i := 10) rfl (by kernel_rfl) (by rfl) ?_; simp only [Act.put, List.setIfInBounds_toArray, List.set_cons_zero, List.set_cons_succ])
            first | (refine Reg.G_step (i := 11) rfl (by kernel_rfl) (by rfl) (fun K hK => ?_); go_big_quiet_op; refine hK _ ?_; clear hK K) | (refine Reg.G_skip (i := 11) rfl (by kernel_rfl) (by rfl) ?_; simp only [Act.put, List.setIfInBounds_toArray, List.set_cons_zero, List.set_cons_succ])
            first | (refine Reg.G_step (i := 12) rfl (by kernel_rfl) (by rfl) (fun K hK => ?_); go_big_quiet_op; refine hK _ ?_; clear hK K) | (refine Reg.G_skip (i := 12) rfl (by kernel_rfl) (by rfl) ?_; simp only [Act.put, List.setIfInBounds_toArray, List.set_cons_zero, List.set_cons_succ])
            first | (refine Reg.G_step (i := 13) rfl (by kernel_rfl) (by rfl) (fun K hK => ?_); go_big_quiet_op; refine hK _ ?_; clear hK K) | (refine Reg.G_skip (i := 13) rfl (by kernel_rfl) (by rfl) ?_; simp only [Act.put, List.setIfInBounds_toArray, List.set_cons_zero, List.set_cons_succ])
            first | (refine Reg.G_step (i := 14) rfl (by kernel_rfl) (by rfl) (fun K hK => ?_); go_big_quiet_op; refine hK _ ?_; clear hK K) | (refine Reg.G_skip (i := 14) rfl (by kernel_rfl) (by rfl) ?_; simp only [Act.put, List.setIfInBounds_toArray, List.set_cons_zero, List.set_cons_succ])
            first | (refine Reg.G_step (i := 15) rfl (by kernel_rfl) (by rfl) (fun K hK => ?_); go_big_quiet_op; refine hK _ ?_; clear hK K) | (refine Reg.G_skip (i := 15) rfl (by kernel_rfl) (by rfl) ?_; simp only [Act.put, List.setIfInBounds_toArray, List.set_cons_zero, List.set_cons_succ])
            first | (refine Reg.G_step (i := 16) rfl (by kernel_rfl) (by rfl) (fun K hK => ?_); go_big_quiet_op; refine hK _ ?_; clear hK K) | (refine Reg.G_skip (i := 16) rfl (by kernel_rfl) (by rfl) ?_; simp only [Act.put, List.setIfInBounds_toArray, List.set_cons_zero, List.set_cons_succ])
            refine Reg.G_event (i := 17) rfl (by kernel_rfl) (by rfl) (fun K hK => ?_)
            go_simp
            refine (HSb.out _ hBW).mono ?_
            rintro e v0 ⟨rfl, hv0⟩
            refine hK _ _ hv0 ?_
            clear hK K x0 x1 x2 x3 x4 x5 x6
            have hw0 := bt hBW hv0
            have hw1 := bt hW hv0
            obtain ⟨c0, _, _⟩ := HD1.out v0 hw0
            obtain ⟨z0, _, _⟩ := HD2.out v0 hw0
            have x0 := Reg.later_cell (Below.refl _ v0) c0
            have x3 := Reg.later_cell (Below.refl _ v0) z0
            clear c0 z0
            first | (refine Reg.G_step (i := 18) rfl (by kernel_rfl) (by rfl) (fun K hK => ?_); go_big_quiet_op; refine hK _ ?_; clear hK K) | (refine Reg.G_skip (i := 18) rfl (by kernel_rfl) (by rfl) ?_; simp only [Act.put, List.setIfInBounds_toArray, List.set_cons_zero, List.set_cons_succ])
            first | (refine Reg.G_step (i := 19) rfl (by kernel_rfl) (by rfl) (fun K hK => ?_); go_big_quiet_op; refine hK _ ?_; clear hK K) | (refine Reg.G_skip (i := 19) rfl (by kernel_rfl) (by rfl) ?_; simp only [Act.put, List.setIfInBounds_toArray, List.set_cons_zero, List.set_cons_succ])
            first | (refine Reg.G_step (i := 20) rfl (by kernel_rfl) (by rfl) (fun K hK => ?_); go_big_quiet_op; refine hK _ ?_; clear hK K) | (refine Reg.G_skip (i := 20) rfl (by kernel_rfl) (by rfl) ?_; simp only [Act.put, List.setIfInBounds_toArray, List.set_cons_zero, List.set_cons_succ])
            first | (refine Reg.G_step (i := 21) rfl (by kernel_rfl) (by rfl) (fun K hK => ?_); go_big_quiet_op; refine hK _ ?_; clear hK K) | (refine Reg.G_skip (i := 21) rfl (by kernel_rfl) (by rfl) ?_; simp only [Act.put, List.setIfInBounds_toArray, List.set_cons_zero, List.set_cons_succ])
            first | (refine Reg.G_step (i := 22) rfl (by kernel_rfl) (by rfl) (fun K hK => ?_); go_big_quiet_op; refine hK _ ?_; clear hK K) | (refine Reg.G_skip (i := 22) rfl (by kernel_rfl) (by rfl) ?_; simp only [Act.put, List.setIfInBounds_toArray, List.set_cons_zero, List.set_cons_succ])
            first | (refine Reg.G_step (i := 23) rfl (by kernel_rfl) (by rfl) (fun K hK => ?_); go_big_quiet_op; refine hK _ ?_; clear hK K) | (refine Reg.G_skip (i := 23) rfl (by kernel_rfl) (by rfl) ?_; simp only [Act.put, List.setIfInBounds_toArray, List.set_cons_zero, List.set_cons_succ])
            first | (refine Reg.G_step (i := 24) rfl (by kernel_rfl) (by rfl) (fun K hK => ?_); go_big_quiet_op; refine hK _ ?_; clear hK K) | (refine Reg.G_skip (i := 24) rfl (by kernel_rfl) (by rfl) ?_; simp only [Act.put, List.setIfInBounds_toArray, List.set_cons_zero, List.set_cons_succ])
            first | (refine Reg.G_step (i := 25) rfl (by kernel_rfl) (by rfl) (fun K hK => ?_); go_big_quiet_op; refine hK _ ?_; clear hK K) | (refine Reg.G_skip (i := 25) rfl (by kernel_rfl) (by rfl) ?_; simp only [Act.put, List.setIfInBounds_toArray, List.set_cons_zero, List.set_cons_succ])
            first | (refine Reg.G_step (i := 26) rfl (by kernel_rfl) (by rfl) (fun K hK => ?_); go_big_quiet_op; refine hK _ ?_; clear hK K) | (refine Reg.G_skip (i := 26) rfl (by kernel_rfl) (by rfl) ?_; simp only [Act.put, List.setIfInBounds_toArray, List.set_cons_zero, List.set_cons_succ])
            first | (refine Reg.G_step (i := 27) rfl (by kernel_rfl) (by rfl) (fun K hK => ?_); go_big_quiet_op; refine hK _ ?_; clear hK K) | (refine Reg.G_skip (i := 27) rfl (by kernel_rfl) (by rfl) ?_; simp only [Act.put, List.setIfInBounds_toArray, List.set_cons_zero, List.set_cons_succ])
            first | (refine Reg.G_step (i := 28) rfl (by kernel_rfl) (by rfl) (fun K hK => ?_); go_big_quiet_op; refine hK _ ?_; clear hK K) | (refine Reg.G_skip (i := 28) rfl (by kernel_rfl) (by rfl) ?_; simp only [Act.put, List.setIfInBounds_toArray, List.set_cons_zero, List.set_cons_succ])
            first | (refine Reg.G_step (i := 29) rfl (by kernel_rfl) (by rfl) (fun K hK => ?_); go_big_quiet_op; refine hK _ ?_; clear hK K) | (refine Reg.G_skip (i := 29) rfl (by kernel_rfl) (by rfl) ?_; simp only [Act.put, List.setIfInBounds_toArray, List.set_cons_zero, List.set_cons_succ])
            first | (refine Reg.G_step (i := 30) rfl (by kernel_rfl) (by rfl) (fun K hK => ?_); go_big_quiet_op; refine hK _ ?_; clear hK K) | (refine Reg.G_skip (i := 30) rfl (by kernel_rfl) (by rfl) ?_; simp only [Act.put, List.setIfInBounds_toArray, List.set_cons_zero, List.set_cons_succ])
            first | (refine Reg.G_step (i := 31) rfl (by kernel_rfl) (by rfl) (fun K hK => ?_); go_big_quiet_op; refine hK _ ?_; clear hK K) | (refine Reg.G_skip (i := 31) rfl (by kernel_rfl) (by rfl) ?_; simp only [Act.put, List.setIfInBounds_toArray, List.set_cons_zero, List.set_cons_succ])
            first | (refine Reg.G_step (i := 32) rfl (by kernel_rfl) (by rfl) (fun K hK => ?_); go_big_quiet_op; refine hK _ ?_; clear hK K) | (refine Reg.G_skip (i := 32) rfl (by kernel_rfl) (by rfl) ?_; simp only [Act.put, List.setIfInBounds_toArray, List.set_cons_zero, List.set_cons_succ])
            refine Reg.G_done (by kernel_rfl) ?_
            have HB11 := Lib.hid (bt HBl.out hw1)
            clear hw0 hw1 hv0 hBW hW x0 x3
            go_wp2_with fail
            go_roundw
            case rel => exact ⟨j + 1, by go_num, by omega, HB11.out⟩
            case measure => simp [intOf]; omega
        · obtain rfl : j = n := by omega
          go_wp2_with fail
          go_ret
          exact ⟨ret_v (x := .bool true) rfl, bt HB5.out (bt HB10.out HBl.out)⟩
    · have hd : (E != 0) = true := by rw [bne_iff_ne]; exact hE
      rw [HErr.out hE]
      clear hE
      go_wp2_with fail
      go_ret
      exact ⟨ret_v (x := .bool true) rfl, HB5.out⟩
end Go.Proofs.Ytnkhnfkohnflcaa.Rg
