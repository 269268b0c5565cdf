/- The walk of ValueBack: what is put is got, whatever stands behind; what is got may be, and is put as the same bytes; no condition. -/
import Derived.Test.YtkjfofljjgifdaaValueLaw
import Derived.Test.YtkjfofljjgifdaaRegion
namespace Go.Proofs.Ytkjfofljjgifdaa.Va
open Go.RowKit Go.Proofs.Ytkjfofljjgifdaa.BM Go.Proofs.Ytkjfofljjgifdaa.LM Go.Proofs.Ytkjfofljjgifdaa.VaM

set_option maxRecDepth 100000 in
set_option maxHeartbeats 4000000 in
theorem back_walk (k1 n1 : Int) (s1 : ByteArray) (a : Option Addr) (len cap : Nat) (zs : List Int) (w : World) (hv1 : (Lit.int .i64 k1).wf = true ∧ (Lit.int .i64 n1).wf = true ∧ s1.size ≤ maxLen) (hz : RowU8 w a len cap zs) :
    Calls Try.prog 4 #[.agg #[.int .i64 k1, .int .i64 n1, .string s1], .slice a len cap] w fun e w' => e = .returned (.bool true) ∧ Below w.heap.size w w' := by
  obtain ⟨xs, hlen, hxs⟩ := row_slB hz
  have hr1 : Rng ⟨k1, n1, s1⟩ := rng_of hv1.2.1
  have hlc := hxs.2.1
  rw [hlen] at hlc
  have hlm : len ≤ 9223372036854775807 := by
    have h2 := hxs.2.2.2
    unfold maxLen at h2
    omega
  have HF1 := Lib.hid (fun W => few_any k1 n1 s1 W hv1.2.2)
  have HM1 := Lib.hid (May_any k1 n1 s1)
  have HP := Lib.hid (fun W => Put_any k1 n1 s1 W hr1)
  have hpl := pv_len hr1
  have hG := fun W (hW : Below w.heap.size w W) => Get_any a xs cap W (hxs.kept hW)
  rw [hlen] at hG
  have HG := Lib.hid hG
  have HXs := Lib.hid hxs
  have HLen := Lib.hid hlen
  have HR := Lib.hid hr1
  have HX := Lib.hid (bx_new w (.int .i64 k1) (.int .i64 n1) (.string s1))
  have HB := Lib.hid ((Below.refl w.heap.size w).alloc (Nat.le_refl _) (.cells #[.int .i64 k1, .int .i64 n1, .string s1] 23))
  clear hv1 hz hr1 hG hxs hlen
  go_enter Try.func4, Try.ntmps4
  go_wp2_with fail
  refine (awake_any _).mono ?_
  rintro e w1 ⟨rfl, hb⟩
  have HX1 := Lib.hid (HX.out.kept hb)
  have HB1 := Lib.hid (bt HB.out hb)
  clear hb HX HB
  obtain ⟨⟨p0, p1, p2⟩, _⟩ := HX1.out
  go_wp2_with fail
  refine (HF1.out _).mono ?_
  rintro e w2 ⟨rfl, hb⟩
  obtain ⟨P, hP⟩ : ∃ P, P = decide (s1.size ≤ 100) := ⟨_, rfl⟩
  rw [← hP]
  have HX2 := Lib.hid (HX1.out.kept hb)
  have HB2 := Lib.hid (bt HB1.out hb)
  clear hb p0 p1 p2 hP HF1 HX1 HB1
  by_cases hpq : P = true ∧ len ≤ 100
  · obtain ⟨rfl, hl100⟩ := hpq
    obtain ⟨⟨p0, p1, p2⟩, _⟩ := HX2.out
    go_wp2_with fail
    refine (HP.out _).mono ?_
    rintro e w3 ⟨A, c, rfl, h3, _, hb⟩
    obtain ⟨L, hL⟩ : ∃ L, L = (pv ⟨k1, n1, s1⟩).length := ⟨_, rfl⟩
    obtain ⟨I, hI⟩ : ∃ I, I = decide (May ⟨k1, n1, s1⟩) := ⟨_, rfl⟩
    rw [← hL] at hpl
    rw [← hL, ← hI]
    rw [← hI] at HM1
    have HL := Lib.hid hL
    have HI := Lib.hid hI
    have HS3 := Lib.hid h3
    have HX3 := Lib.hid (HX2.out.kept hb)
    have HB3 := Lib.hid (bt HB2.out hb)
    clear hb p0 p1 p2 hL hI h3 HP HX2 HB2
    obtain ⟨⟨p0, p1, p2⟩, _⟩ := HX3.out
    go_wp2_with fail
    refine (HM1.out _).mono ?_
    rintro e w4 ⟨rfl, hb⟩
    have HS4 := Lib.hid (HS3.out.kept hb)
    have HX4 := Lib.hid (HX3.out.kept hb)
    have HB4 := Lib.hid (bt HB3.out hb)
    clear hb p0 p1 p2 HM1 HX3 HB3 HS3
    by_cases hm : May ⟨k1, n1, s1⟩
    · have hI : I = true := by rw [HI.out]; exact decide_eq_true hm
      have hpv : pv ⟨k1, n1, s1⟩ = putV ⟨k1, n1, s1⟩ := by rw [pv, if_pos hm]
      have HMay := Lib.hid hm
      have HPv := Lib.hid hpv
      subst hI
      clear hm hpv
      go_wp2_with (at_builtin; refine wp_append_b rfl (.const (.slice none 0 0)) (.tmp 43) rfl w4.heap.size (.slice none 0 0) 0 [] rfl (World.ownsRow_nil _ _ _ _) A L c (pv ⟨k1, n1, s1⟩) rfl HL.out.symm HS4.out.1 HS4.out.2.2.1 (by omega) (Nat.le_refl _) ?_; intro v5 w5 hown5 hgrow5; refine pause ?_)
      simp only [Nat.zero_add, List.nil_append] at hown5
      have hb5 : Below w4.heap.size w4 w5 := (Below.refl _ _).grown hgrow5 (Nat.le_refl _) (fun _ h => by cases h)
      have HO5 := Lib.hid hown5
      have HB5 := Lib.hid hb5
      have hsz5 := hb5.size
      have hxs5 := HXs.out.kept (bt HB4.out hb5)
      have HX5 := Lib.hid hxs5
      clear hown5 hgrow5 hb5 hxs5
      unfold Pause
      go_wp2_with (at_builtin; refine wp_append_b rfl (.tmp 44) (.tmp 45) rfl w4.heap.size v5 L (pv ⟨k1, n1, s1⟩) rfl HO5.out a len cap xs rfl HLen.out HX5.out.1 HX5.out.2.2.1 (by omega) hsz5 ?_; intro v6 w6 hown6 hgrow6; refine pause ?_)
      have hb6 : Below w4.heap.size w4 w6 := HB5.out.grown hgrow6 hsz5 (fun q hq => (HO5.out.lt q hq).1)
      obtain ⟨A6, c6, rfl, hl6, h6, _⟩ := own_slB hown6 (fun y hy => by
        rcases List.mem_append.1 hy with h | h
        · exact pv_bytes _ y h
        · exact HXs.out.1.1 y h)
      have hget := Get_any A6 _ c6 w6 h6
      unfold Gots at hget
      have hga : gotP (getP (pv ⟨k1, n1, s1⟩ ++ xs)) = (⟨k1, n1, s1⟩, L, true) := by
        rw [HPv.out, getP_app HR.out HMay.out xs HXs.out.1.1, HL.out, HPv.out]
        rfl
      rw [hga, ← hl6] at hget
      simp only [got3] at hget
      rw [← hl6]
      have HGet := Lib.hid hget
      have HB6 := Lib.hid hb6
      have HX6 := Lib.hid (HX4.out.kept hb6)
      clear hget hga hb6 h6 hl6 hown6 hgrow6 hsz5 HX5 HO5 HB5
      unfold Pause
      go_wp2_with fail
      refine HGet.out.mono ?_
      rintro e w7 ⟨rfl, hb⟩
      have hb7 := bt HB6.out hb
      have ha8 := (Below.refl w7.heap.size w7).alloc (Nat.le_refl _) (.cells #[.int .i64 k1, .int .i64 n1, .string s1] 23)
      have HB8 := Lib.hid (bt HB4.out (bt hb7 ha8))
      have hx7 := HX4.out.kept hb7
      have lx := hx7.lt
      obtain ⟨⟨p0, p1, p2⟩, _⟩ := hx7
      obtain ⟨⟨q0, q1, q2⟩, _⟩ := (HX4.out.kept hb7).kept ha8
      have hne : ∀ W, (binOp .neq 23 (.agg #[.int .i64 k1, .int .i64 n1, .string s1]) (.agg #[.int .i64 k1, .int .i64 n1, .string s1])).run Try.prog W = .ok (.bool false) W := fun W => by rw [neq_v, same_iff.2 rfl]; rfl
      have HG9 := Lib.hid (HG.out _ (HB8.out))
      have HXs9 := Lib.hid (HXs.out.kept HB8.out)
      clear hb hb7 ha8 HG HX4 HB4 HS4 HB6 HX6 HXs HGet
      go_wp2_with fail
      obtain ⟨w8, hw8⟩ : ∃ w8, w8 = w7.alloc (.cells #[.int .i64 k1, .int .i64 n1, .string s1] 23) := ⟨_, rfl⟩
      rw [← hw8] at HB8 HG9 HXs9 ⊢
      clear hw8 p0 p1 p2 q0 q1 q2 lx hne
      refine HG9.out.mono ?_
      rintro e w9 ⟨rfl, hb⟩
      cases hg : getP xs with
      | none =>
        have HB10 := Lib.hid (bt HB8.out (bt hb ((Below.refl w9.heap.size w9).alloc (Nat.le_refl _) (.cells #[.int .i64 0, .int .i64 0, .string ⟨#[]⟩] 23))))
        simp only [gotP, got3, e0]
        clear hb hg
        go_wp2_with fail
        go_ret
        exact ⟨ret_bool (by first | rfl | simp), HB10.out⟩
      | some p =>
        obtain ⟨⟨gk, gn, gs⟩, m⟩ := p
        obtain ⟨hr, hmay, hm, hput⟩ := getP_some HXs9.out.1.1 hg
        rw [HLen.out] at hm
        have ha10 := (Below.refl w9.heap.size w9).alloc (Nat.le_refl _) (.cells #[.int .i64 gk, .int .i64 gn, .string gs] 23)
        have HB10 := Lib.hid (bt HB8.out (bt hb ha10))
        have HXs10 := Lib.hid (HXs9.out.kept (bt hb ha10))
        have HY10 := Lib.hid (bx_new w9 (.int .i64 gk) (.int .i64 gn) (.string gs))
        have HP2 := Lib.hid (fun W => Put_any gk gn gs W hr)
        have HM2 := Lib.hid (May_any gk gn gs)
        have hpv : pv ⟨gk, gn, gs⟩ = xs.take m := by rw [pv, if_pos hmay, hput]
        have hlm2 : (pv ⟨gk, gn, gs⟩).length = m := by rw [hpv, List.length_take, HLen.out]; omega
        have HPv2 := Lib.hid hpv
        have HLm2 := Lib.hid hlm2
        have HMay2 := Lib.hid hmay
        simp only [gotP, got3]
        clear hb hg ha10 hr hmay hput hpv hlm2
        go_wp2_with fail
        refine (HP2.out _).mono ?_
        rintro e w11 ⟨B, d, rfl, h11, _, hb⟩
        rw [HLm2.out, decide_eq_true HMay2.out]
        have HB11 := Lib.hid (bt HB10.out hb)
        have HXs11 := Lib.hid (HXs10.out.kept hb)
        have HY11 := Lib.hid (HY10.out.kept hb)
        have hcx := fun W (hW : Below w11.heap.size w11 W) => conv_any (w := W) (isB_take (isB_kept HXs11.out.1 hW) m) cap 9 Try.underlying9
        have hcy := fun W (hW : Below w11.heap.size w11 W) => conv_any (w := W) (isB_kept h11.1 hW) d 9 Try.underlying9
        rw [← HPv2.out] at hcx
        rw [HLm2.out] at hcx hcy
        obtain ⟨S, hS⟩ : ∃ S, S = strOfNums (pv ⟨gk, gn, gs⟩) := ⟨_, rfl⟩
        rw [← hS] at hcx hcy
        have HCx := Lib.hid hcx
        have HCy := Lib.hid hcy
        have hee : (S.toList == S.toList) = true := by simp
        have hd1 : decide ((m : Int) ≤ len) = true := by rw [decide_eq_true_iff]; omega
        have hd2 : decide (m ≤ len) = true := decide_eq_true hm
        have hsl := fun W => slice_hi W a len cap m (by omega)
        clear hb h11 hcx hcy hS HXs10 HY10 HP2
        obtain ⟨⟨r0, r1, r2⟩, _⟩ := HY11.out
        go_wp2_with fail
        refine Reg.G_start (by kernel_rfl) (by repeat (first | exact Reg.frameless_bodyPost | refine Reg.frameless_then ?_ | refine Reg.frameless_inBlock ?_)) (fun W hW => ?_)
        have x0 := Reg.later_cell hW r0
        have x1 := Reg.later_cell hW r1
        have x2 := Reg.later_cell hW r2
        have hbw := bt HB11.out hW
        clear r0 r1 r2
        first | (refine Reg.G_step (i := 0) rfl (by kernel_rfl) (by rfl) (fun K hK => ?_); go_big_quiet_op; refine hK _ ?_; clear hK K) | (refine Reg.G_skip (i := 0) rfl (by kernel_rfl) (by rfl) ?_; simp only [Act.put, List.setIfInBounds_toArray, List.set_cons_zero, List.set_cons_succ])
        first | (refine Reg.G_step (i := 1) rfl (by kernel_rfl) (by rfl) (fun K hK => ?_); go_big_quiet_op; refine hK _ ?_; clear hK K) | (refine Reg.G_skip (i := 1) rfl (by kernel_rfl) (by rfl) ?_; simp only [Act.put, List.setIfInBounds_toArray, List.set_cons_zero, List.set_cons_succ])
        first | (refine Reg.G_step (i := 2) rfl (by kernel_rfl) (by rfl) (fun K hK => ?_); go_big_quiet_op; refine hK _ ?_; clear hK K) | (refine Reg.G_skip (i := 2) rfl (by kernel_rfl) (by rfl) ?_; simp only [Act.put, List.setIfInBounds_toArray, List.set_cons_zero, List.set_cons_succ])
        refine Reg.G_event (i := 3) rfl (by kernel_rfl) (by rfl) (fun K hK => ?_)
        go_simp
        refine (HM2.out _).mono ?_
        rintro e v0 ⟨rfl, hv0⟩
        rw [decide_eq_true HMay2.out]
        refine hK _ _ hv0 ?_
        clear hK K x0 x1 x2
        have hw0 := bt hbw hv0
        have hcx := fun x : Reg.Later v0 => HCx.out x.world (bt (bt hW hv0) x.ext)
        have hcy := fun x : Reg.Later v0 => HCy.out x.world (bt (bt hW hv0) x.ext)
        first | (refine Reg.G_step (i := 4) rfl (by kernel_rfl) (by rfl) (fun K hK => ?_); go_big_quiet_op; refine hK _ ?_; clear hK K) | (refine Reg.G_skip (i := 4) rfl (by kernel_rfl) (by rfl) ?_; simp only [Act.put, List.setIfInBounds_toArray, List.set_cons_zero, List.set_cons_succ])
        first | (refine Reg.G_step (i := 5) rfl (by kernel_rfl) (by rfl) (fun K hK => ?_); go_big_quiet_op; refine hK _ ?_; clear hK K) | (refine Reg.G_skip (i := 5) rfl (by kernel_rfl) (by rfl) ?_; simp only [Act.put, List.setIfInBounds_toArray, List.set_cons_zero, List.set_cons_succ])
        first | (refine Reg.G_step (i := 6) rfl (by kernel_rfl) (by rfl) (fun K hK => ?_); go_big_quiet_op; refine hK _ ?_; clear hK K) | (refine Reg.G_skip (i := 6) rfl (by kernel_rfl) (by rfl) ?_; simp only [Act.put, List.setIfInBounds_toArray, List.set_cons_zero, List.set_cons_succ])
        first | (refine Reg.G_step (i := 7) rfl (by kernel_rfl) (by rfl) (fun K hK => ?_); go_big_quiet_op; refine hK _ ?_; clear hK K) | (refine Reg.G_skip (i := 7) rfl (by kernel_rfl) (by rfl) ?_; simp only [Act.put, List.setIfInBounds_toArray, List.set_cons_zero, List.set_cons_succ])
        first | (refine Reg.G_step (i := 8) rfl (by kernel_rfl) (by rfl) (fun K hK => ?_); go_big_quiet_op; refine hK _ ?_; clear hK K) | (refine Reg.G_skip (i := 8) rfl (by kernel_rfl) (by rfl) ?_; simp only [Act.put, List.setIfInBounds_toArray, List.set_cons_zero, List.set_cons_succ])
        first | (refine Reg.G_step (i := 9) rfl (by kernel_rfl) (by rfl) (fun K hK => ?_); go_big_quiet_op; refine hK _ ?_; clear hK K) | (refine Reg.G_skip (i := 9) rfl (by kernel_rfl) (by rfl) ?_; simp only [Act.put, List.setIfInBounds_toArray, List.set_cons_zero, List.set_cons_succ])
        first | (refine Reg.G_step (i := 10) rfl (by kernel_rfl) (by rfl) (fun K hK => ?_); go_big_quiet_op; refine hK _ ?_; clear hK K) | (refine Reg.G_skip (i := 10) rfl (by kernel_rfl) (by rfl) ?_; simp only [Act.put, List.setIfInBounds_toArray, List.set_cons_zero, List.set_cons_succ])
        first | (refine Reg.G_step (i := 11) rfl (by kernel_rfl) (by rfl) (fun K hK => ?_); go_big_quiet_op; refine hK _ ?_; clear hK K) | (refine Reg.G_skip (i := 11) rfl (by kernel_rfl) (by rfl) ?_; simp only [Act.put, List.setIfInBounds_toArray, List.set_cons_zero, List.set_cons_succ])
        first | (refine Reg.G_step (i := 12) rfl (by kernel_rfl) (by rfl) (fun K hK => ?_); go_big_quiet_op; refine hK _ ?_; clear hK K) | (refine Reg.G_skip (i := 12) rfl (by kernel_rfl) (by rfl) ?_; simp only [Act.put, List.setIfInBounds_toArray, List.set_cons_zero, List.set_cons_succ])
        first | (refine Reg.G_step (i := 13) rfl (by kernel_rfl) (by rfl) (fun K hK => ?_); go_big_quiet_op; refine hK _ ?_; clear hK K) | (refine Reg.G_skip (i := 13) rfl (by kernel_rfl) (by rfl) ?_; simp only [Act.put, List.setIfInBounds_toArray, List.set_cons_zero, List.set_cons_succ])
        first | (refine Reg.G_step (i := 14) rfl (by kernel_rfl) (by rfl) (fun K hK => ?_); go_big_quiet_op; refine hK _ ?_; clear hK K) | (refine Reg.G_skip (i := 14) rfl (by kernel_rfl) (by rfl) ?_; simp only [Act.put, List.setIfInBounds_toArray, List.set_cons_zero, List.set_cons_succ])
        first | (refine Reg.G_step (i := 15) rfl (by kernel_rfl) (by rfl) (fun K hK => ?_); go_big_quiet_op; refine hK _ ?_; clear hK K) | (refine Reg.G_skip (i := 15) rfl (by kernel_rfl) (by rfl) ?_; simp only [Act.put, List.setIfInBounds_toArray, List.set_cons_zero, List.set_cons_succ])
        first | (refine Reg.G_step (i := 16) rfl (by kernel_rfl) (by rfl) (fun K hK => ?_); go_big_quiet_op; refine hK _ ?_; clear hK K) | (refine Reg.G_skip (i := 16) rfl (by kernel_rfl) (by rfl) ?_; simp only [Act.put, List.setIfInBounds_toArray, List.set_cons_zero, List.set_cons_succ])
        first | (refine Reg.G_step (i := 17) rfl (by kernel_rfl) (by rfl) (fun K hK => ?_); go_big_quiet_op; refine hK _ ?_; clear hK K) | (refine Reg.G_skip (i := 17) rfl (by kernel_rfl) (by rfl) ?_; simp only [Act.put, List.setIfInBounds_toArray, List.set_cons_zero, List.set_cons_succ])
        first | (refine Reg.G_step (i := 18) rfl (by kernel_rfl) (by rfl) (fun K hK => ?_); go_big_quiet_op; refine hK _ ?_; clear hK K) | (refine Reg.G_skip (i := 18) rfl (by kernel_rfl) (by rfl) ?_; simp only [Act.put, List.setIfInBounds_toArray, List.set_cons_zero, List.set_cons_succ])
        first | (refine Reg.G_step (i := 19) rfl (by kernel_rfl) (by rfl) (fun K hK => ?_); go_big_quiet_op; refine hK _ ?_; clear hK K) | (refine Reg.G_skip (i := 19) rfl (by kernel_rfl) (by rfl) ?_; simp only [Act.put, List.setIfInBounds_toArray, List.set_cons_zero, List.set_cons_succ])
        first | (refine Reg.G_step (i := 20) rfl (by kernel_rfl) (by rfl) (fun K hK => ?_); go_big_quiet_op; refine hK _ ?_; clear hK K) | (refine Reg.G_skip (i := 20) rfl (by kernel_rfl) (by rfl) ?_; simp only [Act.put, List.setIfInBounds_toArray, List.set_cons_zero, List.set_cons_succ])
        refine Reg.G_done (by kernel_rfl) ?_
        go_wp2
        go_ret
        exact ⟨ret_bool (by first | rfl | simp), hw0⟩
    · have hI : I = false := by rw [HI.out]; exact decide_eq_false hm
      subst hI
      have HB8 := Lib.hid HB4.out
      have HG9 := Lib.hid (HG.out _ HB8.out)
      have HXs9 := Lib.hid (HXs.out.kept HB8.out)
      clear hm HG HXs HX4 HB4 HS4
      go_wp2_with fail
      refine HG9.out.mono ?_
      rintro e w9 ⟨rfl, hb⟩
      cases hg : getP xs with
      | none =>
        have HB10 := Lib.hid (bt HB8.out (bt hb ((Below.refl w9.heap.size w9).alloc (Nat.le_refl _) (.cells #[.int .i64 0, .int .i64 0, .string ⟨#[]⟩] 23))))
        simp only [gotP, got3, e0]
        clear hb hg
        go_wp2_with fail
        go_ret
        exact ⟨ret_bool (by first | rfl | simp), HB10.out⟩
      | some p =>
        obtain ⟨⟨gk, gn, gs⟩, m⟩ := p
        obtain ⟨hr, hmay, hm, hput⟩ := getP_some HXs9.out.1.1 hg
        rw [HLen.out] at hm
        have ha10 := (Below.refl w9.heap.size w9).alloc (Nat.le_refl _) (.cells #[.int .i64 gk, .int .i64 gn, .string gs] 23)
        have HB10 := Lib.hid (bt HB8.out (bt hb ha10))
        have HXs10 := Lib.hid (HXs9.out.kept (bt hb ha10))
        have HY10 := Lib.hid (bx_new w9 (.int .i64 gk) (.int .i64 gn) (.string gs))
        have HP2 := Lib.hid (fun W => Put_any gk gn gs W hr)
        have HM2 := Lib.hid (May_any gk gn gs)
        have hpv : pv ⟨gk, gn, gs⟩ = xs.take m := by rw [pv, if_pos hmay, hput]
        have hlm2 : (pv ⟨gk, gn, gs⟩).length = m := by rw [hpv, List.length_take, HLen.out]; omega
        have HPv2 := Lib.hid hpv
        have HLm2 := Lib.hid hlm2
        have HMay2 := Lib.hid hmay
        simp only [gotP, got3]
        clear hb hg ha10 hr hmay hput hpv hlm2
        go_wp2_with fail
        refine (HP2.out _).mono ?_
        rintro e w11 ⟨B, d, rfl, h11, _, hb⟩
        rw [HLm2.out, decide_eq_true HMay2.out]
        have HB11 := Lib.hid (bt HB10.out hb)
        have HXs11 := Lib.hid (HXs10.out.kept hb)
        have HY11 := Lib.hid (HY10.out.kept hb)
        have hcx := fun W (hW : Below w11.heap.size w11 W) => conv_any (w := W) (isB_take (isB_kept HXs11.out.1 hW) m) cap 9 Try.underlying9
        have hcy := fun W (hW : Below w11.heap.size w11 W) => conv_any (w := W) (isB_kept h11.1 hW) d 9 Try.underlying9
        rw [← HPv2.out] at hcx
        rw [HLm2.out] at hcx hcy
        obtain ⟨S, hS⟩ : ∃ S, S = strOfNums (pv ⟨gk, gn, gs⟩) := ⟨_, rfl⟩
        rw [← hS] at hcx hcy
        have HCx := Lib.hid hcx
        have HCy := Lib.hid hcy
        have hee : (S.toList == S.toList) = true := by simp
        have hd1 : decide ((m : Int) ≤ len) = true := by rw [decide_eq_true_iff]; omega
        have hd2 : decide (m ≤ len) = true := decide_eq_true hm
        have hsl := fun W => slice_hi W a len cap m (by omega)
        clear hb h11 hcx hcy hS HXs10 HY10 HP2
        obtain ⟨⟨r0, r1, r2⟩, _⟩ := HY11.out
        go_wp2_with fail
        refine Reg.G_start (by kernel_rfl) (by repeat (first | exact Reg.frameless_bodyPost | refine Reg.frameless_then ?_ | refine Reg.frameless_inBlock ?_)) (fun W hW => ?_)
        have x0 := Reg.later_cell hW r0
        have x1 := Reg.later_cell hW r1
        have x2 := Reg.later_cell hW r2
        have hbw := bt HB11.out hW
        clear r0 r1 r2
        first | (refine Reg.G_step (i := 0) rfl (by kernel_rfl) (by rfl) (fun K hK => ?_); go_big_quiet_op; refine hK _ ?_; clear hK K) | (refine Reg.G_skip (i := 0) rfl (by kernel_rfl) (by rfl) ?_; simp only [Act.put, List.setIfInBounds_toArray, List.set_cons_zero, List.set_cons_succ])
        first | (refine Reg.G_step (i := 1) rfl (by kernel_rfl) (by rfl) (fun K hK => ?_); go_big_quiet_op; refine hK _ ?_; clear hK K) | (refine Reg.G_skip (i := 1) rfl (by kernel_rfl) (by rfl) ?_; simp only [Act.put, List.setIfInBounds_toArray, List.set_cons_zero, List.set_cons_succ])
        first | (refine Reg.G_step (i := 2) rfl (by kernel_rfl) (by rfl) (fun K hK => ?_); go_big_quiet_op; refine hK _ ?_; clear hK K) | (refine Reg.G_skip (i := 2) rfl (by kernel_rfl) (by rfl) ?_; simp only [Act.put, List.setIfInBounds_toArray, List.set_cons_zero, List.set_cons_succ])
        refine Reg.G_event (i := 3) rfl (by kernel_rfl) (by rfl) (fun K hK => ?_)
        go_simp
        refine (HM2.out _).mono ?_
        rintro e v0 ⟨rfl, hv0⟩
        rw [decide_eq_true HMay2.out]
        refine hK _ _ hv0 ?_
        clear hK K x0 x1 x2
        have hw0 := bt hbw hv0
        have hcx := fun x : Reg.Later v0 => HCx.out x.world (bt (bt hW hv0) x.ext)
        have hcy := fun x : Reg.Later v0 => HCy.out x.world (bt (bt hW hv0) x.ext)
        first | (refine Reg.G_step (i := 4) rfl (by kernel_rfl) (by rfl) (fun K hK => ?_); go_big_quiet_op; refine hK _ ?_; clear hK K) | (refine Reg.G_skip (i := 4) rfl (by kernel_rfl) (by rfl) ?_; simp only [Act.put, List.setIfInBounds_toArray, List.set_cons_zero, List.set_cons_succ])
        first | (refine Reg.G_step (i := 5) rfl (by kernel_rfl) (by rfl) (fun K hK => ?_); go_big_quiet_op; refine hK _ ?_; clear hK K) | (refine Reg.G_skip (i := 5) rfl (by kernel_rfl) (by rfl) ?_; simp only [Act.put, List.setIfInBounds_toArray, List.set_cons_zero, List.set_cons_succ])
        first | (refine Reg.G_step (i := 6) rfl (by kernel_rfl) (by rfl) (fun K hK => ?_); go_big_quiet_op; refine hK _ ?_; clear hK K) | (refine Reg.G_skip (i := 6) rfl (by kernel_rfl) (by rfl) ?_; simp only [Act.put, List.setIfInBounds_toArray, List.set_cons_zero, List.set_cons_succ])
        first | (refine Reg.G_step (i := 7) rfl (by kernel_rfl) (by rfl) (fun K hK => ?_); go_big_quiet_op; refine hK _ ?_; clear hK K) | (refine Reg.G_skip (i := 7) rfl (by kernel_rfl) (by rfl) ?_; simp only [Act.put, List.setIfInBounds_toArray, List.set_cons_zero, List.set_cons_succ])
        first | (refine Reg.G_step (i := 8) rfl (by kernel_rfl) (by rfl) (fun K hK => ?_); go_big_quiet_op; refine hK _ ?_; clear hK K) | (refine Reg.G_skip (i := 8) rfl (by kernel_rfl) (by rfl) ?_; simp only [Act.put, List.setIfInBounds_toArray, List.set_cons_zero, List.set_cons_succ])
        first | (refine Reg.G_step (i := 9) rfl (by kernel_rfl) (by rfl) (fun K hK => ?_); go_big_quiet_op; refine hK _ ?_; clear hK K) | (refine Reg.G_skip (i := 9) rfl (by kernel_rfl) (by rfl) ?_; simp only [Act.put, List.setIfInBounds_toArray, List.set_cons_zero, List.set_cons_succ])
        first | (refine Reg.G_step (i := 10) rfl (by kernel_rfl) (by rfl) (fun K hK => ?_); go_big_quiet_op; refine hK _ ?_; clear hK K) | (refine Reg.G_skip (i := 10) rfl (by kernel_rfl) (by rfl) ?_; simp only [Act.put, List.setIfInBounds_toArray, List.set_cons_zero, List.set_cons_succ])
        first | (refine Reg.G_step (i := 11) rfl (by kernel_rfl) (by rfl) (fun K hK => ?_); go_big_quiet_op; refine hK _ ?_; clear hK K) | (refine Reg.G_skip (i := 11) rfl (by kernel_rfl) (by rfl) ?_; simp only [Act.put, List.setIfInBounds_toArray, List.set_cons_zero, List.set_cons_succ])
        first | (refine Reg.G_step (i := 12) rfl (by kernel_rfl) (by rfl) (fun K hK => ?_); go_big_quiet_op; refine hK _ ?_; clear hK K) | (refine Reg.G_skip (i := 12) rfl (by kernel_rfl) (by rfl) ?_; simp only [Act.put, List.setIfInBounds_toArray, List.set_cons_zero, List.set_cons_succ])
        first | (refine Reg.G_step (i := 13) rfl (by kernel_rfl) (by rfl) (fun K hK => ?_); go_big_quiet_op; refine hK _ ?_; clear hK K) | (refine Reg.G_skip (i := 13) rfl (by kernel_rfl) (by rfl) ?_; simp only [Act.put, List.setIfInBounds_toArray, List.set_cons_zero, List.set_cons_succ])
        first | (refine Reg.G_step (i := 14) rfl (by kernel_rfl) (by rfl) (fun K hK => ?_); go_big_quiet_op; refine hK _ ?_; clear hK K) | (refine Reg.G_skip (i := 14) rfl (by kernel_rfl) (by rfl) ?_; simp only [Act.put, List.setIfInBounds_toArray, List.set_cons_zero, List.set_cons_succ])
        first | (refine Reg.G_step (i := 15) rfl (by kernel_rfl) (by rfl) (fun K hK => ?_); go_big_quiet_op; refine hK _ ?_; clear hK K) | (refine Reg.G_skip (i := 15) rfl (by kernel_rfl) (by rfl) ?_; simp only [Act.put, List.setIfInBounds_toArray, List.set_cons_zero, List.set_cons_succ])
        first | (refine Reg.G_step (i := 16) rfl (by kernel_rfl) (by rfl) (fun K hK => ?_); go_big_quiet_op; refine hK _ ?_; clear hK K) | (refine Reg.G_skip (i := 16) rfl (by kernel_rfl) (by rfl) ?_; simp only [Act.put, List.setIfInBounds_toArray, List.set_cons_zero, List.set_cons_succ])
        first | (refine Reg.G_step (i := 17) rfl (by kernel_rfl) (by rfl) (fun K hK => ?_); go_big_quiet_op; refine hK _ ?_; clear hK K) | (refine Reg.G_skip (i := 17) rfl (by kernel_rfl) (by rfl) ?_; simp only [Act.put, List.setIfInBounds_toArray, List.set_cons_zero, List.set_cons_succ])
        first | (refine Reg.G_step (i := 18) rfl (by kernel_rfl) (by rfl) (fun K hK => ?_); go_big_quiet_op; refine hK _ ?_; clear hK K) | (refine Reg.G_skip (i := 18) rfl (by kernel_rfl) (by rfl) ?_; simp only [Act.put, List.setIfInBounds_toArray, List.set_cons_zero, List.set_cons_succ])
        first | (refine Reg.G_step (i := 19) rfl (by kernel_rfl) (by rfl) (fun K hK => ?_); go_big_quiet_op; refine hK _ ?_; clear hK K) | (refine Reg.G_skip (i := 19) rfl (by kernel_rfl) (by rfl) ?_; simp only [Act.put, List.setIfInBounds_toArray, List.set_cons_zero, List.set_cons_succ])
        first | (refine Reg.G_step (i := 20) rfl (by kernel_rfl) (by rfl) (fun K hK => ?_); go_big_quiet_op; refine hK _ ?_; clear hK K) | (refine Reg.G_skip (i := 20) rfl (by kernel_rfl) (by rfl) ?_; simp only [Act.put, List.setIfInBounds_toArray, List.set_cons_zero, List.set_cons_succ])
        refine Reg.G_done (by kernel_rfl) ?_
        go_wp2
        go_ret
        exact ⟨ret_bool (by first | rfl | simp), hw0⟩
  · have hor : P = false ∨ (P = true ∧ 100 < len) := by
      cases P
      · exact Or.inl rfl
      · exact Or.inr ⟨rfl, Nat.lt_of_not_le (fun h => hpq ⟨rfl, h⟩)⟩
    clear hpq
    rcases hor with rfl | ⟨rfl, hl⟩
    all_goals
      go_wp2_with fail
      go_ret
      exact ⟨ret_bool (by first | rfl | simp), HB2.out⟩
end Go.Proofs.Ytkjfofljjgifdaa.Va
