/- addNext: a schema in the place of the version ahead of it; asked: the schemas lie where the slice says, they may be, and the i-th one is the first of the name. -/
import Derived.Test.YtnkhnfkohnflcaaRegAddNew
import Derived.Test.YtnkhnfkohnflcaaSchemaFits
import Derived.Test.YtnkhnfkohnflcaaSchemaSame
namespace Go.Proofs.Ytnkhnfkohnflcaa.Rg
open Go.RowKit Go.Proofs.Ytnkhnfkohnflcaa.BM Go.Proofs.Ytnkhnfkohnflcaa.LM Go.Proofs.Ytnkhnfkohnflcaa.VaM Go.Proofs.Ytnkhnfkohnflcaa.Va Go.Proofs.Ytnkhnfkohnflcaa.Sc Go.Proofs.Ytnkhnfkohnflcaa.RgM
open Go.Proofs.Ytnkhnfkohnflcaa.ScM (Sc Fit)

set_option maxRecDepth 100000 in
set_option maxHeartbeats 4000000 in
theorem addNext_any (l : List Sc) (i : Nat) (s : Sc) (A : Option Addr) (c : Nat) (B : Option Addr) (d : Nat) (w : World) (hS : SlS w A l c) (hF : SlF w B s.f d) (hz : Fine s) (hm : May l ∧ ScM.May s) (hat : At l s.s = some i) :
    Calls Try.prog 24 #[.slice A l.length c, .int .i64 (i : Int), .agg #[.string s.s, .int .i64 s.v, .slice B s.f.length d]] w (Added l s w) := by
  have hl := slS_len hS
  have hall := fun W (h : Below w.heap.size w W) => ownAll_any l A c W (hS.kept h) (roomL_may hm.1) (Nat.le_trans hm.1.2 (by decide))
  have hown := fun W (h : Below w.heap.size w W) => own_any s B d W (hF.kept h) (room_may hm.2)
  have hro := fun (W : World) (T : Option Addr) (t H : Nat) (v : Value) (h : Own H W T s.f t) (hv : ∀ b, v.ownBlock = some b → b < H) => relS_own h hz hv
  have hsm := fun W (h : Below w.heap.size w W) (t : Sc) T k (ht : SlF W T t.f k) => Go.Proofs.Ytnkhnfkohnflcaa.Sc.Same_any t s T k B d W ht (hF.kept h)
  have hft := fun W (h : Below w.heap.size w W) (t : Sc) T k (ht : SlF W T t.f k) (htz : Fine t) => Go.Proofs.Ytnkhnfkohnflcaa.Sc.Fits_any t s T k B d W ht (hF.kept h) htz hz
  have hadd := @add_some l s i hm hat
  have hlt := (at_some.1 hat).1
  obtain ⟨b, q, A1, c1, hix, hc, hfine⟩ := hS.at i hlt
  have HAll := Lib.hid hall
  have HOwn := Lib.hid hown
  have HRo := Lib.hid hro
  clear hall hown hro hS hF hz hm hat
  obtain ⟨nm, v, f⟩ := s
  simp only at HOwn HRo hsm hft hadd ⊢
  obtain ⟨t, ht⟩ : ∃ t, t = l.getD i s0 := ⟨_, rfl⟩
  rw [← ht] at hc hfine hadd
  have hsm5 := fun W (h : Below w.heap.size w W) => hsm W h t A1 c1 (hc W h).2
  have hft5 := fun W (h : Below w.heap.size w W) => hft W h t A1 c1 (hc W h).2 hfine
  have hcc := fun W (h : Below w.heap.size w W) => (hc W h).1
  clear hc ht hfine hsm hft
  obtain ⟨tn, tv, tf⟩ := t
  unfold CellS at hcc
  simp only at hsm5 hft5 hcc hadd
  obtain ⟨m, hm⟩ : ∃ m, m = tf.length := ⟨_, rfl⟩
  obtain ⟨k, hk⟩ : ∃ k, k = f.length := ⟨_, rfl⟩
  obtain ⟨n, hn⟩ : ∃ n, n = l.length := ⟨_, rfl⟩
  simp only [← hm] at hsm5 hft5 hcc
  simp only [← hk] at HOwn HRo hsm5 hft5
  simp only [← hn] at HAll hl hlt
  rw [← hk, ← hn]
  have HLen := Lib.hid hn
  have HSm5 := Lib.hid hsm5
  have HFt5 := Lib.hid hft5
  have HC := Lib.hid hcc
  have HAdd := Lib.hid hadd
  have hi' := fun W => hix W n c hlt
  clear hk hn hm hsm5 hft5 hcc hix hadd
  have HX4 := Lib.hid (bx_new_t w 25 (.string nm) (.int .i64 v) (.slice B k d))
  have HB4 := Lib.hid ((Below.refl w.heap.size w).alloc (Nat.le_refl _) (.cells #[.string nm, .int .i64 v, .slice B k d] 25))
  go_enter Try.func24, Try.ntmps24
  go_wp2_with fail
  obtain ⟨w4, hw4⟩ : ∃ w4, w4 = w.alloc (.cells #[.string nm, .int .i64 v, .slice B k d] 25) := ⟨_, rfl⟩
  rw [← hw4] at HX4 HB4 ⊢
  clear hw4
  refine Reg.G_start (by kernel_rfl) (by repeat (first | exact Reg.frameless_bodyPost | refine Reg.frameless_then ?_ | refine Reg.frameless_inBlock ?_)) (fun W hW => ?_)
  have hBW := bt HB4.out hW
  obtain ⟨y0, y1, y2⟩ := HC.out W hBW
  obtain ⟨⟨z0, z1, z2⟩, _⟩ := HX4.out.kept hW
  have x0 := Reg.later_cell (Below.refl _ W) y0
  have x1 := Reg.later_cell (Below.refl _ W) y1
  have x2 := Reg.later_cell (Below.refl _ W) y2
  have x3 := Reg.later_cell (Below.refl _ W) z0
  have x4 := Reg.later_cell (Below.refl _ W) z1
  have x5 := Reg.later_cell (Below.refl _ W) z2
  clear y0 y1 y2 z0 z1 z2
  first | (refine Reg.G_step (i := 0) rfl (by kernel_rfl) (by rfl) (fun K hK => ?_); go_big_quiet_op; refine hK _ ?_; clear hK K) | (refine Reg.G_skip (i := 0) rfl (by kernel_rfl) (by rfl) ?_; simp only [Act.put, List.setIfInBounds_toArray, List.set_cons_zero, List.set_cons_succ])
  first | (refine Reg.G_step (i := 1) rfl (by kernel_rfl) (by rfl) (fun K hK => ?_); go_big_quiet_op; refine hK _ ?_; clear hK K) | (refine Reg.G_skip (i := 1) rfl (by kernel_rfl) (by rfl) ?_; simp only [Act.put, List.setIfInBounds_toArray, List.set_cons_zero, List.set_cons_succ])
  first | (refine Reg.G_step (i := 2) rfl (by kernel_rfl) (by rfl) (fun K hK => ?_); go_big_quiet_op; refine hK _ ?_; clear hK K) | (refine Reg.G_skip (i := 2) rfl (by kernel_rfl) (by rfl) ?_; simp only [Act.put, List.setIfInBounds_toArray, List.set_cons_zero, List.set_cons_succ])
  first | (refine Reg.G_step (i := 3) rfl (by kernel_rfl) (by rfl) (fun K hK => ?_); go_big_quiet_op; refine hK _ ?_; clear hK K) | (refine Reg.G_skip (i := 3) rfl (by kernel_rfl) (by rfl) ?_; simp only [Act.put, List.setIfInBounds_toArray, List.set_cons_zero, List.set_cons_succ])
  first | (refine Reg.G_step (i := 4) rfl (by kernel_rfl) (by rfl) (fun K hK => ?_); go_big_quiet_op; refine hK _ ?_; clear hK K) | (refine Reg.G_skip (i := 4) rfl (by kernel_rfl) (by rfl) ?_; simp only [Act.put, List.setIfInBounds_toArray, List.set_cons_zero, List.set_cons_succ])
  refine Reg.G_event (i := 5) rfl (by kernel_rfl) (by rfl) (fun K hK => ?_)
  go_simp
  refine (HSm5.out _ hBW).mono ?_
  rintro e v0 ⟨rfl, hv0⟩
  refine hK _ _ hv0 ?_
  clear hK K x0 x1 x2 x3 x4 x5
  have hw0 := bt hW hv0
  first | (refine Reg.G_step (i := 6) rfl (by kernel_rfl) (by rfl) (fun K hK => ?_); go_big_quiet_op; refine hK _ ?_; clear hK K) | (refine Reg.G_skip (i := 6) rfl (by kernel_rfl) (by rfl) ?_; simp only [Act.put, List.setIfInBounds_toArray, List.set_cons_zero, List.set_cons_succ])
  refine Reg.G_done (by kernel_rfl) ?_
  have HW6 := Lib.hid hw0
  obtain ⟨w6, hw6⟩ : ∃ w6, w6 = v0 := ⟨_, rfl⟩
  rw [← hw6] at HW6 ⊢
  clear hw0 hv0 hBW hW hw6
  by_cases hsame : (⟨tn, tv, tf⟩ : Sc) = ⟨nm, v, f⟩
  · rw [decide_eq_true hsame]
    have HErr := Lib.hid (show add l ⟨nm, v, f⟩ = ([], 4) from by rw [HAdd.out, if_pos hsame])
    clear hsame
    go_wp2_with fail
    exact bodyPost_ret (v := .tuple #[.slice none 0 0, .int .i64 4]) (by simp [results, Try.results24, go_sem]) rfl (added_err HErr.out (bt HB4.out HW6.out))
  · rw [decide_eq_false hsame]
    have HAdd2 := Lib.hid (show add l ⟨nm, v, f⟩ = if Fit ⟨tn, tv, tf⟩ ⟨nm, v, f⟩ then (l.set i ⟨nm, v, f⟩, 0) else ([], 5) from by rw [HAdd.out, if_neg hsame])
    clear hsame
    go_wp2_with fail
    refine Reg.G_start (by kernel_rfl) (by repeat (first | exact Reg.frameless_bodyPost | refine Reg.frameless_then ?_ | refine Reg.frameless_inBlock ?_)) (fun W hW => ?_)
    have hBW := bt HB4.out (bt HW6.out hW)
    obtain ⟨y0, y1, y2⟩ := HC.out W hBW
    obtain ⟨⟨z0, z1, z2⟩, _⟩ := HX4.out.kept (bt HW6.out hW)
    have x0 := Reg.later_cell (Below.refl _ W) y0
    have x1 := Reg.later_cell (Below.refl _ W) y1
    have x2 := Reg.later_cell (Below.refl _ W) y2
    have x3 := Reg.later_cell (Below.refl _ W) z0
    have x4 := Reg.later_cell (Below.refl _ W) z1
    have x5 := Reg.later_cell (Below.refl _ W) z2
    clear y0 y1 y2 z0 z1 z2
    first | (refine Reg.G_step (i := 0) rfl (by kernel_rfl) (by rfl) (fun K hK => ?_); go_big_quiet_op; refine hK _ ?_; clear hK K) | (refine Reg.G_skip (i := 0) rfl (by kernel_rfl) (by rfl) ?_; simp only [Act.put, List.setIfInBounds_toArray, List.set_cons_zero, List.set_cons_succ])
    first | (refine Reg.G_step (i := 1) rfl (by kernel_rfl) (by rfl) (fun K hK => ?_); go_big_quiet_op; refine hK _ ?_; clear hK K) | (refine Reg.G_skip (i := 1) rfl (by kernel_rfl) (by rfl) ?_; simp only [Act.put, List.setIfInBounds_toArray, List.set_cons_zero, List.set_cons_succ])
    first | (refine Reg.G_step (i := 2) rfl (by kernel_rfl) (by rfl) (fun K hK => ?_); go_big_quiet_op; refine hK _ ?_; clear hK K) | (refine Reg.G_skip (i := 2) rfl (by kernel_rfl) (by rfl) ?_; simp only [Act.put, List.setIfInBounds_toArray, List.set_cons_zero, List.set_cons_succ])
    first | (refine Reg.G_step (i := 3) rfl (by kernel_rfl) (by rfl) (fun K hK => ?_); go_big_quiet_op; refine hK _ ?_; clear hK K) | (refine Reg.G_skip (i := 3) rfl (by kernel_rfl) (by rfl) ?_; simp only [Act.put, List.setIfInBounds_toArray, List.set_cons_zero, List.set_cons_succ])
    first | (refine Reg.G_step (i := 4) rfl (by kernel_rfl) (by rfl) (fun K hK => ?_); go_big_quiet_op; refine hK _ ?_; clear hK K) | (refine Reg.G_skip (i := 4) rfl (by kernel_rfl) (by rfl) ?_; simp only [Act.put, List.setIfInBounds_toArray, List.set_cons_zero, List.set_cons_succ])
    refine Reg.G_event (i := 5) rfl (by kernel_rfl) (by rfl) (fun K hK => ?_)
    go_simp
    refine (HFt5.out _ hBW).mono ?_
    rintro e v1 ⟨rfl, hv1⟩
    refine hK _ _ hv1 ?_
    clear hK K x0 x1 x2 x3 x4 x5
    have hw1 := bt HW6.out (bt hW hv1)
    first | (refine Reg.G_step (i := 6) rfl (by kernel_rfl) (by rfl) (fun K hK => ?_); go_big_quiet_op; refine hK _ ?_; clear hK K) | (refine Reg.G_skip (i := 6) rfl (by kernel_rfl) (by rfl) ?_; simp only [Act.put, List.setIfInBounds_toArray, List.set_cons_zero, List.set_cons_succ])
    first | (refine Reg.G_step (i := 7) rfl (by kernel_rfl) (by rfl) (fun K hK => ?_); go_big_quiet_op; refine hK _ ?_; clear hK K) | (refine Reg.G_skip (i := 7) rfl (by kernel_rfl) (by rfl) ?_; simp only [Act.put, List.setIfInBounds_toArray, List.set_cons_zero, List.set_cons_succ])
    refine Reg.G_done (by kernel_rfl) ?_
    have HW7 := Lib.hid hw1
    obtain ⟨w7, hw7⟩ : ∃ w7, w7 = v1 := ⟨_, rfl⟩
    rw [← hw7] at HW7 ⊢
    clear hw1 hv1 hBW hW hw7
    by_cases hfit : Fit ⟨tn, tv, tf⟩ ⟨nm, v, f⟩
    · rw [decide_eq_true hfit]
      have HYes := Lib.hid (show add l ⟨nm, v, f⟩ = (l.set i ⟨nm, v, f⟩, 0) from by rw [HAdd2.out, if_pos hfit])
      clear hfit
      have HX7 := Lib.hid (HX4.out.kept HW7.out)
      have HB7 := Lib.hid (bt HB4.out HW7.out)
      clear HX4 HW7
      go_wp2_with fail
      refine (HAll.out w7 HB7.out).mono ?_
      rintro e w8 ⟨u4, us, rfl, ho8, hb8⟩
      have HH := Lib.hid (show w.heap.size ≤ w7.heap.size from HB7.out.size)
      have HO8 := Lib.hid ho8
      have HX8 := Lib.hid (HX7.out.kept hb8)
      have HB8 := Lib.hid (bt HB7.out hb8)
      clear ho8 hb8 HX7 HB7
      obtain ⟨⟨p0, p1, p2⟩, _⟩ := HX8.out
      go_wp2_with fail
      refine (HOwn.out w8 HB8.out).mono ?_
      rintro e w9 ⟨A9, c9, rfl, ho9, hb9⟩
      have hrel9 := HRo.out w9 A9 c9 w8.heap.size u4 ho9 (own_lt HO8.out.1)
      have hO9 := HO8.out.kept hb9
      have HB9 := Lib.hid (bt HB8.out hb9)
      clear ho9 hb9 HO8 HX8 HB8 p0 p1 p2
      obtain ⟨g, c7, r, hu7, hr, hg, hix7, ⟨o0, o1, o2, k0, k1, k2⟩, f0, f1, f2⟩ := own_at hO9.1 hO9.2 i (by rw [← HLen.out]; exact hlt)
      subst hu7
      obtain ⟨hown, hgrow⟩ := own_set3 hO9.1 r (.string nm) (.int .i64 v) (.slice A9 k c9)
      have hb10 := HB9.out.grown hgrow HB9.out.size (fun q hq => by injection hq with hq; have := HH.out; omega)
      have hel := elems_set (KS.grown hrel9 hgrow fun b hb => hb.2) (fun _ _ e => KS.grown e hgrow fun _ hb => hb.2) l us i (by rw [← HLen.out]; exact hlt) hO9.2
      rw [← hr] at hel
      obtain ⟨A10, c10, hu10, hq10, hs10, hz10⟩ := RG.own_slG hown hel (by decide)
      have HU := Lib.hid hu10
      have HS := Lib.hid (slS_mono hs10)
      have HB := Lib.hid hb10
      obtain ⟨G, hG⟩ : ∃ G, G = (some ⟨g, 0, none⟩ : Option Addr) := ⟨_, rfl⟩
      rw [← hG] at hix7 HU ⊢
      clear hown hgrow hrel9 hO9 hb10 hel hu10 hs10 hq10 hz10 hr hg hG
      go_wp2_with fail
      exact bodyPost_ret (v := .tuple #[.slice G n c7, .int .i64 0]) (by simp [results, Try.results24, go_sem]) rfl ⟨A10, c10, ret_v (by rw [HYes.out, HU.out]), by rw [HYes.out]; exact HS.out, HB.out⟩
    · rw [decide_eq_false hfit]
      have HErr := Lib.hid (show add l ⟨nm, v, f⟩ = ([], 5) from by rw [HAdd2.out, if_neg hfit])
      clear hfit
      go_wp2_with fail
      exact bodyPost_ret (v := .tuple #[.slice none 0 0, .int .i64 5]) (by simp [results, Try.results24, go_sem]) rfl (added_err HErr.out (bt HB4.out HW7.out))
end Go.Proofs.Ytnkhnfkohnflcaa.Rg
