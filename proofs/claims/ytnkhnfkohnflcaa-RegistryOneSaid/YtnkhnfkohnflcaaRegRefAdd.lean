/- Add of the document's answers; asked: the schemas lie where the slice says. -/
import Derived.Test.YtnkhnfkohnflcaaRegRefFind
import Derived.Test.YtnkhnfkohnflcaaSchemaRefFits
import Derived.Test.YtnkhnfkohnflcaaSchemaSet
namespace Go.Proofs.Ytnkhnfkohnflcaa.Rg
open Go.RowKit Go.Proofs.Ytnkhnfkohnflcaa.BM Go.Proofs.Ytnkhnfkohnflcaa.LM Go.Proofs.Ytnkhnfkohnflcaa.VaM Go.Proofs.Ytnkhnfkohnflcaa.Va Go.Proofs.Ytnkhnfkohnflcaa.Sc Go.Proofs.Ytnkhnfkohnflcaa.RgM
open Go.Proofs.Ytnkhnfkohnflcaa.ScM (Sc Fit)

/-- What comes of one more, as an answer. -/
def Added (l : List Sc) (s : Sc) (w : World) (e : Ending) (w' : World) : Prop :=
  ∃ A c, e = .returned (.tuple #[.slice A (add l s).1.length c, .int .i64 (add l s).2]) ∧ SlS w' A (add l s).1 c ∧ Below w.heap.size w w'

theorem added_err {l : List Sc} {s : Sc} {k : Int} {w w' : World} (h : add l s = ([], k)) (hb : Below w.heap.size w w') : Added l s w (.returned (.tuple #[.slice none 0 0, .int .i64 k])) w' := by
  refine ⟨none, 0, ?_, ?_, hb⟩
  · rw [h]
    rfl
  · rw [h]
    exact slS_none _

set_option maxRecDepth 100000 in
set_option maxHeartbeats 4000000 in
theorem refAdd_any (l : List Sc) (s : Sc) (A : Option Addr) (c : Nat) (B : Option Addr) (d : Nat) (w : World) (hS : SlS w A l c) (hF : SlF w B s.f d) (hz : Fine s) (hlen : l.length ≤ 1000) :
    Calls Try.prog 12 #[.slice A l.length c, .agg #[.string s.s, .int .i64 s.v, .slice B s.f.length d]] w (Added l s w) := by
  have hl := slS_len hS
  have hmay := fun W (h : Below w.heap.size w W) => refMay_any l A c W (hS.kept h)
  have hm5 := fun W (h : Below w.heap.size w W) => Go.Proofs.Ytnkhnfkohnflcaa.Sc.refMay_any s B d W (hF.kept h) hz
  have hat := fun W (h : Below w.heap.size w W) => refAt_any l s.s A c W (hS.kept h)
  have hsm := fun W (h : Below w.heap.size w W) (t : Sc) T k (ht : SlF W T t.f k) => Go.Proofs.Ytnkhnfkohnflcaa.Sc.refSame_any t s T k B d W ht (hF.kept h)
  have hft := fun W (h : Below w.heap.size w W) (t : Sc) T k (ht : SlF W T t.f k) (htz : Fine t) => Go.Proofs.Ytnkhnfkohnflcaa.Sc.refFits_any t s T k B d W ht (hF.kept h) htz hz
  obtain ⟨us, hus⟩ := slS_elems hS
  have hnil := hS.2.2.1
  have hrel := fun v base => @relS_of w B s d hF hz v base
  have hadd1 := @add_1 l s
  have haddn := @add_none l s
  have hadds := fun i => @add_some l s i
  have HMay := Lib.hid hmay
  have HM5 := Lib.hid hm5
  have HAt := Lib.hid hat
  have HSm := Lib.hid hsm
  have HFt := Lib.hid hft
  have HUs := Lib.hid hus
  have HNil := Lib.hid hnil
  have HRel := Lib.hid hrel
  have HS := Lib.hid hS
  have HA1 := Lib.hid hadd1
  have HAn := Lib.hid haddn
  have HAs := Lib.hid hadds
  clear hmay hm5 hat hsm hft hus hnil hrel hS hF hz hadd1 haddn hadds
  obtain ⟨nm, v, f⟩ := s
  simp only at HM5 HAt HSm HFt HRel HAn HAs ⊢
  obtain ⟨k, hk⟩ : ∃ k, k = f.length := ⟨_, rfl⟩
  obtain ⟨n, hn⟩ : ∃ n, n = l.length := ⟨_, rfl⟩
  simp only [← hk] at HM5 HSm HFt HRel
  simp only [← hn] at HMay HAt HAn hl hlen
  rw [← hk, ← hn]
  have HLen := Lib.hid hn
  clear hk hn
  have HX1 := Lib.hid (bx_new_t w 25 (.string nm) (.int .i64 v) (.slice B k d))
  have HB1 := Lib.hid ((Below.refl w.heap.size w).alloc (Nat.le_refl _) (.cells #[.string nm, .int .i64 v, .slice B k d] 25))
  go_enter Try.func12, Try.ntmps12
  go_wp2_with fail
  obtain ⟨w1, hw1⟩ : ∃ w1, w1 = w.alloc (.cells #[.string nm, .int .i64 v, .slice B k d] 25) := ⟨_, rfl⟩
  rw [← hw1] at HX1 HB1 ⊢
  clear hw1
  refine (HMay.out w1 HB1.out).mono ?_
  rintro e w2 ⟨rfl, hb2⟩
  have HB2 := Lib.hid (bt HB1.out hb2)
  have HX2 := Lib.hid (HX1.out.kept hb2)
  clear hb2 HB1 HX1
  obtain ⟨⟨p0, p1, p2⟩, _⟩ := HX2.out
  obtain ⟨a1, ha1⟩ : ∃ a1, a1 = decide (May l) := ⟨_, rfl⟩
  rw [← ha1]
  have HY1 := Lib.hid ha1
  clear ha1
  go_wp2_with fail
  refine (HM5.out w2 HB2.out).mono ?_
  rintro e w3 ⟨rfl, hb3⟩
  have HB3 := Lib.hid (bt HB2.out hb3)
  have HX3 := Lib.hid (HX2.out.kept hb3)
  clear hb3 HB2 HX2 p0 p1 p2
  by_cases hboth : May l ∧ ScM.May ⟨nm, v, f⟩
  · have HTwo := Lib.hid hboth
    have e1 : a1 = true := by rw [HY1.out, decide_eq_true hboth.1]
    subst e1
    rw [decide_eq_true hboth.2]
    clear hboth HY1
    obtain ⟨hro, hel⟩ := HUs.out w3 HB3.out
    have HRo := Lib.hid hro
    have HEl := Lib.hid hel
    clear hro hel
    obtain ⟨⟨p0, p1, p2⟩, _⟩ := HX3.out
    go_wp2_with (at_builtin; refine tyS.wp_append (K := KS) (fun b => b < w.heap.size) rfl (.const (.slice none 0 0)) (.tmp 22) rfl w3.heap.size _ 0 [] [] rfl (World.ownsRow_nil _ _ _ _) rfl A n c us l rfl HLen.out.symm HRo.out HEl.out HNil.out (by omega) (Nat.le_refl _) ?_; intro u4 w4 hown4 hel4 hgrow4; refine pause ?_)
    have hb4 := (Below.refl w3.heap.size w3).grown hgrow4 (Nat.le_refl _) (fun _ h => by cases h)
    have HB4 := Lib.hid (bt HB3.out hb4)
    have HX4 := Lib.hid (HX3.out.kept hb4)
    have HO4 := Lib.hid hown4
    have HSz := Lib.hid (show w3.heap.size ≤ w4.heap.size from hb4.size)
    have HE4 := Lib.hid hel4
    have HB34 := Lib.hid (show w.heap.size ≤ w3.heap.size from HB3.out.size)
    rw [Nat.zero_add, List.nil_append] at HO4
    rw [List.nil_append, List.nil_append] at HE4
    clear hb4 hown4 hel4 hgrow4 HRo HEl HB3 HX3 p0 p1 p2
    unfold Pause
    obtain ⟨⟨p0, p1, p2⟩, _⟩ := HX4.out
    go_wp2_with fail
    refine (HAt.out w4 HB4.out).mono ?_
    rintro e w5 ⟨rfl, rfl⟩
    cases hat : At l nm with
    | none =>
      have hi : atI l nm = -1 := by unfold atI; rw [hat]
      have hadd := HAn.out HTwo.out hat
      rw [hi]
      clear hi hat
      by_cases hv : v = 1
      · subst hv
        rw [if_neg (fun h => h rfl)] at hadd
        by_cases h8 : 8 ≤ n
        · have hd : decide ((8 : Int) ≤ (n : Int)) = true := by rw [decide_eq_true_iff]; omega
          rw [if_pos h8] at hadd
          have HErr := Lib.hid hadd
          clear hadd h8
          go_wp2_with fail
          exact bodyPost_ret (v := .tuple #[.slice none 0 0, .int .i64 7]) (by simp [results, Try.results12, go_sem]) rfl (added_err HErr.out HB4.out)
        · have hd : decide ((8 : Int) ≤ (n : Int)) = false := by rw [decide_eq_false_iff_not]; omega
          rw [if_neg h8] at hadd
          have HAdd := Lib.hid hadd
          clear hadd h8
          have hr : KS.rel (fun b => b < w.heap.size ∧ ne u4 b) w4 (⟨nm, 1, f⟩ : Sc) [.string nm, .int .i64 1, .slice B k d] := KS.kept (show KS.rel (fun b => b < w.heap.size ∧ ne u4 b) w (⟨nm, 1, f⟩ : Sc) [.string nm, .int .i64 1, .slice B k d] from HRel.out u4 w3.heap.size (own_base HO4.out) HB34.out) HB4.out
          have hb6 := (Below.refl w4.heap.size w4).alloc (Nat.le_refl _) (.cells #[.string nm, .int .i64 1, .slice B k d] 25)
          have hnew := RG.elem_new w4 25 (K := KS) ⟨nm, 1, f⟩ _ hr
          have HNew := Lib.hid hnew
          have HO6 := Lib.hid (own_later HO4.out hb6)
          have HE6 := Lib.hid (HE4.out.map fun _ _ e => KS.kept e hb6)
          have HB6 := Lib.hid (bt HB4.out hb6)
          have hsz := hb6.size
          have hsz4 : w3.heap.size ≤ w4.heap.size := HSz.out
          clear hr hb6 hnew
          go_wp2_with (at_builtin; refine tyS.wp_append (K := KS) (fun b => b < w.heap.size) rfl (.tmp 36) (.tmp 38) rfl w3.heap.size u4 n us l rfl HO6.out HE6.out (some ⟨w4.heap.size, 0, none⟩) 1 1 _ [⟨nm, 1, f⟩] rfl rfl HNew.out.1 HNew.out.2 (fun h => by cases h) (by omega) (by omega) ?_; intro u7 w7 hown7 hel7 hgrow7; refine pause ?_)
          have hb7 := HB6.out.grown hgrow7 HB6.out.size (fun q hq => Nat.le_trans HB34.out (own_base HO6.out q hq))
          obtain ⟨A8, c8, hu8, hq8, hs8, hz8⟩ := RG.own_slG hown7 hel7 (by decide)
          have HU8 := Lib.hid hu8
          have HS8 := Lib.hid (slS_mono hs8)
          have HB7 := Lib.hid hb7
          clear hb7 hu8 hs8 hq8 hz8 hown7 hel7 hgrow7
          unfold Pause
          go_wp2_with fail
          exact bodyPost_ret (v := .tuple #[u7, .int .i64 0]) (by simp [results, Try.results12, go_sem]) rfl ⟨A8, c8, ret_v (by rw [HAdd.out, HU8.out]), by rw [HAdd.out]; exact HS8.out, HB7.out⟩
      · have hd : (v != 1) = true := by rw [bne_iff_ne]; exact hv
        rw [if_pos hv] at hadd
        have HErr := Lib.hid hadd
        clear hadd hv
        go_wp2_with fail
        exact bodyPost_ret (v := .tuple #[.slice none 0 0, .int .i64 5]) (by simp [results, Try.results12, go_sem]) rfl (added_err HErr.out HB4.out)
    | some i =>
      have hi : atI l nm = (i : Int) := by unfold atI; rw [hat]
      have hadd := HAs.out i HTwo.out hat
      have hlt := (at_some.1 hat).1
      have hfit : ∀ t, t = l.getD i s0 → (Fit (l.getD i s0) ⟨nm, v, f⟩ ↔ Fit t ⟨nm, v, f⟩) := fun t h => by rw [h]
      obtain ⟨b, q, A1, c1, hix, hc, hfine⟩ := HS.out.at i hlt
      rw [← HLen.out] at hlt
      have hi' := fun W => hix W n c hlt
      have hd : decide ((i : Int) < 0) = false := by rw [decide_eq_false_iff_not]; omega
      rw [hi]
      obtain ⟨t, ht⟩ : ∃ t, t = l.getD i s0 := ⟨_, rfl⟩
      rw [← ht] at hc hfine hadd
      have HSm5 := Lib.hid (fun W (h : Below w.heap.size w W) => HSm.out W h t A1 c1 (hc W h).2)
      have HFt5 := Lib.hid (fun W (h : Below w.heap.size w W) => HFt.out W h t A1 c1 (hc W h).2 hfine)
      have HC := Lib.hid (fun W (h : Below w.heap.size w W) => (hc W h).1)
      have HAdd := Lib.hid hadd
      clear hi hat hix hc hfit ht hadd hfine
      obtain ⟨tn, tv, tf⟩ := t
      unfold CellS at HC
      simp only at HSm5 HFt5 HC HAdd
      obtain ⟨m, hm⟩ : ∃ m, m = tf.length := ⟨_, rfl⟩
      simp only [← hm] at HSm5 HFt5 HC
      clear hm p0 p1 p2
      go_wp2_with fail
      refine Reg.G_start (by kernel_rfl) (by repeat (first | exact Reg.frameless_bodyPost | refine Reg.frameless_then ?_ | refine Reg.frameless_inBlock ?_)) (fun W hW => ?_)
      have hBW := bt HB4.out hW
      obtain ⟨y0, y1, y2⟩ := HC.out W hBW
      obtain ⟨⟨z0, z1, z2⟩, _⟩ := HX4.out.kept hW
      have x0 := Reg.later_cell (Below.refl _ W) y0
      have x1 := Reg.later_cell (Below.refl _ W) y1
      have x2 := Reg.later_cell (Below.refl _ W) y2
      have x3 := Reg.later_cell (Below.refl _ W) z0
      have x4 := Reg.later_cell (Below.refl _ W) z1
      have x5 := Reg.later_cell (Below.refl _ W) z2
      clear y0 y1 y2 z0 z1 z2
      first | (refine Reg.G_step (i := 0) rfl (by kernel_rfl) (by rfl) (fun K hK => ?_); go_big_quiet_op; refine hK _ ?_; clear hK K) | (refine Reg.G_skip (i := 0) rfl (by kernel_rfl) (by rfl) ?_; simp only [Act.put, List.setIfInBounds_toArray, List.set_cons_zero, List.set_cons_succ])
      first | (refine Reg.G_step (i := 1) rfl (by kernel_rfl) (by rfl) (fun K hK => ?_); go_big_quiet_op; refine hK _ ?_; clear hK K) | (refine Reg.G_skip (i := 1) rfl (by kernel_rfl) (by rfl) ?_; simp only [Act.put, List.setIfInBounds_toArray, List.set_cons_zero, List.set_cons_succ])
      first | (refine Reg.G_step (i := 2) rfl (by kernel_rfl) (by rfl) (fun K hK => ?_); go_big_quiet_op; refine hK _ ?_; clear hK K) | (refine Reg.G_skip (i := 2) rfl (by kernel_rfl) (by rfl) ?_; simp only [Act.put, List.setIfInBounds_toArray, List.set_cons_zero, List.set_cons_succ])
      first | (refine Reg.G_step (i := 3) rfl (by kernel_rfl) (by rfl) (fun K hK => ?_); go_big_quiet_op; refine hK _ ?_; clear hK K) | (refine Reg.G_skip (i := 3) rfl (by kernel_rfl) (by rfl) ?_; simp only [Act.put, List.setIfInBounds_toArray, List.set_cons_zero, List.set_cons_succ])
      first | (refine Reg.G_step (i := 4) rfl (by kernel_rfl) (by rfl) (fun K hK => ?_); go_big_quiet_op; refine hK _ ?_; clear hK K) | (refine Reg.G_skip (i := 4) rfl (by kernel_rfl) (by rfl) ?_; simp only [Act.put, List.setIfInBounds_toArray, List.set_cons_zero, List.set_cons_succ])
      refine Reg.G_event (i := 5) rfl (by kernel_rfl) (by rfl) (fun K hK => ?_)
      go_simp
      refine (HSm5.out _ hBW).mono ?_
      rintro e v0 ⟨rfl, hv0⟩
      refine hK _ _ hv0 ?_
      clear hK K x0 x1 x2 x3 x4 x5
      have hw0 := bt hW hv0
      first | (refine Reg.G_step (i := 6) rfl (by kernel_rfl) (by rfl) (fun K hK => ?_); go_big_quiet_op; refine hK _ ?_; clear hK K) | (refine Reg.G_skip (i := 6) rfl (by kernel_rfl) (by rfl) ?_; simp only [Act.put, List.setIfInBounds_toArray, List.set_cons_zero, List.set_cons_succ])
      refine Reg.G_done (by kernel_rfl) ?_
      have HW6 := Lib.hid hw0
      obtain ⟨w6, hw6⟩ : ∃ w6, w6 = v0 := ⟨_, rfl⟩
      rw [← hw6] at HW6 ⊢
      clear hw0 hv0 hBW hW hw6
      by_cases hsame : (⟨tn, tv, tf⟩ : Sc) = ⟨nm, v, f⟩
      · rw [decide_eq_true hsame]
        have HErr := Lib.hid (show add l ⟨nm, v, f⟩ = ([], 4) from by rw [HAdd.out, if_pos hsame])
        clear hsame
        go_wp2_with fail
        exact bodyPost_ret (v := .tuple #[.slice none 0 0, .int .i64 4]) (by simp [results, Try.results12, go_sem]) rfl (added_err HErr.out (bt HB4.out HW6.out))
      · rw [decide_eq_false hsame]
        have HAdd2 := Lib.hid (show add l ⟨nm, v, f⟩ = if Fit ⟨tn, tv, tf⟩ ⟨nm, v, f⟩ then (l.set i ⟨nm, v, f⟩, 0) else ([], 5) from by rw [HAdd.out, if_neg hsame])
        clear hsame
        go_wp2_with fail
        refine Reg.G_start (by kernel_rfl) (by repeat (first | exact Reg.frameless_bodyPost | refine Reg.frameless_then ?_ | refine Reg.frameless_inBlock ?_)) (fun W hW => ?_)
        have hBW := bt HB4.out (bt HW6.out hW)
        obtain ⟨y0, y1, y2⟩ := HC.out W hBW
        obtain ⟨⟨z0, z1, z2⟩, _⟩ := HX4.out.kept (bt HW6.out hW)
        have x0 := Reg.later_cell (Below.refl _ W) y0
        have x1 := Reg.later_cell (Below.refl _ W) y1
        have x2 := Reg.later_cell (Below.refl _ W) y2
        have x3 := Reg.later_cell (Below.refl _ W) z0
        have x4 := Reg.later_cell (Below.refl _ W) z1
        have x5 := Reg.later_cell (Below.refl _ W) z2
        clear y0 y1 y2 z0 z1 z2
        first | (refine Reg.G_step (i := 0) rfl (by kernel_rfl) (by rfl) (fun K hK => ?_); go_big_quiet_op; refine hK _ ?_; clear hK K) | (refine Reg.G_skip (i := 0) rfl (by kernel_rfl) (by rfl) ?_; simp only [Act.put, List.setIfInBounds_toArray, List.set_cons_zero, List.set_cons_succ])
        first | (refine Reg.G_step (i := 1) rfl (by kernel_rfl) (by rfl) (fun K hK => ?_); go_big_quiet_op; refine hK _ ?_; clear hK K) | (refine Reg.G_skip (i := 1) rfl (by kernel_rfl) (by rfl) ?_; simp only [Act.put, List.setIfInBounds_toArray, List.set_cons_zero, List.set_cons_succ])
        first | (refine Reg.G_step (i := 2) rfl (by kernel_rfl) (by rfl) (fun K hK => ?_); go_big_quiet_op; refine hK _ ?_; clear hK K) | (refine Reg.G_skip (i := 2) rfl (by kernel_rfl) (by rfl) ?_; simp only [Act.put, List.setIfInBounds_toArray, List.set_cons_zero, List.set_cons_succ])
        first | (refine Reg.G_step (i := 3) rfl (by kernel_rfl) (by rfl) (fun K hK => ?_); go_big_quiet_op; refine hK _ ?_; clear hK K) | (refine Reg.G_skip (i := 3) rfl (by kernel_rfl) (by rfl) ?_; simp only [Act.put, List.setIfInBounds_toArray, List.set_cons_zero, List.set_cons_succ])
        first | (refine Reg.G_step (i := 4) rfl (by kernel_rfl) (by rfl) (fun K hK => ?_); go_big_quiet_op; refine hK _ ?_; clear hK K) | (refine Reg.G_skip (i := 4) rfl (by kernel_rfl) (by rfl) ?_; simp only [Act.put, List.setIfInBounds_toArray, List.set_cons_zero, List.set_cons_succ])
        refine Reg.G_event (i := 5) rfl (by kernel_rfl) (by rfl) (fun K hK => ?_)
        go_simp
        refine (HFt5.out _ hBW).mono ?_
        rintro e v1 ⟨rfl, hv1⟩
        refine hK _ _ hv1 ?_
        clear hK K x0 x1 x2 x3 x4 x5
        have hw1 := bt HW6.out (bt hW hv1)
        first | (refine Reg.G_step (i := 6) rfl (by kernel_rfl) (by rfl) (fun K hK => ?_); go_big_quiet_op; refine hK _ ?_; clear hK K) | (refine Reg.G_skip (i := 6) rfl (by kernel_rfl) (by rfl) ?_; simp only [Act.put, List.setIfInBounds_toArray, List.set_cons_zero, List.set_cons_succ])
        refine Reg.G_done (by kernel_rfl) ?_
        have HW7 := Lib.hid hw1
        obtain ⟨w7, hw7⟩ : ∃ w7, w7 = v1 := ⟨_, rfl⟩
        rw [← hw7] at HW7 ⊢
        clear hw1 hv1 hBW hW hw7
        by_cases hfit : Fit ⟨tn, tv, tf⟩ ⟨nm, v, f⟩
        · rw [decide_eq_true hfit]
          have HYes := Lib.hid (show add l ⟨nm, v, f⟩ = (l.set i ⟨nm, v, f⟩, 0) from by rw [HAdd2.out, if_pos hfit])
          clear hfit
          have HO7 := Lib.hid (own_later HO4.out HW7.out)
          have HE7 := Lib.hid (HE4.out.map fun _ _ e => KS.kept e HW7.out)
          have HX7 := Lib.hid (HX4.out.kept HW7.out)
          have HB7 := Lib.hid (bt HB4.out HW7.out)
          obtain ⟨g, c7, r, hu7, hr, hg, hix7, ⟨o0, o1, o2, k0, k1, k2⟩, f0, f1, f2⟩ := own_at HO7.out HE7.out i (by rw [← HLen.out]; exact hlt)
          subst hu7
          obtain ⟨hown8, hgrow8⟩ := own_set3 HO7.out r (.string nm) (.int .i64 v) (.slice B k d)
          have hrel8 : KS.rel (fun b => b < w.heap.size ∧ ne (.slice (some ⟨g, 0, none⟩) n c7) b) w7 (⟨nm, v, f⟩ : Sc) [.string nm, .int .i64 v, .slice B k d] := KS.kept (show KS.rel (fun b => b < w.heap.size ∧ ne (.slice (some ⟨g, 0, none⟩) n c7) b) w (⟨nm, v, f⟩ : Sc) [.string nm, .int .i64 v, .slice B k d] from HRel.out _ w3.heap.size (own_base HO7.out) HB34.out) HB7.out
          have hb8 := HB7.out.grown hgrow8 HB7.out.size (fun q hq => by injection hq with hq; have := HB34.out; omega)
          have hel8 := elems_set (KS.grown hrel8 hgrow8 fun b hb => hb.2) (fun _ _ e => KS.grown e hgrow8 fun _ hb => hb.2) l us i (by rw [← HLen.out]; exact hlt) HE7.out
          rw [← hr] at hel8
          obtain ⟨A9, c9, hu9, hq9, hs9, hz9⟩ := RG.own_slG hown8 hel8 (by decide)
          have HU9 := Lib.hid hu9
          have HS9 := Lib.hid (slS_mono hs9)
          have HB9 := Lib.hid hb8
          obtain ⟨⟨p0, p1, p2⟩, _⟩ := HX7.out
          obtain ⟨G, hG⟩ : ∃ G, G = (some ⟨g, 0, none⟩ : Option Addr) := ⟨_, rfl⟩
          rw [← hG] at hix7 HU9 ⊢
          clear hown8 hgrow8 hrel8 hb8 hel8 hu9 hs9 hq9 hz9 hr hg hG HO7 HE7 HO4 HE4
          go_wp2_with fail
          exact bodyPost_ret (v := .tuple #[.slice G n c7, .int .i64 0]) (by simp [results, Try.results12, go_sem]) rfl ⟨A9, c9, ret_v (by rw [HYes.out, HU9.out]), by rw [HYes.out]; exact HS9.out, HB9.out⟩
        · rw [decide_eq_false hfit]
          have HErr := Lib.hid (show add l ⟨nm, v, f⟩ = ([], 5) from by rw [HAdd2.out, if_neg hfit])
          clear hfit
          go_wp2_with fail
          exact bodyPost_ret (v := .tuple #[.slice none 0 0, .int .i64 5]) (by simp [results, Try.results12, go_sem]) rfl (added_err HErr.out (bt HB4.out HW7.out))
  · have HErr := Lib.hid (HA1.out hboth)
    have hways : a1 = false ∨ (a1 = true ∧ decide (ScM.May ⟨nm, v, f⟩) = false) := by
      by_cases g : May l
      · refine Or.inr ⟨by rw [HY1.out, decide_eq_true g], decide_eq_false (fun h => hboth ⟨g, h⟩)⟩
      · exact Or.inl (by rw [HY1.out, decide_eq_false g])
    clear hboth HY1
    rcases hways with rfl | ⟨rfl, e2⟩
    · obtain ⟨b1, hb1⟩ : ∃ b1, b1 = decide (ScM.May ⟨nm, v, f⟩) := ⟨_, rfl⟩
      rw [← hb1]
      clear hb1
      go_wp2_with fail
      exact bodyPost_ret (v := .tuple #[.slice none 0 0, .int .i64 1]) (by simp [results, Try.results12, go_sem]) rfl (added_err HErr.out HB3.out)
    · rw [e2]
      clear e2
      go_wp2_with fail
      exact bodyPost_ret (v := .tuple #[.slice none 0 0, .int .i64 1]) (by simp [results, Try.results12, go_sem]) rfl (added_err HErr.out HB3.out)
end Go.Proofs.Ytnkhnfkohnflcaa.Rg
