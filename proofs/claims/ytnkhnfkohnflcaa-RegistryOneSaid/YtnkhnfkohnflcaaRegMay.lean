/- registry.May; asked: the schemas lie where the slice says. -/
import Derived.Test.YtnkhnfkohnflcaaRegPlace
namespace Go.Proofs.Ytnkhnfkohnflcaa.Rg
open Go.RowKit Go.Proofs.Ytnkhnfkohnflcaa.BM Go.Proofs.Ytnkhnfkohnflcaa.VaM Go.Proofs.Ytnkhnfkohnflcaa.Va Go.Proofs.Ytnkhnfkohnflcaa.Sc Go.Proofs.Ytnkhnfkohnflcaa.RgM
open Go.Proofs.Ytnkhnfkohnflcaa.ScM (Sc)

theorem getD_take {l : List Sc} {j r : Nat} (h : r < j) : (l.take j).getD r s0 = l.getD r s0 := by
  rw [List.getD_eq_getElem?_getD, List.getD_eq_getElem?_getD, List.getElem?_take, if_pos h]

/-- Of the name of the j-th one there is none ahead of it just if it is the first one of its name. -/
theorem at_take {l : List Sc} {j : Nat} (hj : j < l.length) : At (l.take j) (l.getD j s0).s = none ↔ At l (l.getD j s0).s = some j := by
  rw [at_none, at_some, List.length_take, Nat.min_eq_left (Nat.le_of_lt hj)]
  constructor
  · intro h
    exact ⟨hj, rfl, fun r hr => by rw [← getD_take hr]; exact h r hr⟩
  · rintro ⟨_, _, h⟩ r hr
    rw [getD_take hr]
    exact h r hr

theorem atI_neg {l : List Sc} {n : ByteArray} : atI l n < 0 ↔ At l n = none := by
  unfold atI
  cases At l n with
  | none => simp
  | some i => simp only [reduceCtorEq, iff_false]; omega

set_option maxRecDepth 100000 in
set_option maxHeartbeats 2000000 in
theorem May_any (l : List Sc) (A : Option Addr) (c : Nat) (w : World) (hS : SlS w A l c) :
    Calls Try.prog 18 #[.slice A l.length c] w fun e w' => e = .returned (.bool (decide (May l))) ∧ Below w.heap.size w w' := by
  have hl := slS_len hS
  have hcap := hS.2.1
  have hmay : May l ↔ LGd l l.length ∧ l.length ≤ 8 := Iff.rfl
  have hpl := fun W (h : Below w.heap.size w W) nm j => place_any (l.take j) nm A c W ((hS.kept h).take j)
  have htk := fun j => @at_take l j
  have hcut := fun W (k : Nat) (hk : k ≤ c) => tyS.cut W A l.length c k hk
  obtain ⟨n, hn⟩ : ∃ n, n = l.length := ⟨_, rfl⟩
  rw [← hn] at hl hmay hcap ⊢
  simp only [← hn] at htk hcut
  simp only [List.length_take, ← hn] at hpl
  have HLen := Lib.hid hn
  have HS := Lib.hid hS
  have HMay := Lib.hid hmay
  have HPl := Lib.hid hpl
  have HTk := Lib.hid htk
  have HCut := Lib.hid hcut
  clear hn hS hmay hpl htk hcut
  by_cases h8 : n ≤ 8
  · have hd8 : decide ((8 : Int) < (n : Int)) = false := by rw [decide_eq_false_iff_not]; omega
    have HM := Lib.hid (show May l ↔ LGd l n from ⟨fun h => (HMay.out.1 h).1, fun h => HMay.out.2 ⟨h, h8⟩⟩)
    clear HMay h8
    go_enter Try.func18, Try.ntmps18
    go_wp2_with fail
    go_loopw [10] (fun i wr => ∃ j : Nat, i = .int .i64 j ∧ j ≤ n ∧ LGd l j ∧ Below w.heap.size w wr) (fun i _ => n - (intOf i).toNat)
    case atStart => exact ⟨0, rfl, Nat.zero_le _, fun r hr => absurd hr (Nat.not_lt_zero r), Below.refl _ _⟩
    case round =>
      obtain ⟨j, rfl, hj, hgood, hbel⟩ := hrel
      have HG := Lib.hid hgood
      have HBl := Lib.hid hbel
      clear hgood hbel
      by_cases hjn : j < n
      · obtain ⟨b, q, A1, c1, hix, hc, hfine⟩ := HS.out.at j (by rw [← HLen.out]; exact hjn)
        have hiff : (ScM.May (l.getD j s0) ∧ At l (l.getD j s0).s = some j) ↔ ScM.May (l.getD j s0) ∧ atI (l.take j) (l.getD j s0).s < 0 := by rw [atI_neg, HTk.out j hjn]
        have hpl := fun W (h : Below w.heap.size w W) => HPl.out W h (l.getD j s0).s j
        rw [Nat.min_eq_left hj] at hpl
        have hs := fun W => HCut.out W j (by omega)
        obtain ⟨f, hf⟩ : ∃ f, f = l.getD j s0 := ⟨_, rfl⟩
        rw [← hf] at hc hfine hiff
        simp only [← hf] at hpl
        obtain ⟨R, hR⟩ : ∃ R, R = atI (l.take j) f.s := ⟨_, rfl⟩
        rw [← hR] at hiff
        simp only [← hR] at hpl
        have hi := fun W => hix W n c hjn
        obtain ⟨⟨x0, x1, x2⟩, _⟩ := hc wr HBl.out
        have hm5 := fun W (h : Below w.heap.size w W) => Go.Proofs.Ytnkhnfkohnflcaa.Sc.May_any f A1 c1 W (hc W h).2 hfine
        have HF := Lib.hid hf
        have HIff := Lib.hid hiff
        clear hc hix hf hR hfine hiff
        obtain ⟨fs, fv, ff⟩ := f
        simp only at x0 x1 x2 hm5 hpl
        obtain ⟨k, hk⟩ : ∃ k, k = ff.length := ⟨_, rfl⟩
        simp only [← hk] at x2 hm5
        clear hk
        have HPj := Lib.hid hpl
        have HM5 := Lib.hid hm5
        clear hpl hm5
        have ha := (Below.refl wr.heap.size wr).alloc (Nat.le_refl _) (.cells #[.string fs, .int .i64 fv, .slice A1 k c1] 25)
        have HX2 := Lib.hid (bx_new_t wr 25 (.string fs) (.int .i64 fv) (.slice A1 k c1))
        have HB2 := Lib.hid (bt HBl.out ha)
        clear ha
        go_wp2_with fail
        obtain ⟨w2, hw2⟩ : ∃ w2, w2 = wr.alloc (.cells #[.string fs, .int .i64 fv, .slice A1 k c1] 25) := ⟨_, rfl⟩
        obtain ⟨b2, hb2⟩ : ∃ b2, b2 = wr.heap.size := ⟨_, rfl⟩
        rw [← hw2] at HX2 HB2 ⊢
        rw [← hb2] at HX2 ⊢
        clear hw2 hb2 x0 x1 x2
        by_cases hm : ScM.May ⟨fs, fv, ff⟩
        · have hm5 := HM5.out
          simp only [decide_eq_true hm] at hm5
          have HM6 := Lib.hid hm5
          have HMf := Lib.hid hm
          clear hm5 hm HM5
          refine Reg.G_start (by kernel_rfl) (by repeat (first | exact Reg.frameless_bodyPost | refine Reg.frameless_then ?_ | refine Reg.frameless_inBlock ?_)) (fun W hW => ?_)
          have hBW := bt HB2.out hW
          obtain ⟨⟨z0, z1, z2⟩, _⟩ := HX2.out.kept hW
          have x0 := Reg.later_cell (Below.refl _ W) z0
          have x1 := Reg.later_cell (Below.refl _ W) z1
          have x2 := Reg.later_cell (Below.refl _ W) z2
          clear z0 z1 z2
          first | (refine Reg.G_step (i := 0) rfl (by kernel_rfl) (by rfl) (fun K hK => ?_); go_big_quiet_op; refine hK _ ?_; clear hK K) | (refine Reg.G_skip (i := 0) rfl (by kernel_rfl) (by rfl) ?_; simp only [Act.put, List.setIfInBounds_toArray, List.set_cons_zero, List.set_cons_succ])
          refine Reg.G_event (i := 1) rfl (by kernel_rfl) (by rfl) (fun K hK => ?_)
          go_simp
          refine (HM6.out _ hBW).mono ?_
          rintro e v0 ⟨rfl, hv0⟩
          refine hK _ _ hv0 ?_
          clear hK K x0 x1 x2
          have hw0 := bt hBW hv0
          obtain ⟨⟨z0, z1, z2⟩, _⟩ := HX2.out.kept (bt hW hv0)
          have x0 := Reg.later_cell (Below.refl _ v0) z0
          have x1 := Reg.later_cell (Below.refl _ v0) z1
          have x2 := Reg.later_cell (Below.refl _ v0) z2
          clear z0 z1 z2
          first | (refine Reg.G_step (i := 2) rfl (by kernel_rfl) (by rfl) (fun K hK => ?_); go_big_quiet_op; refine hK _ ?_; clear hK K) | (refine Reg.G_skip (i := 2) rfl (by kernel_rfl) (by rfl) ?_; simp only [Act.put, List.setIfInBounds_toArray, List.set_cons_zero, List.set_cons_succ])
          first | (refine Reg.G_step (i := 3) rfl (by kernel_rfl) (by rfl) (fun K hK => ?_); go_big_quiet_op; refine hK _ ?_; clear hK K) | (refine Reg.G_skip (i := 3) rfl (by kernel_rfl) (by rfl) ?_; simp only [Act.put, List.setIfInBounds_toArray, List.set_cons_zero, List.set_cons_succ])
          first | (refine Reg.G_step (i := 4) rfl (by kernel_rfl) (by rfl) (fun K hK => ?_); go_big_quiet_op; refine hK _ ?_; clear hK K) | (refine Reg.G_skip (i := 4) rfl (by kernel_rfl) (by rfl) ?_; simp only [Act.put, List.setIfInBounds_toArray, List.set_cons_zero, List.set_cons_succ])
          first | (refine Reg.G_step (i := 5) rfl (by kernel_rfl) (by rfl) (fun K hK => ?_); go_big_quiet_op; refine hK _ ?_; clear hK K) | (refine Reg.G_skip (i := 5) rfl (by kernel_rfl) (by rfl) ?_; simp only [Act.put, List.setIfInBounds_toArray, List.set_cons_zero, List.set_cons_succ])
          first | (refine Reg.G_step (i := 6) rfl (by kernel_rfl) (by rfl) (fun K hK => ?_); go_big_quiet_op; refine hK _ ?_; clear hK K) | (refine Reg.G_skip (i := 6) rfl (by kernel_rfl) (by rfl) ?_; simp only [Act.put, List.setIfInBounds_toArray, List.set_cons_zero, List.set_cons_succ])
          first | (refine Reg.G_step (i := 7) rfl (by kernel_rfl) (by rfl) (fun K hK => ?_); go_big_quiet_op; refine hK _ ?_; clear hK K) | (refine Reg.G_skip (i := 7) rfl (by kernel_rfl) (by rfl) ?_; simp only [Act.put, List.setIfInBounds_toArray, List.set_cons_zero, List.set_cons_succ])
          first | (refine Reg.G_step (i := 8) rfl (by kernel_rfl) (by rfl) (fun K hK => ?_); go_big_quiet_op; refine hK _ ?_; clear hK K) | (refine Reg.G_skip (i := 8) rfl (by kernel_rfl) (by rfl) ?_; simp only [Act.put, List.setIfInBounds_toArray, List.set_cons_zero, List.set_cons_succ])
          refine Reg.G_event (i := 9) rfl (by kernel_rfl) (by rfl) (fun K hK => ?_)
          go_simp
          refine (HPj.out _ hw0).mono ?_
          rintro e v1 ⟨rfl, hv1⟩
          refine hK _ _ hv1 ?_
          clear hK K x0 x1 x2
          have hw1 := bt hw0 hv1
          first | (refine Reg.G_step (i := 10) rfl (by kernel_rfl) (by rfl) (fun K hK => ?_); go_big_quiet_op; refine hK _ ?_; clear hK K) | (refine Reg.G_skip (i := 10) rfl (by kernel_rfl) (by rfl) ?_; simp only [Act.put, List.setIfInBounds_toArray, List.set_cons_zero, List.set_cons_succ])
          first | (refine Reg.G_step (i := 11) rfl (by kernel_rfl) (by rfl) (fun K hK => ?_); go_big_quiet_op; refine hK _ ?_; clear hK K) | (refine Reg.G_skip (i := 11) rfl (by kernel_rfl) (by rfl) ?_; simp only [Act.put, List.setIfInBounds_toArray, List.set_cons_zero, List.set_cons_succ])
          refine Reg.G_done (by kernel_rfl) ?_
          have HB3 := Lib.hid hw1
          clear hw0 hw1 hv0 hv1 hBW hW
          by_cases hR : R < 0
          · have hd : decide ((0 : Int) ≤ R) = false := by rw [decide_eq_false_iff_not]; omega
            rw [hd]
            have HGo := Lib.hid (HG.out.succ (by rw [← HF.out]; exact HIff.out.2 ⟨HMf.out, hR⟩))
            clear hR hd
            go_wp2_with fail
            go_roundw
            case rel => exact ⟨j + 1, by go_num, by omega, HGo.out, HB3.out⟩
            case measure => simp [intOf]; omega
          · have hd : decide ((0 : Int) ≤ R) = true := by rw [decide_eq_true_iff]; omega
            rw [hd]
            have HNo := Lib.hid (show ¬ May l from fun h => hR (by
              have h1 := HM.out.1 h j hjn
              rw [← HF.out] at h1
              exact (HIff.out.1 h1).2))
            clear hR hd
            go_wp2_with fail
            go_ret
            exact ⟨ret_v (x := .bool false) (by rw [decide_eq_false HNo.out]), HB3.out⟩
        · have hm5 := HM5.out
          simp only [decide_eq_false hm] at hm5
          have HM6 := Lib.hid hm5
          have HNo := Lib.hid (show ¬ May l from fun h => hm (by
            have h1 := HM.out.1 h j hjn
            rw [← HF.out] at h1
            exact (HIff.out.1 h1).1))
          clear hm5 hm HM5 HPj HIff
          refine Reg.G_start (by kernel_rfl) (by repeat (first | exact Reg.frameless_bodyPost | refine Reg.frameless_then ?_ | refine Reg.frameless_inBlock ?_)) (fun W hW => ?_)
          have hBW := bt HB2.out hW
          obtain ⟨⟨z0, z1, z2⟩, _⟩ := HX2.out.kept hW
          have x0 := Reg.later_cell (Below.refl _ W) z0
          have x1 := Reg.later_cell (Below.refl _ W) z1
          have x2 := Reg.later_cell (Below.refl _ W) z2
          clear z0 z1 z2
          first | (refine Reg.G_step (i := 0) rfl (by kernel_rfl) (by rfl) (fun K hK => ?_); go_big_quiet_op; refine hK _ ?_; clear hK K) | (refine Reg.G_skip (i := 0) rfl (by kernel_rfl) (by rfl) ?_; simp only [Act.put, List.setIfInBounds_toArray, List.set_cons_zero, List.set_cons_succ])
          refine Reg.G_event (i := 1) rfl (by kernel_rfl) (by rfl) (fun K hK => ?_)
          go_simp
          refine (HM6.out _ hBW).mono ?_
          rintro e v0 ⟨rfl, hv0⟩
          refine hK _ _ hv0 ?_
          clear hK K x0 x1 x2
          have hw0 := bt hBW hv0
          first | (refine Reg.G_step (i := 2) rfl (by kernel_rfl) (by rfl) (fun K hK => ?_); go_big_quiet_op; refine hK _ ?_; clear hK K) | (refine Reg.G_skip (i := 2) rfl (by kernel_rfl) (by rfl) ?_; simp only [Act.put, List.setIfInBounds_toArray, List.set_cons_zero, List.set_cons_succ])
          first | (refine Reg.G_step (i := 3) rfl (by kernel_rfl) (by rfl) (fun K hK => ?_); go_big_quiet_op; refine hK _ ?_; clear hK K) | (refine Reg.G_skip (i := 3) rfl (by kernel_rfl) (by rfl) ?_; simp only [Act.put, List.setIfInBounds_toArray, List.set_cons_zero, List.set_cons_succ])
          first | (refine Reg.G_step (i := 4) rfl (by kernel_rfl) (by rfl) (fun K hK => ?_); go_big_quiet_op; refine hK _ ?_; clear hK K) | (refine Reg.G_skip (i := 4) rfl (by kernel_rfl) (by rfl) ?_; simp only [Act.put, List.setIfInBounds_toArray, List.set_cons_zero, List.set_cons_succ])
          first | (refine Reg.G_step (i := 5) rfl (by kernel_rfl) (by rfl) (fun K hK => ?_); go_big_quiet_op; refine hK _ ?_; clear hK K) | (refine Reg.G_skip (i := 5) rfl (by kernel_rfl) (by rfl) ?_; simp only [Act.put, List.setIfInBounds_toArray, List.set_cons_zero, List.set_cons_succ])
          first | (refine Reg.G_step (i := 6) rfl (by kernel_rfl) (by rfl) (fun K hK => ?_); go_big_quiet_op; refine hK _ ?_; clear hK K) | (refine Reg.G_skip (i := 6) rfl (by kernel_rfl) (by rfl) ?_; simp only [Act.put, List.setIfInBounds_toArray, List.set_cons_zero, List.set_cons_succ])
          first | (refine Reg.G_step (i := 7) rfl (by kernel_rfl) (by rfl) (fun K hK => ?_); go_big_quiet_op; refine hK _ ?_; clear hK K) | (refine Reg.G_skip (i := 7) rfl (by kernel_rfl) (by rfl) ?_; simp only [Act.put, List.setIfInBounds_toArray, List.set_cons_zero, List.set_cons_succ])
          first | (refine Reg.G_step (i := 8) rfl (by kernel_rfl) (by rfl) (fun K hK => ?_); go_big_quiet_op; refine hK _ ?_; clear hK K) | (refine Reg.G_skip (i := 8) rfl (by kernel_rfl) (by rfl) ?_; simp only [Act.put, List.setIfInBounds_toArray, List.set_cons_zero, List.set_cons_succ])
          refine Reg.G_skip (i := 9) rfl (by kernel_rfl) (by rfl) ?_
          simp only [Act.put, List.setIfInBounds_toArray, List.set_cons_zero, List.set_cons_succ]
          first | (refine Reg.G_step (i := 10) rfl (by kernel_rfl) (by rfl) (fun K hK => ?_); go_big_quiet_op; refine hK _ ?_; clear hK K) | (refine Reg.G_skip (i := 10) rfl (by kernel_rfl) (by rfl) ?_; simp only [Act.put, List.setIfInBounds_toArray, List.set_cons_zero, List.set_cons_succ])
          first | (refine Reg.G_step (i := 11) rfl (by kernel_rfl) (by rfl) (fun K hK => ?_); go_big_quiet_op; refine hK _ ?_; clear hK K) | (refine Reg.G_skip (i := 11) rfl (by kernel_rfl) (by rfl) ?_; simp only [Act.put, List.setIfInBounds_toArray, List.set_cons_zero, List.set_cons_succ])
          refine Reg.G_done (by kernel_rfl) ?_
          have HB3 := Lib.hid hw0
          clear hw0 hv0 hBW hW
          go_wp2_with fail
          go_ret
          exact ⟨ret_v (x := .bool false) (by rw [decide_eq_false HNo.out]), HB3.out⟩
      · obtain rfl : j = n := by omega
        have HYes := Lib.hid (HM.out.2 HG.out)
        go_wp2_with fail
        go_ret
        exact ⟨ret_v (x := .bool true) (by rw [decide_eq_true HYes.out]), HBl.out⟩
  · have hd8 : decide ((8 : Int) < (n : Int)) = true := by rw [decide_eq_true_iff]; omega
    have HNo := Lib.hid (show ¬ May l from fun h => h8 (HMay.out.1 h).2)
    clear h8
    go_enter Try.func18, Try.ntmps18
    go_wp2_with fail
    go_ret
    exact ⟨ret_v (x := .bool false) (by rw [decide_eq_false HNo.out]), Below.refl _ _⟩
end Go.Proofs.Ytnkhnfkohnflcaa.Rg
