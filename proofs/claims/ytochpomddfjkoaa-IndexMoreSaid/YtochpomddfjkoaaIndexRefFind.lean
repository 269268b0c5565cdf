/- The document's Find of what is asked; asked: what comes in lies where it says. -/
import Derived.Test.YtochpomddfjkoaaPredRow
import Derived.Test.YtochpomddfjkoaaExprRefSame
import Derived.Test.YtochpomddfjkoaaRegion
import Derived.Test.YtochpomddfjkoaaStrCore
namespace Go.Proofs.Ytochpomddfjkoaa.Ix
open Go.RowKit Go.Proofs.Ytochpomddfjkoaa.BM Go.Proofs.Ytochpomddfjkoaa.LM Go.Proofs.Ytochpomddfjkoaa.VaM Go.Proofs.Ytochpomddfjkoaa.ExM Go.Proofs.Ytochpomddfjkoaa.QyM Go.Proofs.Ytochpomddfjkoaa.IxM
open Go.Proofs.Ytochpomddfjkoaa.Ex (SlO slO_none)
open Go.Proofs.Ytochpomddfjkoaa.Va (ret_v toList_beq)

set_option maxRecDepth 100000 in
set_option maxHeartbeats 8000000 in
theorem refFind_any (l : List Pr) (p : Pr) (A : Option Addr) (c : Nat) (B : Option Addr) (d : Nat) (w : World) (hS : SlPr w A l c) (hO : SlO w B p.f d) :
    Calls Try.prog 22 #[.slice A l.length c, agPr p B d] w fun e w' => e = .returned (.int .i64 (find l p)) ∧ Below w.heap.size w w' := by
  have hl := slPr_len hS
  have hsame := fun x K k W (h : Below w.heap.size w W) (hx : SlO W K x k) => Ex.refSame_any x p.f K k B d W hx (hO.kept h)
  have hX := bxPr_new w p.s B p.f.length d
  have hB := below_pr w p.s B p.f.length d
  have hfs := fun (i : Nat) => @find_some l p i
  have hfn := @find_none l p
  obtain ⟨F, hF⟩ : ∃ F, F = find l p := ⟨_, rfl⟩
  rw [← hF] at hfn ⊢
  simp only [← hF] at hfs
  obtain ⟨n, hn⟩ : ∃ n, n = l.length := ⟨_, rfl⟩
  simp only [← hn] at hfs
  rw [← hn] at hl ⊢
  unfold agPr
  obtain ⟨ps, pf⟩ := p
  simp only at hsame hX hB ⊢
  obtain ⟨m, hm⟩ : ∃ n, n = pf.length := ⟨_, rfl⟩
  simp only [← hm] at hsame hX hB ⊢
  have HS := Lib.hid hS
  have HSame := Lib.hid hsame
  have HLen := Lib.hid hn
  have HFs := Lib.hid hfs
  have HFn := Lib.hid hfn
  have HX := Lib.hid hX
  have HB := Lib.hid hB
  clear hS hO hsame hn hm hF hfs hfn hX hB
  go_enter Try.func22, Try.ntmps22
  go_wp2_with fail
  obtain ⟨w0, hw0⟩ : ∃ w0, w0 = w.alloc (.cells #[.string ps, .slice B m d] 26) := ⟨_, rfl⟩
  rw [← hw0] at HX HB ⊢
  clear hw0
  go_loopw [5] (fun i wr => ∃ j : Nat, i = .int .i64 (j : Int) ∧ j ≤ n ∧ (∀ k, k < j → l.getD k p0 ≠ ⟨ps, pf⟩) ∧ Below w0.heap.size w0 wr) (fun i _ => n - (intOf i).toNat)
  case atStart => exact ⟨0, rfl, Nat.zero_le _, (fun k hk => absurd hk (Nat.not_lt_zero _)), Below.refl _ _⟩
  case round =>
    obtain ⟨j, rfl, hj, hno, hbel⟩ := hrel
    have HNo := Lib.hid hno
    have HBl := Lib.hid hbel
    clear hno hbel
    by_cases hjn : j < n
    · obtain ⟨b1, q1, A1, c1, hix, hc, _⟩ := HS.out.at j (by rw [← HLen.out]; exact hjn)
      have hi := fun W => hix W n c hjn
      obtain ⟨x, hx⟩ : ∃ x, x = l.getD j p0 := ⟨_, rfl⟩
      have hcw := fun W (h : Below w0.heap.size w0 W) => hc W (bt HB.out h)
      simp only [← hx] at hcw
      have heq : l.getD j p0 = x := hx.symm
      obtain ⟨xs, xf⟩ := x
      simp only at hcw
      obtain ⟨k1, hk1⟩ : ∃ k, k = xf.length := ⟨_, rfl⟩
      unfold CellPr at hcw
      simp only [← hk1] at hcw
      have hsm := HSame.out xf
      simp only [← hk1] at hsm
      obtain ⟨E, hE⟩ : ∃ E, E = decide (xf = pf) := ⟨_, rfl⟩
      simp only [← hE] at hsm
      obtain ⟨b2, hb2⟩ : ∃ z, (xs.toList == ps.toList) = z := ⟨_, rfl⟩
      have hb2' : b2 = decide (xs = ps) := by rw [← hb2, toList_beq]
      have HEq := Lib.hid heq
      have HE := Lib.hid hE
      have HB2 := Lib.hid hb2'
      have HCw := Lib.hid hcw
      have HSm := Lib.hid hsm
      clear hix hc hx heq hcw hsm hE hb2' hk1
      go_wp2_with fail
      refine Reg.G_start (by kernel_rfl) (by repeat (first | with_reducible exact Reg.frameless_bodyPost | with_reducible refine Reg.frameless_then ?_ | with_reducible refine Reg.frameless_inBlock ?_ | refine Reg.frameless_then ?_ | refine Reg.frameless_inBlock ?_)) (fun W hW => ?_)
      have y0 := Reg.later_cell (Below.refl _ W) (HX.out.kept (bt HBl.out hW)).cells.2
      have y1 := Reg.later_cell (Below.refl _ W) (HCw.out W (bt HBl.out hW)).1.2
      first | (refine Reg.G_step (i := 0) rfl (by kernel_rfl) (by rfl) (fun K hK => ?_); go_big_quiet_op; refine hK _ ?_; clear hK K) | (refine Reg.G_skip (i := 0) rfl (by kernel_rfl) (by rfl) ?_; simp only [Act.put, List.setIfInBounds_toArray, List.set_cons_zero, List.set_cons_succ])
      first | (refine Reg.G_step (i := 1) rfl (by kernel_rfl) (by rfl) (fun K hK => ?_); go_big_quiet_op; refine hK _ ?_; clear hK K) | (refine Reg.G_skip (i := 1) rfl (by kernel_rfl) (by rfl) ?_; simp only [Act.put, List.setIfInBounds_toArray, List.set_cons_zero, List.set_cons_succ])
      first | (refine Reg.G_step (i := 2) rfl (by kernel_rfl) (by rfl) (fun K hK => ?_); go_big_quiet_op; refine hK _ ?_; clear hK K) | (refine Reg.G_skip (i := 2) rfl (by kernel_rfl) (by rfl) ?_; simp only [Act.put, List.setIfInBounds_toArray, List.set_cons_zero, List.set_cons_succ])
      first | (refine Reg.G_step (i := 3) rfl (by kernel_rfl) (by rfl) (fun K hK => ?_); go_big_quiet_op; refine hK _ ?_; clear hK K) | (refine Reg.G_skip (i := 3) rfl (by kernel_rfl) (by rfl) ?_; simp only [Act.put, List.setIfInBounds_toArray, List.set_cons_zero, List.set_cons_succ])
      first | (refine Reg.G_step (i := 4) rfl (by kernel_rfl) (by rfl) (fun K hK => ?_); go_big_quiet_op; refine hK _ ?_; clear hK K) | (refine Reg.G_skip (i := 4) rfl (by kernel_rfl) (by rfl) ?_; simp only [Act.put, List.setIfInBounds_toArray, List.set_cons_zero, List.set_cons_succ])
      first | (refine Reg.G_step (i := 5) rfl (by kernel_rfl) (by rfl) (fun K hK => ?_); go_big_quiet_op; refine hK _ ?_; clear hK K) | (refine Reg.G_skip (i := 5) rfl (by kernel_rfl) (by rfl) ?_; simp only [Act.put, List.setIfInBounds_toArray, List.set_cons_zero, List.set_cons_succ])
      first | (refine Reg.G_step (i := 6) rfl (by kernel_rfl) (by rfl) (fun K hK => ?_); go_big_quiet_op; refine hK _ ?_; clear hK K) | (refine Reg.G_skip (i := 6) rfl (by kernel_rfl) (by rfl) ?_; simp only [Act.put, List.setIfInBounds_toArray, List.set_cons_zero, List.set_cons_succ])
      refine Reg.G_event (i := 7) rfl (by kernel_rfl) (by rfl) (fun K hK => ?_)
      go_simp
      refine (HSm.out A1 c1 W (bt HB.out (bt HBl.out hW)) (HCw.out W (bt HBl.out hW)).2).mono ?_
      rintro e u1 ⟨rfl, hu1⟩
      refine hK _ _ hu1 ?_
      clear hK K y0 y1
      have HU := Lib.hid (bt HBl.out (bt hW hu1))
      first | (refine Reg.G_step (i := 8) rfl (by kernel_rfl) (by rfl) (fun K hK => ?_); go_big_quiet_op; refine hK _ ?_; clear hK K) | (refine Reg.G_skip (i := 8) rfl (by kernel_rfl) (by rfl) ?_; simp only [Act.put, List.setIfInBounds_toArray, List.set_cons_zero, List.set_cons_succ])
      refine Reg.G_done rfl ?_
      clear hW hu1
      by_cases hboth : E = true ∧ b2 = true
      · obtain ⟨rfl, rfl⟩ := hboth
        have hFj : F = (j : Nat) := HFs.out j hjn (by rw [HEq.out, of_decide_eq_true HE.out.symm, of_decide_eq_true HB2.out.symm]) HNo.out
        have HFj := Lib.hid hFj
        clear hFj
        go_wp2_with fail
        refine Reg.G_start (by kernel_rfl) (by repeat (first | with_reducible exact Reg.frameless_bodyPost | with_reducible refine Reg.frameless_then ?_ | with_reducible refine Reg.frameless_inBlock ?_ | refine Reg.frameless_then ?_ | refine Reg.frameless_inBlock ?_)) (fun V hV => ?_)
        have y0 := Reg.later_cell (Below.refl _ V) (HX.out.kept (bt HU.out hV)).cells.1
        have y1 := Reg.later_cell (Below.refl _ V) (HCw.out V (bt HU.out hV)).1.1
        first | (refine Reg.G_step (i := 0) rfl (by kernel_rfl) (by rfl) (fun K hK => ?_); go_big_quiet_op; refine hK _ ?_; clear hK K) | (refine Reg.G_skip (i := 0) rfl (by kernel_rfl) (by rfl) ?_; simp only [Act.put, List.setIfInBounds_toArray, List.set_cons_zero, List.set_cons_succ])
        first | (refine Reg.G_step (i := 1) rfl (by kernel_rfl) (by rfl) (fun K hK => ?_); go_big_quiet_op; refine hK _ ?_; clear hK K) | (refine Reg.G_skip (i := 1) rfl (by kernel_rfl) (by rfl) ?_; simp only [Act.put, List.setIfInBounds_toArray, List.set_cons_zero, List.set_cons_succ])
        first | (refine Reg.G_step (i := 2) rfl (by kernel_rfl) (by rfl) (fun K hK => ?_); go_big_quiet_op; refine hK _ ?_; clear hK K) | (refine Reg.G_skip (i := 2) rfl (by kernel_rfl) (by rfl) ?_; simp only [Act.put, List.setIfInBounds_toArray, List.set_cons_zero, List.set_cons_succ])
        first | (refine Reg.G_step (i := 3) rfl (by kernel_rfl) (by rfl) (fun K hK => ?_); go_big_quiet_op; refine hK _ ?_; clear hK K) | (refine Reg.G_skip (i := 3) rfl (by kernel_rfl) (by rfl) ?_; simp only [Act.put, List.setIfInBounds_toArray, List.set_cons_zero, List.set_cons_succ])
        first | (refine Reg.G_step (i := 4) rfl (by kernel_rfl) (by rfl) (fun K hK => ?_); go_big_quiet_op; refine hK _ ?_; clear hK K) | (refine Reg.G_skip (i := 4) rfl (by kernel_rfl) (by rfl) ?_; simp only [Act.put, List.setIfInBounds_toArray, List.set_cons_zero, List.set_cons_succ])
        first | (refine Reg.G_step (i := 5) rfl (by kernel_rfl) (by rfl) (fun K hK => ?_); go_big_quiet_op; refine hK _ ?_; clear hK K) | (refine Reg.G_skip (i := 5) rfl (by kernel_rfl) (by rfl) ?_; simp only [Act.put, List.setIfInBounds_toArray, List.set_cons_zero, List.set_cons_succ])
        first | (refine Reg.G_step (i := 6) rfl (by kernel_rfl) (by rfl) (fun K hK => ?_); go_big_quiet_op; refine hK _ ?_; clear hK K) | (refine Reg.G_skip (i := 6) rfl (by kernel_rfl) (by rfl) ?_; simp only [Act.put, List.setIfInBounds_toArray, List.set_cons_zero, List.set_cons_succ])
        first | (refine Reg.G_step (i := 7) rfl (by kernel_rfl) (by rfl) (fun K hK => ?_); go_big_quiet_op; refine hK _ ?_; clear hK K) | (refine Reg.G_skip (i := 7) rfl (by kernel_rfl) (by rfl) ?_; simp only [Act.put, List.setIfInBounds_toArray, List.set_cons_zero, List.set_cons_succ])
        first | (refine Reg.G_step (i := 8) rfl (by kernel_rfl) (by rfl) (fun K hK => ?_); go_big_quiet_op; refine hK _ ?_; clear hK K) | (refine Reg.G_skip (i := 8) rfl (by kernel_rfl) (by rfl) ?_; simp only [Act.put, List.setIfInBounds_toArray, List.set_cons_zero, List.set_cons_succ])
        first | (refine Reg.G_step (i := 9) rfl (by kernel_rfl) (by rfl) (fun K hK => ?_); go_big_quiet_op; refine hK _ ?_; clear hK K) | (refine Reg.G_skip (i := 9) rfl (by kernel_rfl) (by rfl) ?_; simp only [Act.put, List.setIfInBounds_toArray, List.set_cons_zero, List.set_cons_succ])
        first | (refine Reg.G_step (i := 10) rfl (by kernel_rfl) (by rfl) (fun K hK => ?_); go_big_quiet_op; refine hK _ ?_; clear hK K) | (refine Reg.G_skip (i := 10) rfl (by kernel_rfl) (by rfl) ?_; simp only [Act.put, List.setIfInBounds_toArray, List.set_cons_zero, List.set_cons_succ])
        refine Reg.G_done rfl ?_
        have HV := Lib.hid (bt HU.out hV)
        clear y0 y1 hV
        go_wp2_with fail
        go_ret
        exact ⟨ret_v (x := .int .i64 (j : Int)) (by rw [HFj.out]), bt HB.out HV.out⟩
      · have hno2 : ∀ k, k < j + 1 → l.getD k p0 ≠ ⟨ps, pf⟩ := by
          intro k hk e
          rcases Nat.lt_or_eq_of_le (Nat.le_of_lt_succ hk) with hk | rfl
          · exact HNo.out k hk e
          · rw [HEq.out] at e
            injection e with e1 e2
            exact hboth ⟨HE.out.trans (decide_eq_true e2), HB2.out.trans (decide_eq_true e1)⟩
        have hw : E = false ∨ (E = true ∧ b2 = false) := by cases E <;> cases b2 <;> simp_all
        have HNo2 := Lib.hid hno2
        clear hno2 hboth
        rcases hw with rfl | ⟨rfl, rfl⟩
        all_goals
          go_wp2_with fail
          refine Reg.G_start (by kernel_rfl) (by repeat (first | with_reducible exact Reg.frameless_bodyPost | with_reducible refine Reg.frameless_then ?_ | with_reducible refine Reg.frameless_inBlock ?_ | refine Reg.frameless_then ?_ | refine Reg.frameless_inBlock ?_)) (fun V hV => ?_)
          have y0 := Reg.later_cell (Below.refl _ V) (HX.out.kept (bt HU.out hV)).cells.1
          have y1 := Reg.later_cell (Below.refl _ V) (HCw.out V (bt HU.out hV)).1.1
          first | (refine Reg.G_step (i := 0) rfl (by kernel_rfl) (by rfl) (fun K hK => ?_); go_big_quiet_op; refine hK _ ?_; clear hK K) | (refine Reg.G_skip (i := 0) rfl (by kernel_rfl) (by rfl) ?_; simp only [Act.put, List.setIfInBounds_toArray, List.set_cons_zero, List.set_cons_succ])
          first | (refine Reg.G_step (i := 1) rfl (by kernel_rfl) (by rfl) (fun K hK => ?_); go_big_quiet_op; refine hK _ ?_; clear hK K) | (refine Reg.G_skip (i := 1) rfl (by kernel_rfl) (by rfl) ?_; simp only [Act.put, List.setIfInBounds_toArray, List.set_cons_zero, List.set_cons_succ])
          first | (refine Reg.G_step (i := 2) rfl (by kernel_rfl) (by rfl) (fun K hK => ?_); go_big_quiet_op; refine hK _ ?_; clear hK K) | (refine Reg.G_skip (i := 2) rfl (by kernel_rfl) (by rfl) ?_; simp only [Act.put, List.setIfInBounds_toArray, List.set_cons_zero, List.set_cons_succ])
          first | (refine Reg.G_step (i := 3) rfl (by kernel_rfl) (by rfl) (fun K hK => ?_); go_big_quiet_op; refine hK _ ?_; clear hK K) | (refine Reg.G_skip (i := 3) rfl (by kernel_rfl) (by rfl) ?_; simp only [Act.put, List.setIfInBounds_toArray, List.set_cons_zero, List.set_cons_succ])
          first | (refine Reg.G_step (i := 4) rfl (by kernel_rfl) (by rfl) (fun K hK => ?_); go_big_quiet_op; refine hK _ ?_; clear hK K) | (refine Reg.G_skip (i := 4) rfl (by kernel_rfl) (by rfl) ?_; simp only [Act.put, List.setIfInBounds_toArray, List.set_cons_zero, List.set_cons_succ])
          first | (refine Reg.G_step (i := 5) rfl (by kernel_rfl) (by rfl) (fun K hK => ?_); go_big_quiet_op; refine hK _ ?_; clear hK K) | (refine Reg.G_skip (i := 5) rfl (by kernel_rfl) (by rfl) ?_; simp only [Act.put, List.setIfInBounds_toArray, List.set_cons_zero, List.set_cons_succ])
          first | (refine Reg.G_step (i := 6) rfl (by kernel_rfl) (by rfl) (fun K hK => ?_); go_big_quiet_op; refine hK _ ?_; clear hK K) | (refine Reg.G_skip (i := 6) rfl (by kernel_rfl) (by rfl) ?_; simp only [Act.put, List.setIfInBounds_toArray, List.set_cons_zero, List.set_cons_succ])
          first | (refine Reg.G_step (i := 7) rfl (by kernel_rfl) (by rfl) (fun K hK => ?_); go_big_quiet_op; refine hK _ ?_; clear hK K) | (refine Reg.G_skip (i := 7) rfl (by kernel_rfl) (by rfl) ?_; simp only [Act.put, List.setIfInBounds_toArray, List.set_cons_zero, List.set_cons_succ])
          first | (refine Reg.G_step (i := 8) rfl (by kernel_rfl) (by rfl) (fun K hK => ?_); go_big_quiet_op; refine hK _ ?_; clear hK K) | (refine Reg.G_skip (i := 8) rfl (by kernel_rfl) (by rfl) ?_; simp only [Act.put, List.setIfInBounds_toArray, List.set_cons_zero, List.set_cons_succ])
          first | (refine Reg.G_step (i := 9) rfl (by kernel_rfl) (by rfl) (fun K hK => ?_); go_big_quiet_op; refine hK _ ?_; clear hK K) | (refine Reg.G_skip (i := 9) rfl (by kernel_rfl) (by rfl) ?_; simp only [Act.put, List.setIfInBounds_toArray, List.set_cons_zero, List.set_cons_succ])
          first | (refine Reg.G_step (i := 10) rfl (by kernel_rfl) (by rfl) (fun K hK => ?_); go_big_quiet_op; refine hK _ ?_; clear hK K) | (refine Reg.G_skip (i := 10) rfl (by kernel_rfl) (by rfl) ?_; simp only [Act.put, List.setIfInBounds_toArray, List.set_cons_zero, List.set_cons_succ])
          refine Reg.G_done rfl ?_
          have HV := Lib.hid (bt HU.out hV)
          clear y0 y1 hV
          go_wp2_with fail
          go_roundw
          case rel => exact ⟨j + 1, by go_num, by omega, HNo2.out, HV.out⟩
          case measure => simp [intOf]; omega
    · obtain rfl : j = n := by omega
      have hFn : F = -1 := HFn.out (fun hp => by
        obtain ⟨i, hi, e⟩ := List.getElem_of_mem hp
        have h := HNo.out i (by rw [HLen.out]; exact hi)
        rw [List.getD_eq_getElem?_getD, List.getElem?_eq_getElem hi] at h
        exact h e)
      have HFj := Lib.hid hFn
      clear hFn
      go_wp2_with fail
      go_ret
      exact ⟨ret_v (x := .int .i64 (-1)) (by rw [HFj.out]), bt HB.out HBl.out⟩
end Go.Proofs.Ytochpomddfjkoaa.Ix
