/- IndexTells: for every input the law returns true, and each argument reads afterwards as it read before. No condition.
  The walk is the theorem Go.Proofs.Ytochpomddfjkoaa.Ix.tells_walk. -/
import Derived.Test.YtochpomddfjkoaaChB
import Derived.Test.YtochpomddfjkoaaRows
import Derived.WalkKit
import Derived.ProofKit
import Derived.OpenShut
import Derived.ShutString
import Derived.ChangeOld
import Derived.Below

namespace Go.Proofs.Ytochpomddfjkoaa.Ix
open Go.RowKit Go.Proofs.Ytochpomddfjkoaa.BM Go.Proofs.Ytochpomddfjkoaa.LM Go.Proofs.Ytochpomddfjkoaa.VaM Go.Proofs.Ytochpomddfjkoaa.ExM Go.Proofs.Ytochpomddfjkoaa.QyM Go.Proofs.Ytochpomddfjkoaa.IxM
open Go.Proofs.Ytochpomddfjkoaa.Ex (SlO)
open Go.Proofs.Ytochpomddfjkoaa.Va (SlV Bx bx_new_t ret_v)
open Go.Proofs.Ytochpomddfjkoaa.Qy (SlQ slQ_len)
open Go.Proofs.Ytochpomddfjkoaa.Bo (SlBo)
open Go.Proofs.Ytochpomddfjkoaa.EvM (Ev)

set_option maxRecDepth 100000 in
set_option maxHeartbeats 16000000 in
theorem tells_walk (la : Option Addr) (n lc : Nat) (ma : Option Addr) (m mc : Nat) (ps : ByteArray) (pa : Option Addr) (pn pc : Nat) (es : ByteArray) (et : Int) (ea : Option Addr) (en ec : Nat) (w : World) (h0 : Op.ArgQs w la n lc) (h1 : Op.ArgPs w ma m mc) (h2 : Op.ArgP w ps pa pn pc) (h3 : Op.ArgE w es et ea en ec) :
    Calls Try.prog 3 #[.slice la n lc, .slice ma m mc, .agg #[.string ps, .slice pa pn pc], .agg #[.string es, .int .i64 et, .slice ea en ec]] w fun e w' => e = .returned (.bool true) ∧ Below w.heap.size w w' := by
  obtain ⟨l, hln, hL⟩ := h0
  obtain ⟨k, hkm, hM⟩ := h1
  obtain ⟨f, hfn, hO, hps⟩ := h2
  obtain ⟨v, hvn, hV, hz⟩ := h3
  have hA := fun W (hW : Below w.heap.size w W) => QsFew_any l la lc W (hL.kept hW)
  have hB := fun W (hW : Below w.heap.size w W) => PrsFew_any k ma mc W (hM.kept hW)
  have hC := fun W (hW : Below w.heap.size w W) => Ev.Few_any ⟨es, et, v⟩ ea ec W (hV.kept hW) hz.1
  have hD := fun W (hW : Below w.heap.size w W) => Ex.Few_any f pa pc W (hO.kept hW)
  have hAl := fun W (hW : Below w.heap.size w W) (hq : Little l) => All_any l la lc W (hL.kept hW) hq.1 hq.2
  have hAr := fun W (hW : Below w.heap.size w W) (hq : Little l) => refAll_any l la lc W (hL.kept hW) hq.1
  have hTl := fun W (hW : Below w.heap.size w W) hq => Told_any k ⟨es, et, v⟩ ma mc ea ec W (hM.kept hW) (hV.kept hW) hz hq
  have hTr := fun W (hW : Below w.heap.size w W) hq => refTold_any k ⟨es, et, v⟩ ma mc ea ec W (hM.kept hW) (hV.kept hW) hz hq
  have hFl := fun W (hW : Below w.heap.size w W) => Find_any k ⟨ps, f⟩ ma mc pa pc W (hM.kept hW) (hO.kept hW)
  have hFr := fun W (hW : Below w.heap.size w W) => refFind_any k ⟨ps, f⟩ ma mc pa pc W (hM.kept hW) (hO.kept hW)
  have hHl := fun W (hW : Below w.heap.size w W) => Holds_any ⟨ps, f⟩ ⟨es, et, v⟩ pa pc ea ec W (hO.kept hW) (hV.kept hW) hz
  have hHr := fun W (hW : Below w.heap.size w W) => refHolds_any ⟨ps, f⟩ ⟨es, et, v⟩ pa pc ea ec W (hO.kept hW) (hV.kept hW) hz
  have hSa := fun W A r A' r' (h : SlPr W A (all l) r) (h' : SlPr W A' (all l) r') => refSame_any (all l) (all l) A r A' r' W h h'
  have hSb := fun W A r A' r' (h : SlBo W A (told k ⟨es, et, v⟩) r) (h' : SlBo W A' (told k ⟨es, et, v⟩) r') => refBools_any (told k ⟨es, et, v⟩) (told k ⟨es, et, v⟩) A r A' r' W h h'
  have hq1 : QsFew l → _ := fun h => asks_few h
  have hq2 : PrsFew k → k.length ≤ 100000000 := fun h => by have := h.1; omega
  unfold AllB at hAl hAr
  unfold ToldB at hTl hTr
  unfold agPr at hFl hFr hHl hHr
  simp only [told_len] at hSb
  simp only [hln, hkm, hfn, hvn, decide_true] at hA hB hC hD hAl hAr hTl hTr hFl hFr hHl hHr hSa hSb hq2
  obtain ⟨L, hLd⟩ : ∃ L, L = all l := ⟨_, rfl⟩
  obtain ⟨T, hTd⟩ : ∃ T, T = told k ⟨es, et, v⟩ := ⟨_, rfl⟩
  obtain ⟨F, hFd⟩ : ∃ F, F = find k ⟨ps, f⟩ := ⟨_, rfl⟩
  obtain ⟨H, hHd⟩ : ∃ H, H = holdsP ⟨ps, f⟩ ⟨es, et, v⟩ := ⟨_, rfl⟩
  obtain ⟨Ln, hLn⟩ : ∃ n, n = L.length := ⟨_, rfl⟩
  simp only [← hLd] at hAl hAr hSa
  simp only [← hLn] at hAl hAr hSa
  simp only [← hTd] at hTl hTr hSb
  simp only [← hFd] at hFl hFr
  simp only [← hHd] at hHl hHr
  obtain ⟨b1, hb1⟩ : ∃ b, b = decide (QsFew l) := ⟨_, rfl⟩
  obtain ⟨b2, hb2⟩ : ∃ b, b = decide (PrsFew k) := ⟨_, rfl⟩
  obtain ⟨b3, hb3⟩ : ∃ b, b = decide (Ev.Few ⟨es, et, v⟩) := ⟨_, rfl⟩
  obtain ⟨b4, hb4⟩ : ∃ b, b = decide (Ex.Few f) := ⟨_, rfl⟩
  simp only [← hb1] at hA
  simp only [← hb2] at hB
  simp only [← hb3] at hC
  simp only [← hb4] at hD
  have HQ1 := Lib.hid (fun h : b1 = true => hq1 (of_decide_eq_true (hb1.symm.trans h)))
  have HQ2 := Lib.hid (fun h : b2 = true => hq2 (of_decide_eq_true (hb2.symm.trans h)))
  have HA := Lib.hid hA
  have HB' := Lib.hid hB
  have HC := Lib.hid hC
  have HD := Lib.hid hD
  have HAl := Lib.hid hAl
  have HAr := Lib.hid hAr
  have HTl := Lib.hid hTl
  have HTr := Lib.hid hTr
  have HFl := Lib.hid hFl
  have HFr := Lib.hid hFr
  have HHl := Lib.hid hHl
  have HHr := Lib.hid hHr
  have HSa := Lib.hid hSa
  have HSb := Lib.hid hSb
  obtain ⟨u1, hu1⟩ : ∃ u, u = w.alloc (.cells #[.string ps, .slice pa pn pc] 26) := ⟨_, rfl⟩
  have hs1 : u1.heap.size = w.heap.size + 1 := by rw [hu1]; simp
  have ha1 := below_pr w ps pa pn pc
  have hx1 := bxPr_new w ps pa pn pc
  rw [← hu1] at ha1 hx1
  have ha2 := (Below.refl u1.heap.size u1).alloc (Nat.le_refl _) (.cells #[.string es, .int .i64 et, .slice ea en ec] 29)
  have hx2 := bx_new_t u1 29 (.string es) (.int .i64 et) (.slice ea en ec)
  rw [hs1] at hx2
  have hk1 := hx1.kept ha2
  have hbb := bt ha1 ha2
  rw [hu1] at hx2 hk1 hbb
  have HX0 := Lib.hid hk1
  have HY0 := Lib.hid hx2
  have HB0 := Lib.hid hbb
  clear ha1 hx1 ha2 hx2 hk1 hbb hs1 hu1 u1 hA hB hC hD hAl hAr hTl hTr hFl hFr hHl hHr hSa hSb hq1 hq2 hb1 hb2 hb3 hb4 hLd hTd hFd hHd hLn hL hM hO hV hz hps hln hkm hfn hvn
  go_enter Try.func3, Try.ntmps3
  go_wp2_with fail
  refine (awake_any _).mono ?_
  rintro e w1 ⟨rfl, hb⟩
  have HB1 := Lib.hid (bt HB0.out hb)
  have HX1 := Lib.hid (HX0.out.kept hb)
  have HY1 := Lib.hid (HY0.out.kept hb)
  clear hb HB0 HX0 HY0
  go_wp2_with fail
  refine (HA.out _ HB1.out).mono ?_
  rintro e w2 ⟨rfl, hb⟩
  have HB2 := Lib.hid (bt HB1.out hb)
  have HX2 := Lib.hid (HX1.out.kept hb)
  have HY2 := Lib.hid (HY1.out.kept hb)
  clear hb HB1 HX1 HY1 HA
  go_wp2_with fail
  refine (HB'.out _ HB2.out).mono ?_
  rintro e w3 ⟨rfl, hb⟩
  have HB3 := Lib.hid (bt HB2.out hb)
  have HX3 := Lib.hid (HX2.out.kept hb)
  have HY3 := Lib.hid (HY2.out.kept hb)
  clear hb HB2 HX2 HY2 HB'
  obtain ⟨⟨q0, q1, q2⟩, _⟩ := HY3.out
  go_wp2_with fail
  refine (HC.out _ HB3.out).mono ?_
  rintro e w4 ⟨rfl, hb⟩
  have HB4 := Lib.hid (bt HB3.out hb)
  have HX4 := Lib.hid (HX3.out.kept hb)
  have HY4 := Lib.hid (HY3.out.kept hb)
  clear hb HB3 HX3 HY3 HC q0 q1 q2
  obtain ⟨p0, p1⟩ := HX4.out.cells
  go_wp2_with fail
  refine (HD.out _ HB4.out).mono ?_
  rintro e w5 ⟨rfl, hb⟩
  have HB5 := Lib.hid (bt HB4.out hb)
  have HX5 := Lib.hid (HX4.out.kept hb)
  have HY5 := Lib.hid (HY4.out.kept hb)
  clear hb HB4 HX4 HY4 HD p0 p1
  by_cases hpq : b1 = true ∧ b2 = true ∧ b3 = true ∧ b4 = true
  rotate_left
  · have hw : b1 = false ∨ (b1 = true ∧ b2 = false) ∨ (b1 = true ∧ b2 = true ∧ b3 = false) ∨ (b1 = true ∧ b2 = true ∧ b3 = true ∧ b4 = false) := by
      revert hpq
      cases b1 <;> cases b2 <;> cases b3 <;> cases b4 <;> simp
    clear hpq
    rcases hw with rfl | ⟨rfl, rfl⟩ | ⟨rfl, rfl, rfl⟩ | ⟨rfl, rfl, rfl, rfl⟩
    all_goals
      go_wp2_with fail
      go_ret
      exact ⟨ret_v (x := .bool true) rfl, HB5.out⟩
  obtain ⟨rfl, rfl, rfl, rfl⟩ := hpq
  have HAl5 := Lib.hid (HAl.out _ HB5.out (HQ1.out (by trivial)))
  go_wp2_with fail
  refine HAl5.out.mono ?_
  rintro e w6 ⟨A6, c6, rfl, hs6, hb⟩
  have HB6 := Lib.hid (bt HB5.out hb)
  have HX6 := Lib.hid (HX5.out.kept hb)
  have HY6 := Lib.hid (HY5.out.kept hb)
  have HU6 := Lib.hid hs6
  have HAr6 := Lib.hid (HAr.out _ HB6.out (HQ1.out (by trivial)))
  clear hb hs6 HB5 HX5 HY5 HAl HAl5 HAr HQ1
  go_wp2_with fail
  refine HAr6.out.mono ?_
  rintro e w7 ⟨A7, c7, rfl, hs7, hb⟩
  have HB7 := Lib.hid (bt HB6.out hb)
  have HX7 := Lib.hid (HX6.out.kept hb)
  have HY7 := Lib.hid (HY6.out.kept hb)
  have HSa7 := Lib.hid (HSa.out w7 A6 c6 A7 c7 (HU6.out.kept hb) hs7)
  clear hb hs7 HB6 HX6 HY6 HU6 HAr6 HSa
  go_wp2_with fail
  refine HSa7.out.mono ?_
  rintro e w8 ⟨rfl, hb⟩
  have HB8 := Lib.hid (bt HB7.out hb)
  have HX8 := Lib.hid (HX7.out.kept hb)
  have HY8 := Lib.hid (HY7.out.kept hb)
  clear hb HB7 HX7 HY7 HSa7
  go_wp2_with fail
  refine Reg.G_start (by kernel_rfl) (by repeat (first | exact Reg.frameless_bodyPost | refine Reg.frameless_then ?_ | refine Reg.frameless_inBlock ?_)) (fun W hW => ?_)
  have hBW := bt HB8.out hW
  obtain ⟨⟨q0, q1, q2⟩, _⟩ := HY8.out.kept hW
  have y0 := Reg.later_cell (Below.refl _ W) q0
  have y1 := Reg.later_cell (Below.refl _ W) q1
  have y2 := Reg.later_cell (Below.refl _ W) q2
  clear q0 q1 q2
  first | (refine Reg.G_step (i := 0) rfl (by kernel_rfl) (by rfl) (fun K hK => ?_); go_big_quiet_op; refine hK _ ?_; clear hK K) | (refine Reg.G_skip (i := 0) rfl (by kernel_rfl) (by rfl) ?_; simp only [Act.put, List.setIfInBounds_toArray, List.set_cons_zero, List.set_cons_succ])
  first | (refine Reg.G_step (i := 1) rfl (by kernel_rfl) (by rfl) (fun K hK => ?_); go_big_quiet_op; refine hK _ ?_; clear hK K) | (refine Reg.G_skip (i := 1) rfl (by kernel_rfl) (by rfl) ?_; simp only [Act.put, List.setIfInBounds_toArray, List.set_cons_zero, List.set_cons_succ])
  first | (refine Reg.G_step (i := 3) rfl (by kernel_rfl) (by rfl) (fun K hK => ?_); go_big_quiet_op; refine hK _ ?_; clear hK K) | (refine Reg.G_skip (i := 3) rfl (by kernel_rfl) (by rfl) ?_; simp only [Act.put, List.setIfInBounds_toArray, List.set_cons_zero, List.set_cons_succ])
  first | (refine Reg.G_step (i := 4) rfl (by kernel_rfl) (by rfl) (fun K hK => ?_); go_big_quiet_op; refine hK _ ?_; clear hK K) | (refine Reg.G_skip (i := 4) rfl (by kernel_rfl) (by rfl) ?_; simp only [Act.put, List.setIfInBounds_toArray, List.set_cons_zero, List.set_cons_succ])
  refine Reg.G_event (i := 2) rfl (by kernel_rfl) (by rfl) (fun K hK => ?_)
  go_simp
  refine (HTl.out _ hBW (HQ2.out (by trivial))).mono ?_
  rintro e v1 ⟨A8, c8, rfl, ht1, hv1⟩
  refine hK _ _ hv1 ?_
  clear hK K y0 y1 y2
  have hB1 := bt hBW hv1
  obtain ⟨⟨q0, q1, q2⟩, _⟩ := HY8.out.kept (bt hW hv1)
  have y0 := Reg.later_cell (Below.refl _ v1) q0
  have y1 := Reg.later_cell (Below.refl _ v1) q1
  have y2 := Reg.later_cell (Below.refl _ v1) q2
  clear q0 q1 q2
  refine Reg.G_event (i := 5) rfl (by kernel_rfl) (by rfl) (fun K hK => ?_)
  go_simp
  refine (HTr.out _ hB1 (HQ2.out (by trivial))).mono ?_
  rintro e v2 ⟨A9, c9, rfl, ht2, hv2⟩
  refine hK _ _ hv2 ?_
  clear hK K y0 y1 y2
  have hB2 := bt hB1 hv2
  refine Reg.G_event (i := 6) rfl (by kernel_rfl) (by rfl) (fun K hK => ?_)
  go_simp
  refine (HSb.out v2 A8 c8 A9 c9 (ht1.kept hv2) ht2).mono ?_
  rintro e v3 ⟨rfl, hv3⟩
  refine hK _ _ hv3 ?_
  clear hK K
  have HB9 := Lib.hid (bt hB2 hv3)
  have HX9 := Lib.hid (HX8.out.kept (bt hW (bt hv1 (bt hv2 hv3))))
  have HY9 := Lib.hid (HY8.out.kept (bt hW (bt hv1 (bt hv2 hv3))))
  first | (refine Reg.G_step (i := 7) rfl (by kernel_rfl) (by rfl) (fun K hK => ?_); go_big_quiet_op; refine hK _ ?_; clear hK K) | (refine Reg.G_skip (i := 7) rfl (by kernel_rfl) (by rfl) ?_; simp only [Act.put, List.setIfInBounds_toArray, List.set_cons_zero, List.set_cons_succ])
  refine Reg.G_done rfl ?_
  clear hBW hB1 hB2 hW hv1 hv2 hv3 ht1 ht2 HB8 HX8 HY8 HTl HTr HSb HQ2
  obtain ⟨p0, p1⟩ := HX9.out.cells
  obtain ⟨⟨q0, q1, q2⟩, _⟩ := HY9.out
  go_wp2_with fail
  refine (HHr.out _ HB9.out).mono ?_
  rintro e w10 ⟨rfl, hb⟩
  have HB10 := Lib.hid (bt HB9.out hb)
  have HX10 := Lib.hid (HX9.out.kept hb)
  have HY10 := Lib.hid (HY9.out.kept hb)
  clear hb HB9 HX9 HY9 HHr p0 p1 q0 q1 q2
  have e1 : (F == F) = true := by simp
  have e2 : (H == H) = true := by simp
  go_wp2_with fail
  refine Reg.G_start (by kernel_rfl) (by repeat (first | exact Reg.frameless_bodyPost | refine Reg.frameless_then ?_ | refine Reg.frameless_inBlock ?_)) (fun W hW => ?_)
  have hBW := bt HB10.out hW
  obtain ⟨p0, p1⟩ := (HX10.out.kept hW).cells
  have x0 := Reg.later_cell (Below.refl _ W) p0
  have x1 := Reg.later_cell (Below.refl _ W) p1
  clear p0 p1
  first | (refine Reg.G_step (i := 0) rfl (by kernel_rfl) (by rfl) (fun K hK => ?_); go_big_quiet_op; refine hK _ ?_; clear hK K) | (refine Reg.G_skip (i := 0) rfl (by kernel_rfl) (by rfl) ?_; simp only [Act.put, List.setIfInBounds_toArray, List.set_cons_zero, List.set_cons_succ])
  first | (refine Reg.G_step (i := 1) rfl (by kernel_rfl) (by rfl) (fun K hK => ?_); go_big_quiet_op; refine hK _ ?_; clear hK K) | (refine Reg.G_skip (i := 1) rfl (by kernel_rfl) (by rfl) ?_; simp only [Act.put, List.setIfInBounds_toArray, List.set_cons_zero, List.set_cons_succ])
  first | (refine Reg.G_step (i := 2) rfl (by kernel_rfl) (by rfl) (fun K hK => ?_); go_big_quiet_op; refine hK _ ?_; clear hK K) | (refine Reg.G_skip (i := 2) rfl (by kernel_rfl) (by rfl) ?_; simp only [Act.put, List.setIfInBounds_toArray, List.set_cons_zero, List.set_cons_succ])
  first | (refine Reg.G_step (i := 3) rfl (by kernel_rfl) (by rfl) (fun K hK => ?_); go_big_quiet_op; refine hK _ ?_; clear hK K) | (refine Reg.G_skip (i := 3) rfl (by kernel_rfl) (by rfl) ?_; simp only [Act.put, List.setIfInBounds_toArray, List.set_cons_zero, List.set_cons_succ])
  first | (refine Reg.G_step (i := 4) rfl (by kernel_rfl) (by rfl) (fun K hK => ?_); go_big_quiet_op; refine hK _ ?_; clear hK K) | (refine Reg.G_skip (i := 4) rfl (by kernel_rfl) (by rfl) ?_; simp only [Act.put, List.setIfInBounds_toArray, List.set_cons_zero, List.set_cons_succ])
  first | (refine Reg.G_step (i := 5) rfl (by kernel_rfl) (by rfl) (fun K hK => ?_); go_big_quiet_op; refine hK _ ?_; clear hK K) | (refine Reg.G_skip (i := 5) rfl (by kernel_rfl) (by rfl) ?_; simp only [Act.put, List.setIfInBounds_toArray, List.set_cons_zero, List.set_cons_succ])
  first | (refine Reg.G_step (i := 6) rfl (by kernel_rfl) (by rfl) (fun K hK => ?_); go_big_quiet_op; refine hK _ ?_; clear hK K) | (refine Reg.G_skip (i := 6) rfl (by kernel_rfl) (by rfl) ?_; simp only [Act.put, List.setIfInBounds_toArray, List.set_cons_zero, List.set_cons_succ])
  first | (refine Reg.G_step (i := 8) rfl (by kernel_rfl) (by rfl) (fun K hK => ?_); go_big_quiet_op; refine hK _ ?_; clear hK K) | (refine Reg.G_skip (i := 8) rfl (by kernel_rfl) (by rfl) ?_; simp only [Act.put, List.setIfInBounds_toArray, List.set_cons_zero, List.set_cons_succ])
  first | (refine Reg.G_step (i := 9) rfl (by kernel_rfl) (by rfl) (fun K hK => ?_); go_big_quiet_op; refine hK _ ?_; clear hK K) | (refine Reg.G_skip (i := 9) rfl (by kernel_rfl) (by rfl) ?_; simp only [Act.put, List.setIfInBounds_toArray, List.set_cons_zero, List.set_cons_succ])
  refine Reg.G_event (i := 7) rfl (by kernel_rfl) (by rfl) (fun K hK => ?_)
  go_simp
  refine (HFl.out _ hBW).mono ?_
  rintro e v1 ⟨rfl, hv1⟩
  refine hK _ _ hv1 ?_
  clear hK K x0 x1
  have hB1 := bt hBW hv1
  obtain ⟨p0, p1⟩ := (HX10.out.kept (bt hW hv1)).cells
  have x0 := Reg.later_cell (Below.refl _ v1) p0
  have x1 := Reg.later_cell (Below.refl _ v1) p1
  clear p0 p1
  refine Reg.G_event (i := 10) rfl (by kernel_rfl) (by rfl) (fun K hK => ?_)
  go_simp
  refine (HFr.out _ hB1).mono ?_
  rintro e v2 ⟨rfl, hv2⟩
  refine hK _ _ hv2 ?_
  clear hK K x0 x1
  have hB2 := bt hB1 hv2
  obtain ⟨p0, p1⟩ := (HX10.out.kept (bt hW (bt hv1 hv2))).cells
  obtain ⟨⟨q0, q1, q2⟩, _⟩ := HY10.out.kept (bt hW (bt hv1 hv2))
  have x0 := Reg.later_cell (Below.refl _ v2) p0
  have x1 := Reg.later_cell (Below.refl _ v2) p1
  have y0 := Reg.later_cell (Below.refl _ v2) q0
  have y1 := Reg.later_cell (Below.refl _ v2) q1
  have y2 := Reg.later_cell (Below.refl _ v2) q2
  clear p0 p1 q0 q1 q2
  first | (refine Reg.G_step (i := 11) rfl (by kernel_rfl) (by rfl) (fun K hK => ?_); go_big_quiet_op; refine hK _ ?_; clear hK K) | (refine Reg.G_skip (i := 11) rfl (by kernel_rfl) (by rfl) ?_; simp only [Act.put, List.setIfInBounds_toArray, List.set_cons_zero, List.set_cons_succ])
  first | (refine Reg.G_step (i := 12) rfl (by kernel_rfl) (by rfl) (fun K hK => ?_); go_big_quiet_op; refine hK _ ?_; clear hK K) | (refine Reg.G_skip (i := 12) rfl (by kernel_rfl) (by rfl) ?_; simp only [Act.put, List.setIfInBounds_toArray, List.set_cons_zero, List.set_cons_succ])
  first | (refine Reg.G_step (i := 13) rfl (by kernel_rfl) (by rfl) (fun K hK => ?_); go_big_quiet_op; refine hK _ ?_; clear hK K) | (refine Reg.G_skip (i := 13) rfl (by kernel_rfl) (by rfl) ?_; simp only [Act.put, List.setIfInBounds_toArray, List.set_cons_zero, List.set_cons_succ])
  first | (refine Reg.G_step (i := 14) rfl (by kernel_rfl) (by rfl) (fun K hK => ?_); go_big_quiet_op; refine hK _ ?_; clear hK K) | (refine Reg.G_skip (i := 14) rfl (by kernel_rfl) (by rfl) ?_; simp only [Act.put, List.setIfInBounds_toArray, List.set_cons_zero, List.set_cons_succ])
  first | (refine Reg.G_step (i := 15) rfl (by kernel_rfl) (by rfl) (fun K hK => ?_); go_big_quiet_op; refine hK _ ?_; clear hK K) | (refine Reg.G_skip (i := 15) rfl (by kernel_rfl) (by rfl) ?_; simp only [Act.put, List.setIfInBounds_toArray, List.set_cons_zero, List.set_cons_succ])
  first | (refine Reg.G_step (i := 17) rfl (by kernel_rfl) (by rfl) (fun K hK => ?_); go_big_quiet_op; refine hK _ ?_; clear hK K) | (refine Reg.G_skip (i := 17) rfl (by kernel_rfl) (by rfl) ?_; simp only [Act.put, List.setIfInBounds_toArray, List.set_cons_zero, List.set_cons_succ])
  refine Reg.G_event (i := 16) rfl (by kernel_rfl) (by rfl) (fun K hK => ?_)
  go_simp
  refine (HHl.out _ hB2).mono ?_
  rintro e v3 ⟨rfl, hv3⟩
  refine hK _ _ hv3 ?_
  clear hK K x0 x1 y0 y1 y2
  have HB11 := Lib.hid (bt hB2 hv3)
  first | (refine Reg.G_step (i := 18) rfl (by kernel_rfl) (by rfl) (fun K hK => ?_); go_big_quiet_op; refine hK _ ?_; clear hK K) | (refine Reg.G_skip (i := 18) rfl (by kernel_rfl) (by rfl) ?_; simp only [Act.put, List.setIfInBounds_toArray, List.set_cons_zero, List.set_cons_succ])
  first | (refine Reg.G_step (i := 19) rfl (by kernel_rfl) (by rfl) (fun K hK => ?_); go_big_quiet_op; refine hK _ ?_; clear hK K) | (refine Reg.G_skip (i := 19) rfl (by kernel_rfl) (by rfl) ?_; simp only [Act.put, List.setIfInBounds_toArray, List.set_cons_zero, List.set_cons_succ])
  first | (refine Reg.G_step (i := 20) rfl (by kernel_rfl) (by rfl) (fun K hK => ?_); go_big_quiet_op; refine hK _ ?_; clear hK K) | (refine Reg.G_skip (i := 20) rfl (by kernel_rfl) (by rfl) ?_; simp only [Act.put, List.setIfInBounds_toArray, List.set_cons_zero, List.set_cons_succ])
  refine Reg.G_done rfl ?_
  go_wp2_with fail
  go_ret
  exact ⟨ret_v (x := .bool true) (by first | rfl | simp), HB11.out⟩
end Go.Proofs.Ytochpomddfjkoaa.Ix

namespace Go.Proofs.Ytochpomddfjkoaa.indexTells
open Go.ChangeShapes Go.WideShapes Go.ChangeAt Go.RowKit

theorem own : ownKnob Try.prog.godebug = none := by kernel_rfl
theorem laidOut : laidOutB Try.prog = true := by kernel_rfl

set_option maxRecDepth 100000 in
theorem lifted (os : Os) (started : os.Started) (H : Type) (enc : TypeId × Value → H) :
    ReturnsInHanded {} Try.checked os 3 .any (Rows.indexTellsSpec.pre6 enc Try.prog Try.f3 Rows.indexTellsRow.domain false) (Rows.indexTellsSpec.post enc Try.prog Try.f3 false true false false) := by
  refine returnsInHanded_of_change (C := Try.checked) own started (by kernel_rfl) Try.func3
    (ChangeSpec.witness6 (enc := enc) (C := Try.checked) false ⟨#[], #[.slice none 0 0, .slice none 0 0, .agg #[.string ⟨#[]⟩, .slice none 0 0], .agg #[.string ⟨#[]⟩, .int .i64 0, .slice none 0 0]], []⟩ 8 (by kernel_rfl) (by kernel_rfl) (by kernel_rfl) (by kernel_rfl)) ?_
  intro W base args ds gs before hval0 hW hcnd _
  have hval : ∀ (j : Nat) t v, Try.f3.params[j]? = some t → args[j]? = some v → Value.okWide Try.prog W .any base t v := hval0
  have hW' := hW
  obtain ⟨p, q, hA0, hV, rfl, hfz, hnd⟩ := hW
  have hA : DataW.TrodAll enc Try.prog W 0 (fun _ => true) true Try.f3.params.toList args.toList ds p := hA0
  rw [Try.params3] at hA hval
  obtain ⟨v0, vs0, d0, ds0, p0, q0, hargs, rfl, rfl, h0, r0⟩ := trodAll_cons hA
  obtain ⟨v1, vs1, d1, ds1, p1, q1, rfl, rfl, rfl, h1, r1⟩ := trodAll_cons r0
  obtain ⟨v2, vs2, d2, ds2, p2, q2, rfl, rfl, rfl, h2, r2⟩ := trodAll_cons r1
  obtain ⟨v3, vs3, d3, ds3, p3, q3, rfl, rfl, rfl, h3, r3⟩ := trodAll_cons r2
  obtain ⟨rfl, rfl, rfl⟩ := trodAll_nil r3
  obtain rfl : args = #[v0, v1, v2, v3] := by cases args; simp_all
  obtain ⟨rfl, rfl⟩ := trodVars_none hV
  have k0 := h0
  have lt0 : ∀ x ∈ p0, x.block < W.heap.size := by obtain ⟨m, hm⟩ := k0; exact DataW.trod_lt m _ _ _ hm
  obtain ⟨a0, len0, cap0, rfl, w0⟩ := Op.open_queries (hval 0 22 v0 rfl rfl) h0
  have k1 := h1
  have lt1 : ∀ x ∈ p1, x.block < W.heap.size := by obtain ⟨m, hm⟩ := k1; exact DataW.trod_lt m _ _ _ hm
  obtain ⟨a1, len1, cap1, rfl, w1⟩ := Op.open_preds (hval 1 23 v1 rfl rfl) h1
  have k2 := h2
  have lt2 : ∀ x ∈ p2, x.block < W.heap.size := by obtain ⟨m, hm⟩ := k2; exact DataW.trod_lt m _ _ _ hm
  obtain ⟨ss2, a2, len2, cap2, rfl, w2⟩ := Op.open_pred (hval 2 26 v2 rfl rfl) h2
  have k3 := h3
  have lt3 : ∀ x ∈ p3, x.block < W.heap.size := by obtain ⟨m, hm⟩ := k3; exact DataW.trod_lt m _ _ _ hm
  obtain ⟨ss3, nn3, a3, len3, cap3, rfl, w3⟩ := Op.open_event (hval 3 29 v3 rfl rfl) h3
  clear hA0 hval0
  refine (Go.Proofs.Ytochpomddfjkoaa.Ix.tells_walk a0 len0 cap0 a1 len1 cap1 ss2 a2 len2 cap2 ss3 nn3 a3 len3 cap3 W w0 w1 w2 w3).mono fun e W' ⟨he, bel⟩ => ?_
  subst he
  exact ⟨_, rfl, _, _, _, [], _, [], hW', trodAll_mk1 (shut_bool Try.underlying4 _), (trodAll_cons_mk (Below.trod laidOut (by kernel_rfl) (of_decide_eq_true (by kernel_rfl)) k0 bel lt0) (trodAll_cons_mk (Below.trod laidOut (by kernel_rfl) (of_decide_eq_true (by kernel_rfl)) k1 bel lt1) (trodAll_cons_mk (Below.trod laidOut (by kernel_rfl) (of_decide_eq_true (by kernel_rfl)) k2 bel lt2) (trodAll_cons_mk (Below.trod laidOut (by kernel_rfl) (of_decide_eq_true (by kernel_rfl)) k3 bel lt3) trodAll_mk0)))), rfl, bel.frame _, fun h => by cases h⟩

theorem over : Rows.indexTellsRow.holds Try.pinned (OpenSpec.ofChange Rows.indexTellsSpec) :=
  OpenClaim.holds_of_wide 3 Try.f3 rfl rfl rfl rfl rfl rfl rfl ⟨rfl, rfl, rfl, rfl, rfl⟩ rfl rfl rfl rfl rfl (by kernel_rfl) Try.func3 (by kernel_rfl)
    (of_decide_eq_true (by kernel_rfl)) (by unfold Func.isWrapper; first | (rw [if_pos (by decide +kernel)]; kernel_rfl) | (rw [if_neg (by decide +kernel)]; exact ⟨rfl, rfl⟩))
    (fun os started H enc _ => lifted os started H enc)

theorem proved : Rows.IndexTellsSaid := over
#print axioms proved
end Go.Proofs.Ytochpomddfjkoaa.indexTells
