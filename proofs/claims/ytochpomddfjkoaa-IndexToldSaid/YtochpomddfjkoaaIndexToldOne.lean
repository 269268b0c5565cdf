/- IndexTold: for every input the law returns true, and each argument reads afterwards as it read before. No condition.
  The walk is the theorem Go.Proofs.Ytochpomddfjkoaa.Ix.told_walk. -/
import Derived.Test.YtochpomddfjkoaaChB
import Derived.Test.YtochpomddfjkoaaRows
import Derived.WalkKit
import Derived.ProofKit
import Derived.OpenShut
import Derived.ShutString
import Derived.ChangeOld
import Derived.Below

namespace Go.Proofs.Ytochpomddfjkoaa.Ix
open Go.RowKit Go.Proofs.Ytochpomddfjkoaa.BM Go.Proofs.Ytochpomddfjkoaa.LM Go.Proofs.Ytochpomddfjkoaa.VaM Go.Proofs.Ytochpomddfjkoaa.ExM Go.Proofs.Ytochpomddfjkoaa.QyM Go.Proofs.Ytochpomddfjkoaa.IxM
open Go.Proofs.Ytochpomddfjkoaa.Ex (SlO slO_none)
open Go.Proofs.Ytochpomddfjkoaa.Va (SlV slV_len Bx bx_new_t bx_set1 ret_v toList_beq)
open Go.Proofs.Ytochpomddfjkoaa.Bo (SlBo)
open Go.Proofs.Ytochpomddfjkoaa.EvM (Ev)

theorem holds_bad {s : ByteArray} {v : List V} {f : List O} : holds ⟨s, -1, v⟩ f = decide (f.length = 0) := by
  have hno : ¬ (May f ∧ EvM.May ⟨s, -1, v⟩) := fun h => absurd (show (0 : Int) ≤ -1 from h.2.2.1) (by decide)
  unfold holds eval
  rw [if_pos hno]
  cases f <;> rfl
theorem told_bad {l : List Pr} {s : ByteArray} {v : List V} {j : Nat} (hj : j < l.length) : (told l ⟨s, -1, v⟩).getD j false = (decide ((l.getD j p0).s = s) && decide ((l.getD j p0).f.length = 0)) := by
  unfold told
  rw [List.getD_eq_getElem?_getD, List.getElem?_map, List.getElem?_eq_getElem hj, List.getD_eq_getElem?_getD, List.getElem?_eq_getElem hj]
  simp only [Option.map_some, Option.getD_some]
  unfold holdsP
  rw [holds_bad]

set_option maxRecDepth 100000 in
set_option maxHeartbeats 8000000 in
theorem told_walk (ma : Option Addr) (m mc : Nat) (es : ByteArray) (et : Int) (ea : Option Addr) (en ec : Nat) (w : World) (h0 : Op.ArgPs w ma m mc) (h1 : Op.ArgE w es et ea en ec) :
    Calls Try.prog 8 #[.slice ma m mc, .agg #[.string es, .int .i64 et, .slice ea en ec]] w fun e w' => e = .returned (.bool true) ∧ Below w.heap.size w w' := by
  obtain ⟨k, hkm, hM⟩ := h0
  obtain ⟨v, hvn, hV, hz⟩ := h1
  have hl : k.length ≤ 9223372036854775807 := slPr_len hM
  have hB := fun W (hW : Below w.heap.size w W) => PrsFew_any k ma mc W (hM.kept hW)
  have hTl := fun W (hW : Below w.heap.size w W) hq => Told_any k ⟨es, -1, v⟩ ma mc ea ec W (hM.kept hW) (hV.kept hW) ⟨hz.1, (show (-9223372036854775808 : Int) ≤ -1 from by decide), (show (-1 : Int) ≤ 9223372036854775807 from by decide)⟩ hq
  have hq2 : PrsFew k → k.length ≤ 100000000 := fun h => by have := h.1; omega
  have hbad := fun j => @told_bad k es v j
  have htl := told_len k ⟨es, -1, v⟩
  unfold ToldB at hTl
  rw [hkm] at hl htl
  simp only [hkm, hvn] at hB hTl hq2 hbad
  obtain ⟨T, hTd⟩ : ∃ T, T = told k ⟨es, -1, v⟩ := ⟨_, rfl⟩
  simp only [← hTd] at hTl hbad htl
  obtain ⟨b2, hb2⟩ : ∃ b, b = decide (PrsFew k) := ⟨_, rfl⟩
  simp only [← hb2] at hB
  have HQ2 := Lib.hid (fun h : b2 = true => hq2 (of_decide_eq_true (hb2.symm.trans h)))
  have HB' := Lib.hid hB
  have HTl := Lib.hid hTl
  have HBad := Lib.hid hbad
  have HTn := Lib.hid htl
  have HM := Lib.hid hM
  have HKm := Lib.hid hkm
  have hx2 := bx_new_t w 29 (.string es) (.int .i64 et) (.slice ea en ec)
  have HY0 := Lib.hid hx2
  have HB0 := Lib.hid ((Below.refl w.heap.size w).alloc (Nat.le_refl _) (.cells #[.string es, .int .i64 et, .slice ea en ec] 29))
  clear hx2 hB hTl hq2 hbad htl hb2 hTd hM hV hz hkm hvn
  go_enter Try.func8, Try.ntmps8
  go_wp2_with fail
  refine (awake_any _).mono ?_
  rintro e w1 ⟨rfl, hb⟩
  have HB1 := Lib.hid (bt HB0.out hb)
  have HY1 := Lib.hid (HY0.out.kept hb)
  clear hb HB0 HY0
  go_wp2_with fail
  refine (HB'.out _ HB1.out).mono ?_
  rintro e w2 ⟨rfl, hb⟩
  have HB2 := Lib.hid (bt HB1.out hb)
  have HY2 := Lib.hid (HY1.out.kept hb)
  clear hb HB1 HY1 HB'
  have HY3 := Lib.hid (bx_set1 HY2.out (.int .i64 (-1)))
  have HB3 := Lib.hid (HB2.out.setCell (p := ⟨w.heap.size, 1, none⟩) (Nat.le_refl _) (.int .i64 (-1)))
  obtain ⟨⟨q0, q1, q2⟩, f0, f1, f2⟩ := HY2.out
  cases b2 with
  | false =>
    go_wp2_with fail
    go_ret
    exact ⟨ret_v (x := .bool true) rfl, HB3.out⟩
  | true =>
    obtain ⟨w3, hw3⟩ : ∃ w3, w3 = w2.setCell ⟨w.heap.size, 1, none⟩ (.int .i64 (-1)) := ⟨_, rfl⟩
    rw [← hw3] at HY3 HB3
    obtain ⟨⟨y0, y1, y2⟩, yf⟩ := HY3.out
    clear yf
    rw [hw3] at y0 y1 y2
    have hn9 := HQ2.out (by trivial)
    have HW3 := Lib.hid hw3
    clear hw3
    go_wp2_with fail
    rw [← HW3.out]
    refine (HTl.out _ HB3.out hn9).mono ?_
    rintro e w4 ⟨A4, c4, rfl, hs4, hb⟩
    have HB4 := Lib.hid (bt HB3.out hb)
    have HY4 := Lib.hid (HY3.out.kept hb)
    have HS4 := Lib.hid hs4
    clear hb hs4 HB3 HY3 HB2 HY2 HTl q0 q1 q2 f0 f1 f2 y0 y1 y2 HW3 w3
    go_wp2_with fail
    go_loopw [8] (fun i wr => ∃ j : Nat, i = .int .i64 (j : Int) ∧ j ≤ m ∧ Below w4.heap.size w4 wr) (fun i _ => m - (intOf i).toNat)
    case atStart => exact ⟨0, rfl, Nat.zero_le _, Below.refl _ _⟩
    case round =>
      obtain ⟨j, rfl, hj, hbel⟩ := hrel
      have HBl := Lib.hid hbel
      clear hbel
      by_cases hjn : j < m
      · obtain ⟨b1, q1, A1, c1, hix, hc, _⟩ := HM.out.at j (by rw [HKm.out]; exact hjn)
        obtain ⟨b3, q3, hix3, hc3⟩ := HS4.out.at j (by rw [HTn.out]; exact hjn)
        have hi := fun W => hix W m mc hjn
        have hi3 := fun W => hix3 W m c4 hjn
        have hbj := HBad.out j hjn
        obtain ⟨V, hVd⟩ : ∃ V, V = T.getD j false := ⟨_, rfl⟩
        simp only [← hVd] at hc3
        rw [← hVd] at hbj
        obtain ⟨x, hx⟩ : ∃ x, x = k.getD j p0 := ⟨_, rfl⟩
        have hcw := fun W (h : Below w4.heap.size w4 W) => (hc W (bt HB4.out h)).1
        simp only [← hx] at hcw hbj
        obtain ⟨xs, xf⟩ := x
        unfold CellPr at hcw
        simp only at hcw hbj
        obtain ⟨k1, hk1⟩ : ∃ n, n = xf.length := ⟨_, rfl⟩
        simp only [← hk1] at hcw hbj
        obtain ⟨z, hzz⟩ : ∃ z, (xs.toList == es.toList) = z := ⟨_, rfl⟩
        have hz' : decide (xs = es) = z := by rw [← hzz, toList_beq]
        rw [hz'] at hbj
        have HCw := Lib.hid hcw
        have HC3 := Lib.hid hc3
        have hways : (z = false ∧ V = false) ∨ (z = true ∧ k1 = 0 ∧ V = true) ∨ (z = true ∧ ((k1 : Int) == 0) = false ∧ V = false) := by
          cases z with
          | false => exact .inl ⟨rfl, hbj⟩
          | true =>
            by_cases h0 : k1 = 0
            · exact .inr (.inl ⟨rfl, h0, by rw [hbj, decide_eq_true h0]; rfl⟩)
            · exact .inr (.inr ⟨rfl, by rw [beq_eq_false_iff_ne]; omega, by rw [hbj, decide_eq_false h0]; rfl⟩)
        clear hix hix3 hc hc3 hVd hx hcw hk1 hz' hbj
        go_wp2_with fail
        rcases hways with ⟨rfl, rfl⟩ | ⟨rfl, rfl, rfl⟩ | ⟨rfl, hk0, rfl⟩
        all_goals
          refine Reg.G_start (by kernel_rfl) (by repeat (first | with_reducible exact Reg.frameless_bodyPost | with_reducible refine Reg.frameless_then ?_ | with_reducible refine Reg.frameless_inBlock ?_ | refine Reg.frameless_then ?_ | refine Reg.frameless_inBlock ?_)) (fun W hW => ?_)
          obtain ⟨⟨g0, g1, g2⟩, _⟩ := HY4.out.kept (bt HBl.out hW)
          have x0 := Reg.later_cell (Below.refl _ W) (HCw.out W (bt HBl.out hW)).1
          have x1 := Reg.later_cell (Below.refl _ W) (HCw.out W (bt HBl.out hW)).2
          have x3 := Reg.later_cell (Below.refl _ W) (HC3.out W (bt HBl.out hW))
          have y0 := Reg.later_cell (Below.refl _ W) g0
          clear g0 g1 g2
          first | (refine Reg.G_step (i := 0) rfl (by kernel_rfl) (by rfl) (fun K hK => ?_); go_big_quiet_op; refine hK _ ?_; clear hK K) | (refine Reg.G_skip (i := 0) rfl (by kernel_rfl) (by rfl) ?_; simp only [Act.put, List.setIfInBounds_toArray, List.set_cons_zero, List.set_cons_succ])
          first | (refine Reg.G_step (i := 1) rfl (by kernel_rfl) (by rfl) (fun K hK => ?_); go_big_quiet_op; refine hK _ ?_; clear hK K) | (refine Reg.G_skip (i := 1) rfl (by kernel_rfl) (by rfl) ?_; simp only [Act.put, List.setIfInBounds_toArray, List.set_cons_zero, List.set_cons_succ])
          first | (refine Reg.G_step (i := 2) rfl (by kernel_rfl) (by rfl) (fun K hK => ?_); go_big_quiet_op; refine hK _ ?_; clear hK K) | (refine Reg.G_skip (i := 2) rfl (by kernel_rfl) (by rfl) ?_; simp only [Act.put, List.setIfInBounds_toArray, List.set_cons_zero, List.set_cons_succ])
          first | (refine Reg.G_step (i := 3) rfl (by kernel_rfl) (by rfl) (fun K hK => ?_); go_big_quiet_op; refine hK _ ?_; clear hK K) | (refine Reg.G_skip (i := 3) rfl (by kernel_rfl) (by rfl) ?_; simp only [Act.put, List.setIfInBounds_toArray, List.set_cons_zero, List.set_cons_succ])
          first | (refine Reg.G_step (i := 4) rfl (by kernel_rfl) (by rfl) (fun K hK => ?_); go_big_quiet_op; refine hK _ ?_; clear hK K) | (refine Reg.G_skip (i := 4) rfl (by kernel_rfl) (by rfl) ?_; simp only [Act.put, List.setIfInBounds_toArray, List.set_cons_zero, List.set_cons_succ])
          first | (refine Reg.G_step (i := 5) rfl (by kernel_rfl) (by rfl) (fun K hK => ?_); go_big_quiet_op; refine hK _ ?_; clear hK K) | (refine Reg.G_skip (i := 5) rfl (by kernel_rfl) (by rfl) ?_; simp only [Act.put, List.setIfInBounds_toArray, List.set_cons_zero, List.set_cons_succ])
          first | (refine Reg.G_step (i := 6) rfl (by kernel_rfl) (by rfl) (fun K hK => ?_); go_big_quiet_op; refine hK _ ?_; clear hK K) | (refine Reg.G_skip (i := 6) rfl (by kernel_rfl) (by rfl) ?_; simp only [Act.put, List.setIfInBounds_toArray, List.set_cons_zero, List.set_cons_succ])
          first | (refine Reg.G_step (i := 7) rfl (by kernel_rfl) (by rfl) (fun K hK => ?_); go_big_quiet_op; refine hK _ ?_; clear hK K) | (refine Reg.G_skip (i := 7) rfl (by kernel_rfl) (by rfl) ?_; simp only [Act.put, List.setIfInBounds_toArray, List.set_cons_zero, List.set_cons_succ])
          first | (refine Reg.G_step (i := 8) rfl (by kernel_rfl) (by rfl) (fun K hK => ?_); go_big_quiet_op; refine hK _ ?_; clear hK K) | (refine Reg.G_skip (i := 8) rfl (by kernel_rfl) (by rfl) ?_; simp only [Act.put, List.setIfInBounds_toArray, List.set_cons_zero, List.set_cons_succ])
          first | (refine Reg.G_step (i := 9) rfl (by kernel_rfl) (by rfl) (fun K hK => ?_); go_big_quiet_op; refine hK _ ?_; clear hK K) | (refine Reg.G_skip (i := 9) rfl (by kernel_rfl) (by rfl) ?_; simp only [Act.put, List.setIfInBounds_toArray, List.set_cons_zero, List.set_cons_succ])
          first | (refine Reg.G_step (i := 10) rfl (by kernel_rfl) (by rfl) (fun K hK => ?_); go_big_quiet_op; refine hK _ ?_; clear hK K) | (refine Reg.G_skip (i := 10) rfl (by kernel_rfl) (by rfl) ?_; simp only [Act.put, List.setIfInBounds_toArray, List.set_cons_zero, List.set_cons_succ])
          first | (refine Reg.G_step (i := 11) rfl (by kernel_rfl) (by rfl) (fun K hK => ?_); go_big_quiet_op; refine hK _ ?_; clear hK K) | (refine Reg.G_skip (i := 11) rfl (by kernel_rfl) (by rfl) ?_; simp only [Act.put, List.setIfInBounds_toArray, List.set_cons_zero, List.set_cons_succ])
          first | (refine Reg.G_step (i := 12) rfl (by kernel_rfl) (by rfl) (fun K hK => ?_); go_big_quiet_op; refine hK _ ?_; clear hK K) | (refine Reg.G_skip (i := 12) rfl (by kernel_rfl) (by rfl) ?_; simp only [Act.put, List.setIfInBounds_toArray, List.set_cons_zero, List.set_cons_succ])
          first | (refine Reg.G_step (i := 13) rfl (by kernel_rfl) (by rfl) (fun K hK => ?_); go_big_quiet_op; refine hK _ ?_; clear hK K) | (refine Reg.G_skip (i := 13) rfl (by kernel_rfl) (by rfl) ?_; simp only [Act.put, List.setIfInBounds_toArray, List.set_cons_zero, List.set_cons_succ])
          first | (refine Reg.G_step (i := 14) rfl (by kernel_rfl) (by rfl) (fun K hK => ?_); go_big_quiet_op; refine hK _ ?_; clear hK K) | (refine Reg.G_skip (i := 14) rfl (by kernel_rfl) (by rfl) ?_; simp only [Act.put, List.setIfInBounds_toArray, List.set_cons_zero, List.set_cons_succ])
          first | (refine Reg.G_step (i := 15) rfl (by kernel_rfl) (by rfl) (fun K hK => ?_); go_big_quiet_op; refine hK _ ?_; clear hK K) | (refine Reg.G_skip (i := 15) rfl (by kernel_rfl) (by rfl) ?_; simp only [Act.put, List.setIfInBounds_toArray, List.set_cons_zero, List.set_cons_succ])
          first | (refine Reg.G_step (i := 16) rfl (by kernel_rfl) (by rfl) (fun K hK => ?_); go_big_quiet_op; refine hK _ ?_; clear hK K) | (refine Reg.G_skip (i := 16) rfl (by kernel_rfl) (by rfl) ?_; simp only [Act.put, List.setIfInBounds_toArray, List.set_cons_zero, List.set_cons_succ])
          first | (refine Reg.G_step (i := 17) rfl (by kernel_rfl) (by rfl) (fun K hK => ?_); go_big_quiet_op; refine hK _ ?_; clear hK K) | (refine Reg.G_skip (i := 17) rfl (by kernel_rfl) (by rfl) ?_; simp only [Act.put, List.setIfInBounds_toArray, List.set_cons_zero, List.set_cons_succ])
          first | (refine Reg.G_step (i := 18) rfl (by kernel_rfl) (by rfl) (fun K hK => ?_); go_big_quiet_op; refine hK _ ?_; clear hK K) | (refine Reg.G_skip (i := 18) rfl (by kernel_rfl) (by rfl) ?_; simp only [Act.put, List.setIfInBounds_toArray, List.set_cons_zero, List.set_cons_succ])
          first | (refine Reg.G_step (i := 19) rfl (by kernel_rfl) (by rfl) (fun K hK => ?_); go_big_quiet_op; refine hK _ ?_; clear hK K) | (refine Reg.G_skip (i := 19) rfl (by kernel_rfl) (by rfl) ?_; simp only [Act.put, List.setIfInBounds_toArray, List.set_cons_zero, List.set_cons_succ])
          first | (refine Reg.G_step (i := 20) rfl (by kernel_rfl) (by rfl) (fun K hK => ?_); go_big_quiet_op; refine hK _ ?_; clear hK K) | (refine Reg.G_skip (i := 20) rfl (by kernel_rfl) (by rfl) ?_; simp only [Act.put, List.setIfInBounds_toArray, List.set_cons_zero, List.set_cons_succ])
          first | (refine Reg.G_step (i := 21) rfl (by kernel_rfl) (by rfl) (fun K hK => ?_); go_big_quiet_op; refine hK _ ?_; clear hK K) | (refine Reg.G_skip (i := 21) rfl (by kernel_rfl) (by rfl) ?_; simp only [Act.put, List.setIfInBounds_toArray, List.set_cons_zero, List.set_cons_succ])
          refine Reg.G_done rfl ?_
          have HBn := Lib.hid (bt HBl.out hW)
          clear x0 x1 x3 y0 hW
          go_wp2_with fail
          go_roundw
          case rel => exact ⟨j + 1, by go_num, by omega, HBn.out⟩
          case measure => simp [intOf]; omega
      · obtain rfl : j = m := by omega
        go_wp2_with fail
        go_ret
        exact ⟨ret_v (x := .bool true) rfl, bt HB4.out HBl.out⟩
end Go.Proofs.Ytochpomddfjkoaa.Ix

namespace Go.Proofs.Ytochpomddfjkoaa.indexTold
open Go.ChangeShapes Go.WideShapes Go.ChangeAt Go.RowKit

theorem own : ownKnob Try.prog.godebug = none := by kernel_rfl
theorem laidOut : laidOutB Try.prog = true := by kernel_rfl

set_option maxRecDepth 100000 in
theorem lifted (os : Os) (started : os.Started) (H : Type) (enc : TypeId × Value → H) :
    ReturnsInHanded {} Try.checked os 8 .any (Rows.indexToldSpec.pre6 enc Try.prog Try.f8 Rows.indexToldRow.domain false) (Rows.indexToldSpec.post enc Try.prog Try.f8 false true false false) := by
  refine returnsInHanded_of_change (C := Try.checked) own started (by kernel_rfl) Try.func8
    (ChangeSpec.witness6 (enc := enc) (C := Try.checked) false ⟨#[], #[.slice none 0 0, .agg #[.string ⟨#[]⟩, .int .i64 0, .slice none 0 0]], []⟩ 8 (by kernel_rfl) (by kernel_rfl) (by kernel_rfl) (by kernel_rfl)) ?_
  intro W base args ds gs before hval0 hW hcnd _
  have hval : ∀ (j : Nat) t v, Try.f8.params[j]? = some t → args[j]? = some v → Value.okWide Try.prog W .any base t v := hval0
  have hW' := hW
  obtain ⟨p, q, hA0, hV, rfl, hfz, hnd⟩ := hW
  have hA : DataW.TrodAll enc Try.prog W 0 (fun _ => true) true Try.f8.params.toList args.toList ds p := hA0
  rw [Try.params8] at hA hval
  obtain ⟨v0, vs0, d0, ds0, p0, q0, hargs, rfl, rfl, h0, r0⟩ := trodAll_cons hA
  obtain ⟨v1, vs1, d1, ds1, p1, q1, rfl, rfl, rfl, h1, r1⟩ := trodAll_cons r0
  obtain ⟨rfl, rfl, rfl⟩ := trodAll_nil r1
  obtain rfl : args = #[v0, v1] := by cases args; simp_all
  obtain ⟨rfl, rfl⟩ := trodVars_none hV
  have k0 := h0
  have lt0 : ∀ x ∈ p0, x.block < W.heap.size := by obtain ⟨m, hm⟩ := k0; exact DataW.trod_lt m _ _ _ hm
  obtain ⟨a0, len0, cap0, rfl, w0⟩ := Op.open_preds (hval 0 23 v0 rfl rfl) h0
  have k1 := h1
  have lt1 : ∀ x ∈ p1, x.block < W.heap.size := by obtain ⟨m, hm⟩ := k1; exact DataW.trod_lt m _ _ _ hm
  obtain ⟨ss1, nn1, a1, len1, cap1, rfl, w1⟩ := Op.open_event (hval 1 29 v1 rfl rfl) h1
  clear hA0 hval0
  refine (Go.Proofs.Ytochpomddfjkoaa.Ix.told_walk a0 len0 cap0 ss1 nn1 a1 len1 cap1 W w0 w1).mono fun e W' ⟨he, bel⟩ => ?_
  subst he
  exact ⟨_, rfl, _, _, _, [], _, [], hW', trodAll_mk1 (shut_bool Try.underlying4 _), (trodAll_cons_mk (Below.trod laidOut (by kernel_rfl) (of_decide_eq_true (by kernel_rfl)) k0 bel lt0) (trodAll_cons_mk (Below.trod laidOut (by kernel_rfl) (of_decide_eq_true (by kernel_rfl)) k1 bel lt1) trodAll_mk0)), rfl, bel.frame _, fun h => by cases h⟩

theorem over : Rows.indexToldRow.holds Try.pinned (OpenSpec.ofChange Rows.indexToldSpec) :=
  OpenClaim.holds_of_wide 8 Try.f8 rfl rfl rfl rfl rfl rfl rfl ⟨rfl, rfl, rfl, rfl, rfl⟩ rfl rfl rfl rfl rfl (by kernel_rfl) Try.func8 (by kernel_rfl)
    (of_decide_eq_true (by kernel_rfl)) (by unfold Func.isWrapper; first | (rw [if_pos (by decide +kernel)]; kernel_rfl) | (rw [if_neg (by decide +kernel)]; exact ⟨rfl, rfl⟩))
    (fun os started H enc _ => lifted os started H enc)

theorem proved : Rows.IndexToldSaid := over
#print axioms proved
end Go.Proofs.Ytochpomddfjkoaa.indexTold
