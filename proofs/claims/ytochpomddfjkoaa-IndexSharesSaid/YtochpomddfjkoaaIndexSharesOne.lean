/- IndexShares: for every input the law returns true, and each argument reads afterwards as it read before. No condition.
  The walk is the theorem Go.Proofs.Ytochpomddfjkoaa.Ix.shares_walk. -/
import Derived.Test.YtochpomddfjkoaaChB
import Derived.Test.YtochpomddfjkoaaRows
import Derived.WalkKit
import Derived.ProofKit
import Derived.OpenShut
import Derived.ShutString
import Derived.ChangeOld
import Derived.Below

namespace Go.Proofs.Ytochpomddfjkoaa.Ix
open Go.RowKit Go.Proofs.Ytochpomddfjkoaa.BM Go.Proofs.Ytochpomddfjkoaa.LM Go.Proofs.Ytochpomddfjkoaa.VaM Go.Proofs.Ytochpomddfjkoaa.ExM Go.Proofs.Ytochpomddfjkoaa.QyM Go.Proofs.Ytochpomddfjkoaa.IxM
open Go.Proofs.Ytochpomddfjkoaa.Ex (SlO slO_none)
open Go.Proofs.Ytochpomddfjkoaa.Va (SlV slV_len Bx bx_new_t ret_v toList_beq)
open Go.Proofs.Ytochpomddfjkoaa.Qy (SlQ slQ_len SlSt slSt_len CellQ CellSt slO_lt bx7)
open Go.Proofs.Ytochpomddfjkoaa.Bo (SlBo)
open Go.Proofs.Ytochpomddfjkoaa.EvM (Ev)

theorem told_at {l : List Pr} {e : Ev} {i : Nat} (hi : i < l.length) : (told l e).getD i false = holdsP (l.getD i p0) e := by
  unfold told
  rw [List.getD_eq_getElem?_getD, List.getElem?_map, List.getElem?_eq_getElem hi, List.getD_eq_getElem?_getD, List.getElem?_eq_getElem hi]
  rfl
/-- What a step asks is found, and told. -/
theorem shares_at {l : List Q} {e : Ev} {i j : Nat} (hi : i < l.length) (hj : j < (l.getD i q0).p.length) {p : Pr} (hp : p ∈ askSt ((l.getD i q0).p.getD j t0)) :
    ∃ k, k < (all l).length ∧ find (all l) p = (k : Nat) ∧ (told (all l) e).getD k false = (decide (p.s = e.s) && holds e p.f) := by
  have hm : p ∈ all l := by
    unfold all
    rw [mem_pushes]
    exact .inr (asked_mem hi hj hp)
  obtain ⟨k, h1, h2, h3⟩ := find_in hm
  exact ⟨k, h1, h2, by rw [told_at h1, h3]; rfl⟩

set_option maxRecDepth 100000 in
set_option maxHeartbeats 16000000 in
theorem shares_walk (la : Option Addr) (n lc : Nat) (es : ByteArray) (et : Int) (ea : Option Addr) (en ec : Nat) (a s : Int) (w : World) (h0 : Op.ArgQs w la n lc) (h1 : Op.ArgE w es et ea en ec) (_h2 : (Lit.int .i64 a).wf = true) (_h3 : (Lit.int .i64 s).wf = true) :
    Calls Try.prog 4 #[.slice la n lc, .agg #[.string es, .int .i64 et, .slice ea en ec], .int .i64 a, .int .i64 s] w fun e w' => e = .returned (.bool true) ∧ Below w.heap.size w w' := by
  obtain ⟨l, hln, hL⟩ := h0
  obtain ⟨v, hvn, hV, hz⟩ := h1
  have hl := slQ_len hL
  have hA := fun W (hW : Below w.heap.size w W) => QsFew_any l la lc W (hL.kept hW)
  have hC := fun W (hW : Below w.heap.size w W) => Ev.Few_any ⟨es, et, v⟩ ea ec W (hV.kept hW) hz.1
  have hAl := fun W (hW : Below w.heap.size w W) (hq : Little l) => All_any l la lc W (hL.kept hW) hq.1 hq.2
  have hll : Little l → (all l).length ≤ 100000000 := fun hq => by
    have h1 := (pushes_len (l.flatMap askQ) []).2
    have h2 := hq.1
    unfold all
    simp only [List.length_nil] at h1
    omega
  have hTl := fun W A c (hW : Below w.heap.size w W) (h : SlPr W A (all l) c) hq => Told_any (all l) ⟨es, et, v⟩ A c ea ec W h (hV.kept hW) hz hq
  have hFl := fun p A c B d W (h : SlPr W A (all l) c) (h' : SlO W B p.f d) => Find_any (all l) p A c B d W h h'
  have hHo := fun f B d W (hW : Below w.heap.size w W) (h : SlO W B f d) => Ex.Holds_any ⟨es, et, v⟩ f ea ec B d W (hV.kept hW) hz h
  have hself := fun k => @find_self (all l) (all_nodup l) k
  have hsh := fun i j => @shares_at l ⟨es, et, v⟩ i j
  have htl := told_len (all l) ⟨es, et, v⟩
  have hq1 : QsFew l → Little l := fun h => asks_few h
  unfold ToldB at hTl
  unfold AllB at hAl
  unfold agPr at hFl
  rw [hln] at hl
  simp only [hln, hvn] at hA hC hAl hTl hHo hsh
  obtain ⟨L, hLd⟩ : ∃ L, L = all l := ⟨_, rfl⟩
  simp only [← hLd] at hAl hll hTl hFl hself hsh htl
  obtain ⟨Ln, hLn⟩ : ∃ n, n = L.length := ⟨_, rfl⟩
  simp only [← hLn] at hAl hll hTl hFl hself hsh htl
  obtain ⟨T, hTd⟩ : ∃ T, T = told L ⟨es, et, v⟩ := ⟨_, rfl⟩
  simp only [← hTd] at hTl hsh htl
  obtain ⟨G, hG⟩ : ∃ G, G = holds ⟨es, et, v⟩ := ⟨_, rfl⟩
  simp only [← hG] at hHo hsh
  obtain ⟨b1, hb1⟩ : ∃ b, b = decide (QsFew l) := ⟨_, rfl⟩
  obtain ⟨b3, hb3⟩ : ∃ b, b = decide (Ev.Few ⟨es, et, v⟩) := ⟨_, rfl⟩
  simp only [← hb1] at hA
  simp only [← hb3] at hC
  have HQ1 := Lib.hid (fun h : b1 = true => hq1 (of_decide_eq_true (hb1.symm.trans h)))
  have HA := Lib.hid hA
  have HC := Lib.hid hC
  have HAl := Lib.hid hAl
  have HLl := Lib.hid hll
  have HTl := Lib.hid hTl
  have HFl := Lib.hid hFl
  have HHo := Lib.hid hHo
  have HSelf := Lib.hid hself
  have HSh := Lib.hid hsh
  have HTn := Lib.hid htl
  have HL := Lib.hid hL
  have HLm := Lib.hid hln
  have HLn := Lib.hid hLn
  have HY0 := Lib.hid (bx_new_t w 29 (.string es) (.int .i64 et) (.slice ea en ec))
  have HB0 := Lib.hid ((Below.refl w.heap.size w).alloc (Nat.le_refl _) (.cells #[.string es, .int .i64 et, .slice ea en ec] 29))
  clear hA hC hAl hll hTl hFl hHo hself hsh htl hq1 hb1 hb3 hLd hTd hG hL hV hz hln hvn hLn
  go_enter Try.func4, Try.ntmps4
  go_wp2_with fail
  refine (awake_any _).mono ?_
  rintro e w1 ⟨rfl, hb⟩
  have HB1 := Lib.hid (bt HB0.out hb)
  have HY1 := Lib.hid (HY0.out.kept hb)
  clear hb HB0 HY0
  go_wp2_with fail
  refine (HA.out _ HB1.out).mono ?_
  rintro e w2 ⟨rfl, hb⟩
  have HB2 := Lib.hid (bt HB1.out hb)
  have HY2 := Lib.hid (HY1.out.kept hb)
  clear hb HB1 HY1 HA
  obtain ⟨⟨g0, g1, g2⟩, _⟩ := HY2.out
  go_wp2_with fail
  refine (HC.out _ HB2.out).mono ?_
  rintro e w3 ⟨rfl, hb⟩
  have HB3 := Lib.hid (bt HB2.out hb)
  have HY3 := Lib.hid (HY2.out.kept hb)
  clear hb HB2 HY2 HC g0 g1 g2
  by_cases hpq : b1 = true ∧ b3 = true
  rotate_left
  · have hw : b1 = false ∨ (b1 = true ∧ b3 = false) := by
      revert hpq
      cases b1 <;> cases b3 <;> simp
    clear hpq
    rcases hw with rfl | ⟨rfl, rfl⟩
    all_goals
      go_wp2_with fail
      go_ret
      exact ⟨ret_v (x := .bool true) rfl, HB3.out⟩
  obtain ⟨rfl, rfl⟩ := hpq
  by_cases ha : a < 0
  · have hd : decide (a < 0) = true := decide_eq_true ha
    clear ha
    go_wp2_with fail
    go_ret
    exact ⟨ret_v (x := .bool true) rfl, HB3.out⟩
  obtain ⟨i0, rfl⟩ := Int.eq_ofNat_of_zero_le (Int.not_lt.1 ha)
  clear ha
  by_cases hin : i0 < n
  rotate_left
  · have hd : decide ((n : Int) ≤ (i0 : Int)) = true := by rw [decide_eq_true_iff]; omega
    have hd' : decide (n ≤ i0) = true := by rw [decide_eq_true_iff]; omega
    have hd0 : decide ((i0 : Int) < 0) = false := by rw [decide_eq_false_iff_not]; omega
    clear hin
    go_wp2_with fail
    go_ret
    exact ⟨ret_v (x := .bool true) rfl, HB3.out⟩
  have hd1 : decide ((n : Int) ≤ (i0 : Int)) = false := by rw [decide_eq_false_iff_not]; omega
  have hd1' : decide (n ≤ i0) = false := by rw [decide_eq_false_iff_not]; omega
  have hd0 : decide ((i0 : Int) < 0) = false := by rw [decide_eq_false_iff_not]; omega
  by_cases hs : s < 0
  · have hd : decide (s < 0) = true := decide_eq_true hs
    clear hs hin
    go_wp2_with fail
    go_ret
    exact ⟨ret_v (x := .bool true) rfl, HB3.out⟩
  obtain ⟨j0, rfl⟩ := Int.eq_ofNat_of_zero_le (Int.not_lt.1 hs)
  clear hs
  have hd2 : decide ((j0 : Int) < 0) = false := by rw [decide_eq_false_iff_not]; omega
  obtain ⟨b1, q1, A1, c1, hix, hc, _⟩ := HL.out.at i0 (by rw [HLm.out]; exact hin)
  have hi := fun W => hix W n lc hin
  have hshi := fun j => HSh.out i0 j hin
  obtain ⟨x, hx⟩ : ∃ x, x = l.getD i0 q0 := ⟨_, rfl⟩
  simp only [← hx] at hshi hc
  obtain ⟨qp, qw, qa, qi, qf⟩ := x
  simp only at hshi
  obtain ⟨m, hm⟩ : ∃ m, m = qp.length := ⟨_, rfl⟩
  have hcq := fun W (h : Below w.heap.size w W) => (hc W h).1
  have hsteps := (hc w (Below.refl _ _)).2
  unfold CellQ at hcq
  simp only [← hm] at hcq hsteps hshi
  have hml := slSt_len hsteps
  rw [← hm] at hml
  obtain ⟨r0, _, _, _, _⟩ := hcq w3 HB3.out
  by_cases hjm : j0 < m
  rotate_left
  · have hd : decide ((m : Int) ≤ (j0 : Int)) = true := by rw [decide_eq_true_iff]; omega
    have hd' : decide (m ≤ j0) = true := by rw [decide_eq_true_iff]; omega
    clear hix hc hx hcq hsteps hshi hjm hin hm
    go_wp2_with fail
    go_ret
    exact ⟨ret_v (x := .bool true) rfl, HB3.out⟩
  have hd3 : decide ((m : Int) ≤ (j0 : Int)) = false := by rw [decide_eq_false_iff_not]; omega
  have hd3' : decide (m ≤ j0) = false := by rw [decide_eq_false_iff_not]; omega
  have hshj := fun p => @hshi j0 hjm p
  obtain ⟨b2, q2, A2, c2, C2, d2, hix2, hc2, hfin⟩ := hsteps.at j0 (by rw [← hm]; exact hjm)
  have hi2 := fun W => hix2 W m c1 hjm
  obtain ⟨x, hx2⟩ : ∃ x, x = qp.getD j0 t0 := ⟨_, rfl⟩
  simp only [← hx2] at hshj hc2
  obtain ⟨ts, tf, mn, mx, tg, tt, th⟩ := x
  obtain ⟨n1, hn1⟩ : ∃ n, n = tf.length := ⟨_, rfl⟩
  obtain ⟨n2, hn2⟩ : ∃ n, n = th.length := ⟨_, rfl⟩
  have hcs := fun W (h : Below w.heap.size w W) => (hc2 W h).1
  have hso := (hc2 w (Below.refl _ _)).2.1
  have hsh2 := (hc2 w (Below.refl _ _)).2.2
  unfold CellSt at hcs
  simp only [← hn1, ← hn2] at hcs
  simp only at hso hsh2
  obtain ⟨k1, hk1, hk2, hk3⟩ := hshj ⟨ts, tf⟩ (by unfold askSt; exact List.mem_cons_self ..)
  have hother : tg = true → ∃ k, k < Ln ∧ find L ⟨tt, th⟩ = (k : Nat) ∧ T.getD k false = (decide (tt = es) && G th) := fun hg => hshj ⟨tt, th⟩ (by rw [askSt_2 hg]; simp)
  simp only at hk3
  have hF1 := fun A c W (hW : Below w.heap.size w W) (h : SlPr W A L c) => HFl.out ⟨ts, tf⟩ A c A2 c2 W h (hso.kept hW)
  have hF2 := fun A c W (hW : Below w.heap.size w W) (h : SlPr W A L c) => HFl.out ⟨tt, th⟩ A c C2 d2 W h (hsh2.kept hW)
  have hH1 := fun W (hW : Below w.heap.size w W) => HHo.out tf A2 c2 W hW (hso.kept hW)
  have hH2 := fun W (hW : Below w.heap.size w W) => HHo.out th C2 d2 W hW (hsh2.kept hW)
  simp only [← hn1] at hF1 hH1
  simp only [← hn2] at hF2 hH2
  rw [hk2] at hF1
  obtain ⟨z1, hz1⟩ : ∃ z, (ts.toList == es.toList) = z := ⟨_, rfl⟩
  have hz1' : decide (ts = es) = z1 := by rw [← hz1, toList_beq]
  obtain ⟨z2, hz2⟩ : ∃ z, (tt.toList == es.toList) = z := ⟨_, rfl⟩
  have hz2' : decide (tt = es) = z2 := by rw [← hz2, toList_beq]
  rw [hz1'] at hk3
  rw [hz2'] at hother
  obtain ⟨G1, hG1⟩ : ∃ g, g = G tf := ⟨_, rfl⟩
  obtain ⟨G2, hG2⟩ : ∃ g, g = G th := ⟨_, rfl⟩
  simp only [← hG1] at hH1 hk3
  simp only [← hG2] at hH2 hother
  have HF1 := Lib.hid hF1
  have HF2 := Lib.hid hF2
  have HH1 := Lib.hid hH1
  have HH2 := Lib.hid hH2
  have HK3 := Lib.hid hk3
  have HOther := Lib.hid hother
  have HCq := Lib.hid hcq
  have HCs := Lib.hid hcs
  have HAl4 := Lib.hid (HAl.out w3 HB3.out (HQ1.out (by trivial)))
  have HLl4 := Lib.hid (HLl.out (HQ1.out (by trivial)))
  clear hix hc hx hcq hsteps hshi hjm hin hm hix2 hc2 hfin hx2 hn1 hn2 hso hsh2 hshj hcs hk2 hk3 hother hF1 hF2 hH1 hH2 hz1' hz2' hG1 hG2 HAl HQ1 HSh HHo HL
  go_wp2_with fail
  refine HAl4.out.mono ?_
  rintro e w4 ⟨A4, c4, rfl, hs4, hb⟩
  have HB4 := Lib.hid (bt HB3.out hb)
  have HY4 := Lib.hid (HY3.out.kept hb)
  have HS4 := Lib.hid hs4
  clear hb hs4 HB3 HY3 r0 hd0 hd1 hd1' hd2 hd3 hd3' HAl4
  obtain ⟨⟨g0, g1, g2⟩, _⟩ := HY4.out
  go_wp2_with fail
  refine (HTl.out w4 A4 c4 HB4.out HS4.out HLl4.out).mono ?_
  rintro e w5 ⟨A5, c5, rfl, hs5, hb⟩
  have HB5 := Lib.hid (bt HB4.out hb)
  have HY5 := Lib.hid (HY4.out.kept hb)
  have HS5 := Lib.hid (HS4.out.kept hb)
  have HT5 := Lib.hid hs5
  have hLb : Ln ≤ 100000000 := HLl4.out
  clear hb hs5 HB4 HY4 HS4 g0 g1 g2 HTl HLl HLl4
  obtain ⟨r0, _, _, _, _⟩ := HCq.out w5 HB5.out
  obtain ⟨y0, y1, y2, y3, y4, y5, y6⟩ := HCs.out w5 HB5.out
  -- the step's block
  have hal := (Below.refl w5.heap.size w5).alloc (Nat.le_refl _) (.cells #[.string ts, .slice A2 n1 c2, .int .i64 mn, .int .i64 mx, .bool tg, .string tt, .slice C2 n2 d2] 47)
  have hN := RG.bxN_new w5 47 [.string ts, .slice A2 n1 c2, .int .i64 mn, .int .i64 mx, .bool tg, .string tt, .slice C2 n2 d2]
  obtain ⟨w6, hw6⟩ : ∃ W, W = w5.alloc (.cells #[.string ts, .slice A2 n1 c2, .int .i64 mn, .int .i64 mx, .bool tg, .string tt, .slice C2 n2 d2] 47) := ⟨_, rfl⟩
  rw [show (List.toArray [Value.string ts, .slice A2 n1 c2, .int .i64 mn, .int .i64 mx, .bool tg, .string tt, .slice C2 n2 d2]) = #[Value.string ts, .slice A2 n1 c2, .int .i64 mn, .int .i64 mx, .bool tg, .string tt, .slice C2 n2 d2] from rfl, ← hw6] at hN
  rw [← hw6] at hal
  have HB6 := Lib.hid (bt HB5.out hal)
  have HY6 := Lib.hid (HY5.out.kept hal)
  have HS6 := Lib.hid (HS5.out.kept hal)
  have HT6 := Lib.hid (HT5.out.kept hal)
  have HN6 := Lib.hid hN
  have v0 := (bx7 hN).1
  have v1 := (bx7 hN).2.1
  rw [hw6] at v0 v1
  have HW6 := Lib.hid hw6
  clear hal hN hw6 HB5 HY5 HS5 HT5
  go_wp2_with fail
  rw [← HW6.out]
  refine (HF1.out A4 c4 w6 HB6.out HS6.out).mono ?_
  rintro e w7 ⟨rfl, hb⟩
  have HB7 := Lib.hid (bt HB6.out hb)
  have HY7 := Lib.hid (HY6.out.kept hb)
  have HS7 := Lib.hid (HS6.out.kept hb)
  have HT7 := Lib.hid (HT6.out.kept hb)
  have HN7 := Lib.hid (RG.BxN.kept HN6.out hb)
  clear hb HB6 HY6 HS6 HT6 HN6 HW6 w6 v0 v1 y0 y1 y2 y3 y4 y5 y6 r0 hi hi2 HF1
  obtain ⟨b5, q5, hix5, hc5⟩ := HT7.out.at k1 (by rw [HTn.out]; exact hk1)
  have hi5 := fun W => hix5 W Ln c5 hk1
  have hk1' : decide (Ln ≤ k1) = false := by rw [decide_eq_false_iff_not]; omega
  have hk1'' : decide ((Ln : Int) ≤ (k1 : Int)) = false := by rw [decide_eq_false_iff_not]; omega
  have hk0 : decide ((k1 : Int) < 0) = false := by rw [decide_eq_false_iff_not]; omega
  rw [HK3.out] at hc5
  have e1 : (G1 != G1) = false := by simp
  have e2 : (G2 == G2) = true := by simp
  clear hix5
  cases z1
  case' false =>
    simp only [Bool.false_and] at hc5
    have HC5 := Lib.hid hc5
    clear hc5
    go_wp2_with fail
    refine Reg.G_start (by kernel_rfl) (by repeat (first | exact Reg.frameless_bodyPost | refine Reg.frameless_then ?_ | refine Reg.frameless_inBlock ?_)) (fun w8 hW => ?_)
    obtain ⟨⟨g0, g1, g2⟩, gf⟩ := HY7.out.kept hW
    have y0 := Reg.later_cell (Below.refl _ w8) g0
    have v0 := Reg.later_cell (Below.refl _ w8) (bx7 (RG.BxN.kept HN7.out hW)).1
    have x5 := Reg.later_cell (Below.refl _ w8) (HC5.out w8 hW)
    clear g0 g1 g2 gf
    first | (refine Reg.G_step (i := 0) rfl (by kernel_rfl) (by rfl) (fun K hK => ?_); go_big_quiet_op; refine hK _ ?_; clear hK K) | (refine Reg.G_skip (i := 0) rfl (by kernel_rfl) (by rfl) ?_; simp only [Act.put, List.setIfInBounds_toArray, List.set_cons_zero, List.set_cons_succ])
    first | (refine Reg.G_step (i := 1) rfl (by kernel_rfl) (by rfl) (fun K hK => ?_); go_big_quiet_op; refine hK _ ?_; clear hK K) | (refine Reg.G_skip (i := 1) rfl (by kernel_rfl) (by rfl) ?_; simp only [Act.put, List.setIfInBounds_toArray, List.set_cons_zero, List.set_cons_succ])
    first | (refine Reg.G_step (i := 2) rfl (by kernel_rfl) (by rfl) (fun K hK => ?_); go_big_quiet_op; refine hK _ ?_; clear hK K) | (refine Reg.G_skip (i := 2) rfl (by kernel_rfl) (by rfl) ?_; simp only [Act.put, List.setIfInBounds_toArray, List.set_cons_zero, List.set_cons_succ])
    first | (refine Reg.G_step (i := 3) rfl (by kernel_rfl) (by rfl) (fun K hK => ?_); go_big_quiet_op; refine hK _ ?_; clear hK K) | (refine Reg.G_skip (i := 3) rfl (by kernel_rfl) (by rfl) ?_; simp only [Act.put, List.setIfInBounds_toArray, List.set_cons_zero, List.set_cons_succ])
    first | (refine Reg.G_step (i := 4) rfl (by kernel_rfl) (by rfl) (fun K hK => ?_); go_big_quiet_op; refine hK _ ?_; clear hK K) | (refine Reg.G_skip (i := 4) rfl (by kernel_rfl) (by rfl) ?_; simp only [Act.put, List.setIfInBounds_toArray, List.set_cons_zero, List.set_cons_succ])
    first | (refine Reg.G_step (i := 5) rfl (by kernel_rfl) (by rfl) (fun K hK => ?_); go_big_quiet_op; refine hK _ ?_; clear hK K) | (refine Reg.G_skip (i := 5) rfl (by kernel_rfl) (by rfl) ?_; simp only [Act.put, List.setIfInBounds_toArray, List.set_cons_zero, List.set_cons_succ])
    first | (refine Reg.G_step (i := 6) rfl (by kernel_rfl) (by rfl) (fun K hK => ?_); go_big_quiet_op; refine hK _ ?_; clear hK K) | (refine Reg.G_skip (i := 6) rfl (by kernel_rfl) (by rfl) ?_; simp only [Act.put, List.setIfInBounds_toArray, List.set_cons_zero, List.set_cons_succ])
    first | (refine Reg.G_step (i := 7) rfl (by kernel_rfl) (by rfl) (fun K hK => ?_); go_big_quiet_op; refine hK _ ?_; clear hK K) | (refine Reg.G_skip (i := 7) rfl (by kernel_rfl) (by rfl) ?_; simp only [Act.put, List.setIfInBounds_toArray, List.set_cons_zero, List.set_cons_succ])
    first | (refine Reg.G_step (i := 8) rfl (by kernel_rfl) (by rfl) (fun K hK => ?_); go_big_quiet_op; refine hK _ ?_; clear hK K) | (refine Reg.G_skip (i := 8) rfl (by kernel_rfl) (by rfl) ?_; simp only [Act.put, List.setIfInBounds_toArray, List.set_cons_zero, List.set_cons_succ])
    first | (refine Reg.G_step (i := 9) rfl (by kernel_rfl) (by rfl) (fun K hK => ?_); go_big_quiet_op; refine hK _ ?_; clear hK K) | (refine Reg.G_skip (i := 9) rfl (by kernel_rfl) (by rfl) ?_; simp only [Act.put, List.setIfInBounds_toArray, List.set_cons_zero, List.set_cons_succ])
    first | (refine Reg.G_step (i := 10) rfl (by kernel_rfl) (by rfl) (fun K hK => ?_); go_big_quiet_op; refine hK _ ?_; clear hK K) | (refine Reg.G_skip (i := 10) rfl (by kernel_rfl) (by rfl) ?_; simp only [Act.put, List.setIfInBounds_toArray, List.set_cons_zero, List.set_cons_succ])
    first | (refine Reg.G_step (i := 11) rfl (by kernel_rfl) (by rfl) (fun K hK => ?_); go_big_quiet_op; refine hK _ ?_; clear hK K) | (refine Reg.G_skip (i := 11) rfl (by kernel_rfl) (by rfl) ?_; simp only [Act.put, List.setIfInBounds_toArray, List.set_cons_zero, List.set_cons_succ])
    first | (refine Reg.G_step (i := 12) rfl (by kernel_rfl) (by rfl) (fun K hK => ?_); go_big_quiet_op; refine hK _ ?_; clear hK K) | (refine Reg.G_skip (i := 12) rfl (by kernel_rfl) (by rfl) ?_; simp only [Act.put, List.setIfInBounds_toArray, List.set_cons_zero, List.set_cons_succ])
    first | (refine Reg.G_step (i := 13) rfl (by kernel_rfl) (by rfl) (fun K hK => ?_); go_big_quiet_op; refine hK _ ?_; clear hK K) | (refine Reg.G_skip (i := 13) rfl (by kernel_rfl) (by rfl) ?_; simp only [Act.put, List.setIfInBounds_toArray, List.set_cons_zero, List.set_cons_succ])
    first | (refine Reg.G_step (i := 14) rfl (by kernel_rfl) (by rfl) (fun K hK => ?_); go_big_quiet_op; refine hK _ ?_; clear hK K) | (refine Reg.G_skip (i := 14) rfl (by kernel_rfl) (by rfl) ?_; simp only [Act.put, List.setIfInBounds_toArray, List.set_cons_zero, List.set_cons_succ])
    first | (refine Reg.G_step (i := 15) rfl (by kernel_rfl) (by rfl) (fun K hK => ?_); go_big_quiet_op; refine hK _ ?_; clear hK K) | (refine Reg.G_skip (i := 15) rfl (by kernel_rfl) (by rfl) ?_; simp only [Act.put, List.setIfInBounds_toArray, List.set_cons_zero, List.set_cons_succ])
    first | (refine Reg.G_step (i := 16) rfl (by kernel_rfl) (by rfl) (fun K hK => ?_); go_big_quiet_op; refine hK _ ?_; clear hK K) | (refine Reg.G_skip (i := 16) rfl (by kernel_rfl) (by rfl) ?_; simp only [Act.put, List.setIfInBounds_toArray, List.set_cons_zero, List.set_cons_succ])
    first | (refine Reg.G_step (i := 17) rfl (by kernel_rfl) (by rfl) (fun K hK => ?_); go_big_quiet_op; refine hK _ ?_; clear hK K) | (refine Reg.G_skip (i := 17) rfl (by kernel_rfl) (by rfl) ?_; simp only [Act.put, List.setIfInBounds_toArray, List.set_cons_zero, List.set_cons_succ])
    first | (refine Reg.G_step (i := 18) rfl (by kernel_rfl) (by rfl) (fun K hK => ?_); go_big_quiet_op; refine hK _ ?_; clear hK K) | (refine Reg.G_skip (i := 18) rfl (by kernel_rfl) (by rfl) ?_; simp only [Act.put, List.setIfInBounds_toArray, List.set_cons_zero, List.set_cons_succ])
    first | (refine Reg.G_step (i := 19) rfl (by kernel_rfl) (by rfl) (fun K hK => ?_); go_big_quiet_op; refine hK _ ?_; clear hK K) | (refine Reg.G_skip (i := 19) rfl (by kernel_rfl) (by rfl) ?_; simp only [Act.put, List.setIfInBounds_toArray, List.set_cons_zero, List.set_cons_succ])
    first | (refine Reg.G_step (i := 20) rfl (by kernel_rfl) (by rfl) (fun K hK => ?_); go_big_quiet_op; refine hK _ ?_; clear hK K) | (refine Reg.G_skip (i := 20) rfl (by kernel_rfl) (by rfl) ?_; simp only [Act.put, List.setIfInBounds_toArray, List.set_cons_zero, List.set_cons_succ])
    first | (refine Reg.G_step (i := 21) rfl (by kernel_rfl) (by rfl) (fun K hK => ?_); go_big_quiet_op; refine hK _ ?_; clear hK K) | (refine Reg.G_skip (i := 21) rfl (by kernel_rfl) (by rfl) ?_; simp only [Act.put, List.setIfInBounds_toArray, List.set_cons_zero, List.set_cons_succ])
    first | (refine Reg.G_step (i := 22) rfl (by kernel_rfl) (by rfl) (fun K hK => ?_); go_big_quiet_op; refine hK _ ?_; clear hK K) | (refine Reg.G_skip (i := 22) rfl (by kernel_rfl) (by rfl) ?_; simp only [Act.put, List.setIfInBounds_toArray, List.set_cons_zero, List.set_cons_succ])
    first | (refine Reg.G_step (i := 23) rfl (by kernel_rfl) (by rfl) (fun K hK => ?_); go_big_quiet_op; refine hK _ ?_; clear hK K) | (refine Reg.G_skip (i := 23) rfl (by kernel_rfl) (by rfl) ?_; simp only [Act.put, List.setIfInBounds_toArray, List.set_cons_zero, List.set_cons_succ])
    first | (refine Reg.G_step (i := 24) rfl (by kernel_rfl) (by rfl) (fun K hK => ?_); go_big_quiet_op; refine hK _ ?_; clear hK K) | (refine Reg.G_skip (i := 24) rfl (by kernel_rfl) (by rfl) ?_; simp only [Act.put, List.setIfInBounds_toArray, List.set_cons_zero, List.set_cons_succ])
    first | (refine Reg.G_step (i := 25) rfl (by kernel_rfl) (by rfl) (fun K hK => ?_); go_big_quiet_op; refine hK _ ?_; clear hK K) | (refine Reg.G_skip (i := 25) rfl (by kernel_rfl) (by rfl) ?_; simp only [Act.put, List.setIfInBounds_toArray, List.set_cons_zero, List.set_cons_succ])
    first | (refine Reg.G_step (i := 26) rfl (by kernel_rfl) (by rfl) (fun K hK => ?_); go_big_quiet_op; refine hK _ ?_; clear hK K) | (refine Reg.G_skip (i := 26) rfl (by kernel_rfl) (by rfl) ?_; simp only [Act.put, List.setIfInBounds_toArray, List.set_cons_zero, List.set_cons_succ])
    first | (refine Reg.G_step (i := 27) rfl (by kernel_rfl) (by rfl) (fun K hK => ?_); go_big_quiet_op; refine hK _ ?_; clear hK K) | (refine Reg.G_skip (i := 27) rfl (by kernel_rfl) (by rfl) ?_; simp only [Act.put, List.setIfInBounds_toArray, List.set_cons_zero, List.set_cons_succ])
    first | (refine Reg.G_step (i := 28) rfl (by kernel_rfl) (by rfl) (fun K hK => ?_); go_big_quiet_op; refine hK _ ?_; clear hK K) | (refine Reg.G_skip (i := 28) rfl (by kernel_rfl) (by rfl) ?_; simp only [Act.put, List.setIfInBounds_toArray, List.set_cons_zero, List.set_cons_succ])
    refine Reg.G_skip (i := 29) rfl (by kernel_rfl) (by rfl) ?_
    simp only [Act.put, List.setIfInBounds_toArray, List.set_cons_zero, List.set_cons_succ]
    first | (refine Reg.G_step (i := 30) rfl (by kernel_rfl) (by rfl) (fun K hK => ?_); go_big_quiet_op; refine hK _ ?_; clear hK K) | (refine Reg.G_skip (i := 30) rfl (by kernel_rfl) (by rfl) ?_; simp only [Act.put, List.setIfInBounds_toArray, List.set_cons_zero, List.set_cons_succ])
    first | (refine Reg.G_step (i := 31) rfl (by kernel_rfl) (by rfl) (fun K hK => ?_); go_big_quiet_op; refine hK _ ?_; clear hK K) | (refine Reg.G_skip (i := 31) rfl (by kernel_rfl) (by rfl) ?_; simp only [Act.put, List.setIfInBounds_toArray, List.set_cons_zero, List.set_cons_succ])
    first | (refine Reg.G_step (i := 32) rfl (by kernel_rfl) (by rfl) (fun K hK => ?_); go_big_quiet_op; refine hK _ ?_; clear hK K) | (refine Reg.G_skip (i := 32) rfl (by kernel_rfl) (by rfl) ?_; simp only [Act.put, List.setIfInBounds_toArray, List.set_cons_zero, List.set_cons_succ])
    refine Reg.G_done rfl ?_
    have HB8 := Lib.hid (bt HB7.out hW)
    have HY8 := Lib.hid (HY7.out.kept hW)
    have HS8 := Lib.hid (HS7.out.kept hW)
    have HT8 := Lib.hid (HT7.out.kept hW)
    have HN8 := Lib.hid (RG.BxN.kept HN7.out hW)
    clear y0 v0 x5 hW HC5
  case' true =>
    simp only [Bool.true_and] at hc5
    have HC5 := Lib.hid hc5
    clear hc5
    go_wp2_with fail
    refine Reg.G_start (by kernel_rfl) (by repeat (first | exact Reg.frameless_bodyPost | refine Reg.frameless_then ?_ | refine Reg.frameless_inBlock ?_)) (fun W hW => ?_)
    obtain ⟨⟨g0, g1, g2⟩, gf⟩ := HY7.out.kept hW
    have y0 := Reg.later_cell (Below.refl _ W) g0
    have y1 := Reg.later_cell (Below.refl _ W) g1
    have y2 := Reg.later_cell (Below.refl _ W) g2
    have v0 := Reg.later_cell (Below.refl _ W) (bx7 (RG.BxN.kept HN7.out hW)).1
    have v1 := Reg.later_cell (Below.refl _ W) (bx7 (RG.BxN.kept HN7.out hW)).2.1
    have x5 := Reg.later_cell (Below.refl _ W) (HC5.out W hW)
    clear g0 g1 g2 gf
    first | (refine Reg.G_step (i := 0) rfl (by kernel_rfl) (by rfl) (fun K hK => ?_); go_big_quiet_op; refine hK _ ?_; clear hK K) | (refine Reg.G_skip (i := 0) rfl (by kernel_rfl) (by rfl) ?_; simp only [Act.put, List.setIfInBounds_toArray, List.set_cons_zero, List.set_cons_succ])
    first | (refine Reg.G_step (i := 1) rfl (by kernel_rfl) (by rfl) (fun K hK => ?_); go_big_quiet_op; refine hK _ ?_; clear hK K) | (refine Reg.G_skip (i := 1) rfl (by kernel_rfl) (by rfl) ?_; simp only [Act.put, List.setIfInBounds_toArray, List.set_cons_zero, List.set_cons_succ])
    first | (refine Reg.G_step (i := 2) rfl (by kernel_rfl) (by rfl) (fun K hK => ?_); go_big_quiet_op; refine hK _ ?_; clear hK K) | (refine Reg.G_skip (i := 2) rfl (by kernel_rfl) (by rfl) ?_; simp only [Act.put, List.setIfInBounds_toArray, List.set_cons_zero, List.set_cons_succ])
    first | (refine Reg.G_step (i := 3) rfl (by kernel_rfl) (by rfl) (fun K hK => ?_); go_big_quiet_op; refine hK _ ?_; clear hK K) | (refine Reg.G_skip (i := 3) rfl (by kernel_rfl) (by rfl) ?_; simp only [Act.put, List.setIfInBounds_toArray, List.set_cons_zero, List.set_cons_succ])
    first | (refine Reg.G_step (i := 4) rfl (by kernel_rfl) (by rfl) (fun K hK => ?_); go_big_quiet_op; refine hK _ ?_; clear hK K) | (refine Reg.G_skip (i := 4) rfl (by kernel_rfl) (by rfl) ?_; simp only [Act.put, List.setIfInBounds_toArray, List.set_cons_zero, List.set_cons_succ])
    first | (refine Reg.G_step (i := 5) rfl (by kernel_rfl) (by rfl) (fun K hK => ?_); go_big_quiet_op; refine hK _ ?_; clear hK K) | (refine Reg.G_skip (i := 5) rfl (by kernel_rfl) (by rfl) ?_; simp only [Act.put, List.setIfInBounds_toArray, List.set_cons_zero, List.set_cons_succ])
    first | (refine Reg.G_step (i := 6) rfl (by kernel_rfl) (by rfl) (fun K hK => ?_); go_big_quiet_op; refine hK _ ?_; clear hK K) | (refine Reg.G_skip (i := 6) rfl (by kernel_rfl) (by rfl) ?_; simp only [Act.put, List.setIfInBounds_toArray, List.set_cons_zero, List.set_cons_succ])
    first | (refine Reg.G_step (i := 7) rfl (by kernel_rfl) (by rfl) (fun K hK => ?_); go_big_quiet_op; refine hK _ ?_; clear hK K) | (refine Reg.G_skip (i := 7) rfl (by kernel_rfl) (by rfl) ?_; simp only [Act.put, List.setIfInBounds_toArray, List.set_cons_zero, List.set_cons_succ])
    first | (refine Reg.G_step (i := 8) rfl (by kernel_rfl) (by rfl) (fun K hK => ?_); go_big_quiet_op; refine hK _ ?_; clear hK K) | (refine Reg.G_skip (i := 8) rfl (by kernel_rfl) (by rfl) ?_; simp only [Act.put, List.setIfInBounds_toArray, List.set_cons_zero, List.set_cons_succ])
    first | (refine Reg.G_step (i := 9) rfl (by kernel_rfl) (by rfl) (fun K hK => ?_); go_big_quiet_op; refine hK _ ?_; clear hK K) | (refine Reg.G_skip (i := 9) rfl (by kernel_rfl) (by rfl) ?_; simp only [Act.put, List.setIfInBounds_toArray, List.set_cons_zero, List.set_cons_succ])
    first | (refine Reg.G_step (i := 10) rfl (by kernel_rfl) (by rfl) (fun K hK => ?_); go_big_quiet_op; refine hK _ ?_; clear hK K) | (refine Reg.G_skip (i := 10) rfl (by kernel_rfl) (by rfl) ?_; simp only [Act.put, List.setIfInBounds_toArray, List.set_cons_zero, List.set_cons_succ])
    first | (refine Reg.G_step (i := 11) rfl (by kernel_rfl) (by rfl) (fun K hK => ?_); go_big_quiet_op; refine hK _ ?_; clear hK K) | (refine Reg.G_skip (i := 11) rfl (by kernel_rfl) (by rfl) ?_; simp only [Act.put, List.setIfInBounds_toArray, List.set_cons_zero, List.set_cons_succ])
    first | (refine Reg.G_step (i := 12) rfl (by kernel_rfl) (by rfl) (fun K hK => ?_); go_big_quiet_op; refine hK _ ?_; clear hK K) | (refine Reg.G_skip (i := 12) rfl (by kernel_rfl) (by rfl) ?_; simp only [Act.put, List.setIfInBounds_toArray, List.set_cons_zero, List.set_cons_succ])
    first | (refine Reg.G_step (i := 13) rfl (by kernel_rfl) (by rfl) (fun K hK => ?_); go_big_quiet_op; refine hK _ ?_; clear hK K) | (refine Reg.G_skip (i := 13) rfl (by kernel_rfl) (by rfl) ?_; simp only [Act.put, List.setIfInBounds_toArray, List.set_cons_zero, List.set_cons_succ])
    first | (refine Reg.G_step (i := 14) rfl (by kernel_rfl) (by rfl) (fun K hK => ?_); go_big_quiet_op; refine hK _ ?_; clear hK K) | (refine Reg.G_skip (i := 14) rfl (by kernel_rfl) (by rfl) ?_; simp only [Act.put, List.setIfInBounds_toArray, List.set_cons_zero, List.set_cons_succ])
    first | (refine Reg.G_step (i := 15) rfl (by kernel_rfl) (by rfl) (fun K hK => ?_); go_big_quiet_op; refine hK _ ?_; clear hK K) | (refine Reg.G_skip (i := 15) rfl (by kernel_rfl) (by rfl) ?_; simp only [Act.put, List.setIfInBounds_toArray, List.set_cons_zero, List.set_cons_succ])
    first | (refine Reg.G_step (i := 16) rfl (by kernel_rfl) (by rfl) (fun K hK => ?_); go_big_quiet_op; refine hK _ ?_; clear hK K) | (refine Reg.G_skip (i := 16) rfl (by kernel_rfl) (by rfl) ?_; simp only [Act.put, List.setIfInBounds_toArray, List.set_cons_zero, List.set_cons_succ])
    first | (refine Reg.G_step (i := 17) rfl (by kernel_rfl) (by rfl) (fun K hK => ?_); go_big_quiet_op; refine hK _ ?_; clear hK K) | (refine Reg.G_skip (i := 17) rfl (by kernel_rfl) (by rfl) ?_; simp only [Act.put, List.setIfInBounds_toArray, List.set_cons_zero, List.set_cons_succ])
    first | (refine Reg.G_step (i := 18) rfl (by kernel_rfl) (by rfl) (fun K hK => ?_); go_big_quiet_op; refine hK _ ?_; clear hK K) | (refine Reg.G_skip (i := 18) rfl (by kernel_rfl) (by rfl) ?_; simp only [Act.put, List.setIfInBounds_toArray, List.set_cons_zero, List.set_cons_succ])
    first | (refine Reg.G_step (i := 19) rfl (by kernel_rfl) (by rfl) (fun K hK => ?_); go_big_quiet_op; refine hK _ ?_; clear hK K) | (refine Reg.G_skip (i := 19) rfl (by kernel_rfl) (by rfl) ?_; simp only [Act.put, List.setIfInBounds_toArray, List.set_cons_zero, List.set_cons_succ])
    first | (refine Reg.G_step (i := 20) rfl (by kernel_rfl) (by rfl) (fun K hK => ?_); go_big_quiet_op; refine hK _ ?_; clear hK K) | (refine Reg.G_skip (i := 20) rfl (by kernel_rfl) (by rfl) ?_; simp only [Act.put, List.setIfInBounds_toArray, List.set_cons_zero, List.set_cons_succ])
    first | (refine Reg.G_step (i := 21) rfl (by kernel_rfl) (by rfl) (fun K hK => ?_); go_big_quiet_op; refine hK _ ?_; clear hK K) | (refine Reg.G_skip (i := 21) rfl (by kernel_rfl) (by rfl) ?_; simp only [Act.put, List.setIfInBounds_toArray, List.set_cons_zero, List.set_cons_succ])
    first | (refine Reg.G_step (i := 22) rfl (by kernel_rfl) (by rfl) (fun K hK => ?_); go_big_quiet_op; refine hK _ ?_; clear hK K) | (refine Reg.G_skip (i := 22) rfl (by kernel_rfl) (by rfl) ?_; simp only [Act.put, List.setIfInBounds_toArray, List.set_cons_zero, List.set_cons_succ])
    first | (refine Reg.G_step (i := 23) rfl (by kernel_rfl) (by rfl) (fun K hK => ?_); go_big_quiet_op; refine hK _ ?_; clear hK K) | (refine Reg.G_skip (i := 23) rfl (by kernel_rfl) (by rfl) ?_; simp only [Act.put, List.setIfInBounds_toArray, List.set_cons_zero, List.set_cons_succ])
    first | (refine Reg.G_step (i := 24) rfl (by kernel_rfl) (by rfl) (fun K hK => ?_); go_big_quiet_op; refine hK _ ?_; clear hK K) | (refine Reg.G_skip (i := 24) rfl (by kernel_rfl) (by rfl) ?_; simp only [Act.put, List.setIfInBounds_toArray, List.set_cons_zero, List.set_cons_succ])
    first | (refine Reg.G_step (i := 25) rfl (by kernel_rfl) (by rfl) (fun K hK => ?_); go_big_quiet_op; refine hK _ ?_; clear hK K) | (refine Reg.G_skip (i := 25) rfl (by kernel_rfl) (by rfl) ?_; simp only [Act.put, List.setIfInBounds_toArray, List.set_cons_zero, List.set_cons_succ])
    first | (refine Reg.G_step (i := 26) rfl (by kernel_rfl) (by rfl) (fun K hK => ?_); go_big_quiet_op; refine hK _ ?_; clear hK K) | (refine Reg.G_skip (i := 26) rfl (by kernel_rfl) (by rfl) ?_; simp only [Act.put, List.setIfInBounds_toArray, List.set_cons_zero, List.set_cons_succ])
    first | (refine Reg.G_step (i := 27) rfl (by kernel_rfl) (by rfl) (fun K hK => ?_); go_big_quiet_op; refine hK _ ?_; clear hK K) | (refine Reg.G_skip (i := 27) rfl (by kernel_rfl) (by rfl) ?_; simp only [Act.put, List.setIfInBounds_toArray, List.set_cons_zero, List.set_cons_succ])
    first | (refine Reg.G_step (i := 28) rfl (by kernel_rfl) (by rfl) (fun K hK => ?_); go_big_quiet_op; refine hK _ ?_; clear hK K) | (refine Reg.G_skip (i := 28) rfl (by kernel_rfl) (by rfl) ?_; simp only [Act.put, List.setIfInBounds_toArray, List.set_cons_zero, List.set_cons_succ])
    refine Reg.G_event (i := 29) rfl (by kernel_rfl) (by rfl) (fun K hK => ?_)
    go_simp
    refine (HH1.out W (bt HB7.out hW)).mono ?_
    rintro e w8 ⟨rfl, hv⟩
    refine hK _ _ hv ?_
    clear hK K y0 y1 y2 v0 v1 x5
    have HW8 := Lib.hid (bt hW hv)
    clear hv
    first | (refine Reg.G_step (i := 30) rfl (by kernel_rfl) (by rfl) (fun K hK => ?_); go_big_quiet_op; refine hK _ ?_; clear hK K) | (refine Reg.G_skip (i := 30) rfl (by kernel_rfl) (by rfl) ?_; simp only [Act.put, List.setIfInBounds_toArray, List.set_cons_zero, List.set_cons_succ])
    first | (refine Reg.G_step (i := 31) rfl (by kernel_rfl) (by rfl) (fun K hK => ?_); go_big_quiet_op; refine hK _ ?_; clear hK K) | (refine Reg.G_skip (i := 31) rfl (by kernel_rfl) (by rfl) ?_; simp only [Act.put, List.setIfInBounds_toArray, List.set_cons_zero, List.set_cons_succ])
    first | (refine Reg.G_step (i := 32) rfl (by kernel_rfl) (by rfl) (fun K hK => ?_); go_big_quiet_op; refine hK _ ?_; clear hK K) | (refine Reg.G_skip (i := 32) rfl (by kernel_rfl) (by rfl) ?_; simp only [Act.put, List.setIfInBounds_toArray, List.set_cons_zero, List.set_cons_succ])
    refine Reg.G_done rfl ?_
    have HB8 := Lib.hid (bt HB7.out HW8.out)
    have HY8 := Lib.hid (HY7.out.kept HW8.out)
    have HS8 := Lib.hid (HS7.out.kept HW8.out)
    have HT8 := Lib.hid (HT7.out.kept HW8.out)
    have HN8 := Lib.hid (RG.BxN.kept HN7.out HW8.out)
    clear hW HC5 HW8
  all_goals
    clear HB7 HY7 HS7 HT7 HN7 hi5 hk1' hk1'' hk0 HK3 HH1 e1
    go_wp2_with fail
    go_loopw [16] (fun i wr => ∃ j : Nat, i = .int .i64 (j : Int) ∧ j ≤ Ln ∧ Below w8.heap.size w8 wr) (fun i _ => Ln - (intOf i).toNat)
    case atStart => exact ⟨0, rfl, Nat.zero_le _, Below.refl _ _⟩
    case round =>
      obtain ⟨j, rfl, hj, hbel⟩ := hrel
      have HBl := Lib.hid hbel
      clear hbel
      by_cases hjn : j < Ln
      · obtain ⟨b6, q6, A6, c6, hix6, hc6, _⟩ := HS8.out.at j (by rw [← HLn.out]; exact hjn)
        have hi6 := fun W => hix6 W Ln c4 hjn
        have hsf := HSelf.out j hjn
        obtain ⟨x, hx⟩ : ∃ x, x = L.getD j p0 := ⟨_, rfl⟩
        rw [← hx] at hc6 hsf
        obtain ⟨⟨x0, x1⟩, hso⟩ := hc6 wr HBl.out
        have hcl := HFl.out x A4 c4 A6 c6 wr (HS8.out.kept HBl.out) hso
        rw [hsf] at hcl
        obtain ⟨xs, xf⟩ := x
        simp only at hcl x0 x1
        obtain ⟨k6, hk6⟩ : ∃ k, k = xf.length := ⟨_, rfl⟩
        rw [← hk6] at hcl x1
        have HCl := Lib.hid hcl
        have HJn := Lib.hid hjn
        clear hix6 hc6 hsf hx hso hcl hk6
        go_wp2_with fail
        refine HCl.out.mono ?_
        rintro e w9 ⟨rfl, hb⟩
        have HB9 := Lib.hid (bt HBl.out hb)
        clear hb HCl x0 x1 hi6
        go_wp2_with fail
        go_roundw
        case rel => exact ⟨j + 1, by go_num, HJn.out, HB9.out⟩
        case measure =>
          have hjn := HJn.out
          simp [intOf]
          omega
      · obtain rfl : j = Ln := by omega
        clear hjn hj
        have HB9 := Lib.hid (bt HB8.out HBl.out)
        have HY9 := Lib.hid (HY8.out.kept HBl.out)
        have HS9 := Lib.hid (HS8.out.kept HBl.out)
        have HT9 := Lib.hid (HT8.out.kept HBl.out)
        have HN9 := Lib.hid (RG.BxN.kept HN8.out HBl.out)
        clear HB8 HY8 HS8 HT8 HN8 HBl
        have v4 := (bx7 HN9.out).2.2.2.2.1
        have v5 := (bx7 HN9.out).2.2.2.2.2.1
        have v6 := (bx7 HN9.out).2.2.2.2.2.2
        cases tg with
        | false =>
          go_wp2_with fail
          go_ret
          exact ⟨ret_v (x := .bool true) rfl, HB9.out⟩
        | true =>
          obtain ⟨k2, hk21, hk22, hk23⟩ := HOther.out rfl
          have hf2 := HF2.out A4 c4 wr HB9.out HS9.out
          rw [hk22] at hf2
          have HFi := Lib.hid hf2
          clear hf2 hk22
          go_wp2_with fail
          refine HFi.out.mono ?_
          rintro e w10 ⟨rfl, hb⟩
          have HB10 := Lib.hid (bt HB9.out hb)
          have HY10 := Lib.hid (HY9.out.kept hb)
          have HN10 := Lib.hid (RG.BxN.kept HN9.out hb)
          obtain ⟨b7, q7, hix7, hc7⟩ := (HT9.out.kept hb).at k2 (by rw [HTn.out]; exact hk21)
          have hi7 := fun W => hix7 W j c5 hk21
          have hk2a : decide (k2 < j) = true := by rw [decide_eq_true_iff]; exact hk21
          have hk2b : decide ((k2 : Int) < (j : Int)) = true := by rw [decide_eq_true_iff]; omega
          have hk2c : decide ((0 : Int) ≤ (k2 : Int)) = true := by rw [decide_eq_true_iff]; omega
          rw [hk23] at hc7
          clear hb HB9 HY9 HS9 HT9 HN9 HFi v4 v5 v6 hix7 hk23 hk21
          cases z2 with
          | false =>
            simp only [Bool.false_and] at hc7
            have HC7 := Lib.hid hc7
            clear hc7
            go_wp2_with fail
            refine Reg.G_start (by kernel_rfl) (by repeat (first | exact Reg.frameless_bodyPost | refine Reg.frameless_then ?_ | refine Reg.frameless_inBlock ?_)) (fun W hW => ?_)
            obtain ⟨⟨g0, g1, g2⟩, gf⟩ := HY10.out.kept hW
            have y0 := Reg.later_cell (Below.refl _ W) g0
            have v5 := Reg.later_cell (Below.refl _ W) (bx7 (RG.BxN.kept HN10.out hW)).2.2.2.2.2.1
            have x7 := Reg.later_cell (Below.refl _ W) (HC7.out W hW)
            clear g0 g1 g2 gf
            first | (refine Reg.G_step (i := 0) rfl (by kernel_rfl) (by rfl) (fun K hK => ?_); go_big_quiet_op; refine hK _ ?_; clear hK K) | (refine Reg.G_skip (i := 0) rfl (by kernel_rfl) (by rfl) ?_; simp only [Act.put, List.setIfInBounds_toArray, List.set_cons_zero, List.set_cons_succ])
            first | (refine Reg.G_step (i := 1) rfl (by kernel_rfl) (by rfl) (fun K hK => ?_); go_big_quiet_op; refine hK _ ?_; clear hK K) | (refine Reg.G_skip (i := 1) rfl (by kernel_rfl) (by rfl) ?_; simp only [Act.put, List.setIfInBounds_toArray, List.set_cons_zero, List.set_cons_succ])
            first | (refine Reg.G_step (i := 2) rfl (by kernel_rfl) (by rfl) (fun K hK => ?_); go_big_quiet_op; refine hK _ ?_; clear hK K) | (refine Reg.G_skip (i := 2) rfl (by kernel_rfl) (by rfl) ?_; simp only [Act.put, List.setIfInBounds_toArray, List.set_cons_zero, List.set_cons_succ])
            first | (refine Reg.G_step (i := 3) rfl (by kernel_rfl) (by rfl) (fun K hK => ?_); go_big_quiet_op; refine hK _ ?_; clear hK K) | (refine Reg.G_skip (i := 3) rfl (by kernel_rfl) (by rfl) ?_; simp only [Act.put, List.setIfInBounds_toArray, List.set_cons_zero, List.set_cons_succ])
            first | (refine Reg.G_step (i := 4) rfl (by kernel_rfl) (by rfl) (fun K hK => ?_); go_big_quiet_op; refine hK _ ?_; clear hK K) | (refine Reg.G_skip (i := 4) rfl (by kernel_rfl) (by rfl) ?_; simp only [Act.put, List.setIfInBounds_toArray, List.set_cons_zero, List.set_cons_succ])
            first | (refine Reg.G_step (i := 5) rfl (by kernel_rfl) (by rfl) (fun K hK => ?_); go_big_quiet_op; refine hK _ ?_; clear hK K) | (refine Reg.G_skip (i := 5) rfl (by kernel_rfl) (by rfl) ?_; simp only [Act.put, List.setIfInBounds_toArray, List.set_cons_zero, List.set_cons_succ])
            first | (refine Reg.G_step (i := 6) rfl (by kernel_rfl) (by rfl) (fun K hK => ?_); go_big_quiet_op; refine hK _ ?_; clear hK K) | (refine Reg.G_skip (i := 6) rfl (by kernel_rfl) (by rfl) ?_; simp only [Act.put, List.setIfInBounds_toArray, List.set_cons_zero, List.set_cons_succ])
            first | (refine Reg.G_step (i := 7) rfl (by kernel_rfl) (by rfl) (fun K hK => ?_); go_big_quiet_op; refine hK _ ?_; clear hK K) | (refine Reg.G_skip (i := 7) rfl (by kernel_rfl) (by rfl) ?_; simp only [Act.put, List.setIfInBounds_toArray, List.set_cons_zero, List.set_cons_succ])
            first | (refine Reg.G_step (i := 8) rfl (by kernel_rfl) (by rfl) (fun K hK => ?_); go_big_quiet_op; refine hK _ ?_; clear hK K) | (refine Reg.G_skip (i := 8) rfl (by kernel_rfl) (by rfl) ?_; simp only [Act.put, List.setIfInBounds_toArray, List.set_cons_zero, List.set_cons_succ])
            first | (refine Reg.G_step (i := 9) rfl (by kernel_rfl) (by rfl) (fun K hK => ?_); go_big_quiet_op; refine hK _ ?_; clear hK K) | (refine Reg.G_skip (i := 9) rfl (by kernel_rfl) (by rfl) ?_; simp only [Act.put, List.setIfInBounds_toArray, List.set_cons_zero, List.set_cons_succ])
            first | (refine Reg.G_step (i := 10) rfl (by kernel_rfl) (by rfl) (fun K hK => ?_); go_big_quiet_op; refine hK _ ?_; clear hK K) | (refine Reg.G_skip (i := 10) rfl (by kernel_rfl) (by rfl) ?_; simp only [Act.put, List.setIfInBounds_toArray, List.set_cons_zero, List.set_cons_succ])
            first | (refine Reg.G_step (i := 11) rfl (by kernel_rfl) (by rfl) (fun K hK => ?_); go_big_quiet_op; refine hK _ ?_; clear hK K) | (refine Reg.G_skip (i := 11) rfl (by kernel_rfl) (by rfl) ?_; simp only [Act.put, List.setIfInBounds_toArray, List.set_cons_zero, List.set_cons_succ])
            first | (refine Reg.G_step (i := 12) rfl (by kernel_rfl) (by rfl) (fun K hK => ?_); go_big_quiet_op; refine hK _ ?_; clear hK K) | (refine Reg.G_skip (i := 12) rfl (by kernel_rfl) (by rfl) ?_; simp only [Act.put, List.setIfInBounds_toArray, List.set_cons_zero, List.set_cons_succ])
            first | (refine Reg.G_step (i := 13) rfl (by kernel_rfl) (by rfl) (fun K hK => ?_); go_big_quiet_op; refine hK _ ?_; clear hK K) | (refine Reg.G_skip (i := 13) rfl (by kernel_rfl) (by rfl) ?_; simp only [Act.put, List.setIfInBounds_toArray, List.set_cons_zero, List.set_cons_succ])
            first | (refine Reg.G_step (i := 14) rfl (by kernel_rfl) (by rfl) (fun K hK => ?_); go_big_quiet_op; refine hK _ ?_; clear hK K) | (refine Reg.G_skip (i := 14) rfl (by kernel_rfl) (by rfl) ?_; simp only [Act.put, List.setIfInBounds_toArray, List.set_cons_zero, List.set_cons_succ])
            first | (refine Reg.G_step (i := 15) rfl (by kernel_rfl) (by rfl) (fun K hK => ?_); go_big_quiet_op; refine hK _ ?_; clear hK K) | (refine Reg.G_skip (i := 15) rfl (by kernel_rfl) (by rfl) ?_; simp only [Act.put, List.setIfInBounds_toArray, List.set_cons_zero, List.set_cons_succ])
            first | (refine Reg.G_step (i := 16) rfl (by kernel_rfl) (by rfl) (fun K hK => ?_); go_big_quiet_op; refine hK _ ?_; clear hK K) | (refine Reg.G_skip (i := 16) rfl (by kernel_rfl) (by rfl) ?_; simp only [Act.put, List.setIfInBounds_toArray, List.set_cons_zero, List.set_cons_succ])
            first | (refine Reg.G_step (i := 17) rfl (by kernel_rfl) (by rfl) (fun K hK => ?_); go_big_quiet_op; refine hK _ ?_; clear hK K) | (refine Reg.G_skip (i := 17) rfl (by kernel_rfl) (by rfl) ?_; simp only [Act.put, List.setIfInBounds_toArray, List.set_cons_zero, List.set_cons_succ])
            first | (refine Reg.G_step (i := 18) rfl (by kernel_rfl) (by rfl) (fun K hK => ?_); go_big_quiet_op; refine hK _ ?_; clear hK K) | (refine Reg.G_skip (i := 18) rfl (by kernel_rfl) (by rfl) ?_; simp only [Act.put, List.setIfInBounds_toArray, List.set_cons_zero, List.set_cons_succ])
            first | (refine Reg.G_step (i := 19) rfl (by kernel_rfl) (by rfl) (fun K hK => ?_); go_big_quiet_op; refine hK _ ?_; clear hK K) | (refine Reg.G_skip (i := 19) rfl (by kernel_rfl) (by rfl) ?_; simp only [Act.put, List.setIfInBounds_toArray, List.set_cons_zero, List.set_cons_succ])
            first | (refine Reg.G_step (i := 20) rfl (by kernel_rfl) (by rfl) (fun K hK => ?_); go_big_quiet_op; refine hK _ ?_; clear hK K) | (refine Reg.G_skip (i := 20) rfl (by kernel_rfl) (by rfl) ?_; simp only [Act.put, List.setIfInBounds_toArray, List.set_cons_zero, List.set_cons_succ])
            first | (refine Reg.G_step (i := 21) rfl (by kernel_rfl) (by rfl) (fun K hK => ?_); go_big_quiet_op; refine hK _ ?_; clear hK K) | (refine Reg.G_skip (i := 21) rfl (by kernel_rfl) (by rfl) ?_; simp only [Act.put, List.setIfInBounds_toArray, List.set_cons_zero, List.set_cons_succ])
            refine Reg.G_skip (i := 22) rfl (by kernel_rfl) (by rfl) ?_
            simp only [Act.put, List.setIfInBounds_toArray, List.set_cons_zero, List.set_cons_succ]
            first | (refine Reg.G_step (i := 23) rfl (by kernel_rfl) (by rfl) (fun K hK => ?_); go_big_quiet_op; refine hK _ ?_; clear hK K) | (refine Reg.G_skip (i := 23) rfl (by kernel_rfl) (by rfl) ?_; simp only [Act.put, List.setIfInBounds_toArray, List.set_cons_zero, List.set_cons_succ])
            first | (refine Reg.G_step (i := 24) rfl (by kernel_rfl) (by rfl) (fun K hK => ?_); go_big_quiet_op; refine hK _ ?_; clear hK K) | (refine Reg.G_skip (i := 24) rfl (by kernel_rfl) (by rfl) ?_; simp only [Act.put, List.setIfInBounds_toArray, List.set_cons_zero, List.set_cons_succ])
            first | (refine Reg.G_step (i := 25) rfl (by kernel_rfl) (by rfl) (fun K hK => ?_); go_big_quiet_op; refine hK _ ?_; clear hK K) | (refine Reg.G_skip (i := 25) rfl (by kernel_rfl) (by rfl) ?_; simp only [Act.put, List.setIfInBounds_toArray, List.set_cons_zero, List.set_cons_succ])
            first | (refine Reg.G_step (i := 26) rfl (by kernel_rfl) (by rfl) (fun K hK => ?_); go_big_quiet_op; refine hK _ ?_; clear hK K) | (refine Reg.G_skip (i := 26) rfl (by kernel_rfl) (by rfl) ?_; simp only [Act.put, List.setIfInBounds_toArray, List.set_cons_zero, List.set_cons_succ])
            refine Reg.G_done rfl ?_
            have HB11 := Lib.hid (bt HB10.out hW)
            clear y0 v5 x7 hW
            go_wp2_with fail
            go_ret
            exact ⟨ret_v (x := .bool true) (by first | rfl | simp), HB11.out⟩
          | true =>
            simp only [Bool.true_and] at hc7
            have HC7 := Lib.hid hc7
            clear hc7
            go_wp2_with fail
            refine Reg.G_start (by kernel_rfl) (by repeat (first | exact Reg.frameless_bodyPost | refine Reg.frameless_then ?_ | refine Reg.frameless_inBlock ?_)) (fun W hW => ?_)
            obtain ⟨⟨g0, g1, g2⟩, gf⟩ := HY10.out.kept hW
            have y0 := Reg.later_cell (Below.refl _ W) g0
            have y1 := Reg.later_cell (Below.refl _ W) g1
            have y2 := Reg.later_cell (Below.refl _ W) g2
            have v5 := Reg.later_cell (Below.refl _ W) (bx7 (RG.BxN.kept HN10.out hW)).2.2.2.2.2.1
            have v6 := Reg.later_cell (Below.refl _ W) (bx7 (RG.BxN.kept HN10.out hW)).2.2.2.2.2.2
            have x7 := Reg.later_cell (Below.refl _ W) (HC7.out W hW)
            clear g0 g1 g2 gf
            first | (refine Reg.G_step (i := 0) rfl (by kernel_rfl) (by rfl) (fun K hK => ?_); go_big_quiet_op; refine hK _ ?_; clear hK K) | (refine Reg.G_skip (i := 0) rfl (by kernel_rfl) (by rfl) ?_; simp only [Act.put, List.setIfInBounds_toArray, List.set_cons_zero, List.set_cons_succ])
            first | (refine Reg.G_step (i := 1) rfl (by kernel_rfl) (by rfl) (fun K hK => ?_); go_big_quiet_op; refine hK _ ?_; clear hK K) | (refine Reg.G_skip (i := 1) rfl (by kernel_rfl) (by rfl) ?_; simp only [Act.put, List.setIfInBounds_toArray, List.set_cons_zero, List.set_cons_succ])
            first | (refine Reg.G_step (i := 2) rfl (by kernel_rfl) (by rfl) (fun K hK => ?_); go_big_quiet_op; refine hK _ ?_; clear hK K) | (refine Reg.G_skip (i := 2) rfl (by kernel_rfl) (by rfl) ?_; simp only [Act.put, List.setIfInBounds_toArray, List.set_cons_zero, List.set_cons_succ])
            first | (refine Reg.G_step (i := 3) rfl (by kernel_rfl) (by rfl) (fun K hK => ?_); go_big_quiet_op; refine hK _ ?_; clear hK K) | (refine Reg.G_skip (i := 3) rfl (by kernel_rfl) (by rfl) ?_; simp only [Act.put, List.setIfInBounds_toArray, List.set_cons_zero, List.set_cons_succ])
            first | (refine Reg.G_step (i := 4) rfl (by kernel_rfl) (by rfl) (fun K hK => ?_); go_big_quiet_op; refine hK _ ?_; clear hK K) | (refine Reg.G_skip (i := 4) rfl (by kernel_rfl) (by rfl) ?_; simp only [Act.put, List.setIfInBounds_toArray, List.set_cons_zero, List.set_cons_succ])
            first | (refine Reg.G_step (i := 5) rfl (by kernel_rfl) (by rfl) (fun K hK => ?_); go_big_quiet_op; refine hK _ ?_; clear hK K) | (refine Reg.G_skip (i := 5) rfl (by kernel_rfl) (by rfl) ?_; simp only [Act.put, List.setIfInBounds_toArray, List.set_cons_zero, List.set_cons_succ])
            first | (refine Reg.G_step (i := 6) rfl (by kernel_rfl) (by rfl) (fun K hK => ?_); go_big_quiet_op; refine hK _ ?_; clear hK K) | (refine Reg.G_skip (i := 6) rfl (by kernel_rfl) (by rfl) ?_; simp only [Act.put, List.setIfInBounds_toArray, List.set_cons_zero, List.set_cons_succ])
            first | (refine Reg.G_step (i := 7) rfl (by kernel_rfl) (by rfl) (fun K hK => ?_); go_big_quiet_op; refine hK _ ?_; clear hK K) | (refine Reg.G_skip (i := 7) rfl (by kernel_rfl) (by rfl) ?_; simp only [Act.put, List.setIfInBounds_toArray, List.set_cons_zero, List.set_cons_succ])
            first | (refine Reg.G_step (i := 8) rfl (by kernel_rfl) (by rfl) (fun K hK => ?_); go_big_quiet_op; refine hK _ ?_; clear hK K) | (refine Reg.G_skip (i := 8) rfl (by kernel_rfl) (by rfl) ?_; simp only [Act.put, List.setIfInBounds_toArray, List.set_cons_zero, List.set_cons_succ])
            first | (refine Reg.G_step (i := 9) rfl (by kernel_rfl) (by rfl) (fun K hK => ?_); go_big_quiet_op; refine hK _ ?_; clear hK K) | (refine Reg.G_skip (i := 9) rfl (by kernel_rfl) (by rfl) ?_; simp only [Act.put, List.setIfInBounds_toArray, List.set_cons_zero, List.set_cons_succ])
            first | (refine Reg.G_step (i := 10) rfl (by kernel_rfl) (by rfl) (fun K hK => ?_); go_big_quiet_op; refine hK _ ?_; clear hK K) | (refine Reg.G_skip (i := 10) rfl (by kernel_rfl) (by rfl) ?_; simp only [Act.put, List.setIfInBounds_toArray, List.set_cons_zero, List.set_cons_succ])
            first | (refine Reg.G_step (i := 11) rfl (by kernel_rfl) (by rfl) (fun K hK => ?_); go_big_quiet_op; refine hK _ ?_; clear hK K) | (refine Reg.G_skip (i := 11) rfl (by kernel_rfl) (by rfl) ?_; simp only [Act.put, List.setIfInBounds_toArray, List.set_cons_zero, List.set_cons_succ])
            first | (refine Reg.G_step (i := 12) rfl (by kernel_rfl) (by rfl) (fun K hK => ?_); go_big_quiet_op; refine hK _ ?_; clear hK K) | (refine Reg.G_skip (i := 12) rfl (by kernel_rfl) (by rfl) ?_; simp only [Act.put, List.setIfInBounds_toArray, List.set_cons_zero, List.set_cons_succ])
            first | (refine Reg.G_step (i := 13) rfl (by kernel_rfl) (by rfl) (fun K hK => ?_); go_big_quiet_op; refine hK _ ?_; clear hK K) | (refine Reg.G_skip (i := 13) rfl (by kernel_rfl) (by rfl) ?_; simp only [Act.put, List.setIfInBounds_toArray, List.set_cons_zero, List.set_cons_succ])
            first | (refine Reg.G_step (i := 14) rfl (by kernel_rfl) (by rfl) (fun K hK => ?_); go_big_quiet_op; refine hK _ ?_; clear hK K) | (refine Reg.G_skip (i := 14) rfl (by kernel_rfl) (by rfl) ?_; simp only [Act.put, List.setIfInBounds_toArray, List.set_cons_zero, List.set_cons_succ])
            first | (refine Reg.G_step (i := 15) rfl (by kernel_rfl) (by rfl) (fun K hK => ?_); go_big_quiet_op; refine hK _ ?_; clear hK K) | (refine Reg.G_skip (i := 15) rfl (by kernel_rfl) (by rfl) ?_; simp only [Act.put, List.setIfInBounds_toArray, List.set_cons_zero, List.set_cons_succ])
            first | (refine Reg.G_step (i := 16) rfl (by kernel_rfl) (by rfl) (fun K hK => ?_); go_big_quiet_op; refine hK _ ?_; clear hK K) | (refine Reg.G_skip (i := 16) rfl (by kernel_rfl) (by rfl) ?_; simp only [Act.put, List.setIfInBounds_toArray, List.set_cons_zero, List.set_cons_succ])
            first | (refine Reg.G_step (i := 17) rfl (by kernel_rfl) (by rfl) (fun K hK => ?_); go_big_quiet_op; refine hK _ ?_; clear hK K) | (refine Reg.G_skip (i := 17) rfl (by kernel_rfl) (by rfl) ?_; simp only [Act.put, List.setIfInBounds_toArray, List.set_cons_zero, List.set_cons_succ])
            first | (refine Reg.G_step (i := 18) rfl (by kernel_rfl) (by rfl) (fun K hK => ?_); go_big_quiet_op; refine hK _ ?_; clear hK K) | (refine Reg.G_skip (i := 18) rfl (by kernel_rfl) (by rfl) ?_; simp only [Act.put, List.setIfInBounds_toArray, List.set_cons_zero, List.set_cons_succ])
            first | (refine Reg.G_step (i := 19) rfl (by kernel_rfl) (by rfl) (fun K hK => ?_); go_big_quiet_op; refine hK _ ?_; clear hK K) | (refine Reg.G_skip (i := 19) rfl (by kernel_rfl) (by rfl) ?_; simp only [Act.put, List.setIfInBounds_toArray, List.set_cons_zero, List.set_cons_succ])
            first | (refine Reg.G_step (i := 20) rfl (by kernel_rfl) (by rfl) (fun K hK => ?_); go_big_quiet_op; refine hK _ ?_; clear hK K) | (refine Reg.G_skip (i := 20) rfl (by kernel_rfl) (by rfl) ?_; simp only [Act.put, List.setIfInBounds_toArray, List.set_cons_zero, List.set_cons_succ])
            first | (refine Reg.G_step (i := 21) rfl (by kernel_rfl) (by rfl) (fun K hK => ?_); go_big_quiet_op; refine hK _ ?_; clear hK K) | (refine Reg.G_skip (i := 21) rfl (by kernel_rfl) (by rfl) ?_; simp only [Act.put, List.setIfInBounds_toArray, List.set_cons_zero, List.set_cons_succ])
            refine Reg.G_event (i := 22) rfl (by kernel_rfl) (by rfl) (fun K hK => ?_)
            go_simp
            refine (HH2.out W (bt HB10.out hW)).mono ?_
            rintro e w11 ⟨rfl, hv⟩
            refine hK _ _ hv ?_
            clear hK K y0 y1 y2 v5 v6 x7
            have HB11 := Lib.hid (bt HB10.out (bt hW hv))
            first | (refine Reg.G_step (i := 23) rfl (by kernel_rfl) (by rfl) (fun K hK => ?_); go_big_quiet_op; refine hK _ ?_; clear hK K) | (refine Reg.G_skip (i := 23) rfl (by kernel_rfl) (by rfl) ?_; simp only [Act.put, List.setIfInBounds_toArray, List.set_cons_zero, List.set_cons_succ])
            first | (refine Reg.G_step (i := 24) rfl (by kernel_rfl) (by rfl) (fun K hK => ?_); go_big_quiet_op; refine hK _ ?_; clear hK K) | (refine Reg.G_skip (i := 24) rfl (by kernel_rfl) (by rfl) ?_; simp only [Act.put, List.setIfInBounds_toArray, List.set_cons_zero, List.set_cons_succ])
            first | (refine Reg.G_step (i := 25) rfl (by kernel_rfl) (by rfl) (fun K hK => ?_); go_big_quiet_op; refine hK _ ?_; clear hK K) | (refine Reg.G_skip (i := 25) rfl (by kernel_rfl) (by rfl) ?_; simp only [Act.put, List.setIfInBounds_toArray, List.set_cons_zero, List.set_cons_succ])
            first | (refine Reg.G_step (i := 26) rfl (by kernel_rfl) (by rfl) (fun K hK => ?_); go_big_quiet_op; refine hK _ ?_; clear hK K) | (refine Reg.G_skip (i := 26) rfl (by kernel_rfl) (by rfl) ?_; simp only [Act.put, List.setIfInBounds_toArray, List.set_cons_zero, List.set_cons_succ])
            refine Reg.G_done rfl ?_
            go_wp2_with fail
            go_ret
            exact ⟨ret_v (x := .bool true) (by first | rfl | simp), HB11.out⟩
end Go.Proofs.Ytochpomddfjkoaa.Ix

namespace Go.Proofs.Ytochpomddfjkoaa.indexShares
open Go.ChangeShapes Go.WideShapes Go.ChangeAt Go.RowKit

theorem own : ownKnob Try.prog.godebug = none := by kernel_rfl
theorem laidOut : laidOutB Try.prog = true := by kernel_rfl

set_option maxRecDepth 100000 in
theorem lifted (os : Os) (started : os.Started) (H : Type) (enc : TypeId × Value → H) :
    ReturnsInHanded {} Try.checked os 4 .any (Rows.indexSharesSpec.pre6 enc Try.prog Try.f4 Rows.indexSharesRow.domain false) (Rows.indexSharesSpec.post enc Try.prog Try.f4 false true false false) := by
  refine returnsInHanded_of_change (C := Try.checked) own started (by kernel_rfl) Try.func4
    (ChangeSpec.witness6 (enc := enc) (C := Try.checked) false ⟨#[], #[.slice none 0 0, .agg #[.string ⟨#[]⟩, .int .i64 0, .slice none 0 0], .int .i64 0, .int .i64 0], []⟩ 8 (by kernel_rfl) (by kernel_rfl) (by kernel_rfl) (by kernel_rfl)) ?_
  intro W base args ds gs before hval0 hW hcnd _
  have hval : ∀ (j : Nat) t v, Try.f4.params[j]? = some t → args[j]? = some v → Value.okWide Try.prog W .any base t v := hval0
  have hW' := hW
  obtain ⟨p, q, hA0, hV, rfl, hfz, hnd⟩ := hW
  have hA : DataW.TrodAll enc Try.prog W 0 (fun _ => true) true Try.f4.params.toList args.toList ds p := hA0
  rw [Try.params4] at hA hval
  obtain ⟨v0, vs0, d0, ds0, p0, q0, hargs, rfl, rfl, h0, r0⟩ := trodAll_cons hA
  obtain ⟨v1, vs1, d1, ds1, p1, q1, rfl, rfl, rfl, h1, r1⟩ := trodAll_cons r0
  obtain ⟨v2, vs2, d2, ds2, p2, q2, rfl, rfl, rfl, h2, r2⟩ := trodAll_cons r1
  obtain ⟨v3, vs3, d3, ds3, p3, q3, rfl, rfl, rfl, h3, r3⟩ := trodAll_cons r2
  obtain ⟨rfl, rfl, rfl⟩ := trodAll_nil r3
  obtain rfl : args = #[v0, v1, v2, v3] := by cases args; simp_all
  obtain ⟨rfl, rfl⟩ := trodVars_none hV
  have k0 := h0
  have lt0 : ∀ x ∈ p0, x.block < W.heap.size := by obtain ⟨m, hm⟩ := k0; exact DataW.trod_lt m _ _ _ hm
  obtain ⟨a0, len0, cap0, rfl, w0⟩ := Op.open_queries (hval 0 22 v0 rfl rfl) h0
  have k1 := h1
  have lt1 : ∀ x ∈ p1, x.block < W.heap.size := by obtain ⟨m, hm⟩ := k1; exact DataW.trod_lt m _ _ _ hm
  obtain ⟨ss1, nn1, a1, len1, cap1, rfl, w1⟩ := Op.open_event (hval 1 29 v1 rfl rfl) h1
  obtain ⟨a2, rfl, rfl, rfl, w2⟩ := open_int Try.underlying3 (hval 2 3 v2 rfl rfl) h2
  obtain ⟨a3, rfl, rfl, rfl, w3⟩ := open_int Try.underlying3 (hval 3 3 v3 rfl rfl) h3
  clear hA0 hval0
  refine (Go.Proofs.Ytochpomddfjkoaa.Ix.shares_walk a0 len0 cap0 ss1 nn1 a1 len1 cap1 a2 a3 W w0 w1 w2 w3).mono fun e W' ⟨he, bel⟩ => ?_
  subst he
  exact ⟨_, rfl, _, _, _, [], _, [], hW', trodAll_mk1 (shut_bool Try.underlying4 _), (trodAll_cons_mk (Below.trod laidOut (by kernel_rfl) (of_decide_eq_true (by kernel_rfl)) k0 bel lt0) (trodAll_cons_mk (Below.trod laidOut (by kernel_rfl) (of_decide_eq_true (by kernel_rfl)) k1 bel lt1) (trodAll_cons_mk (shut_int Try.underlying3 w2) (trodAll_cons_mk (shut_int Try.underlying3 w3) trodAll_mk0)))), rfl, bel.frame _, fun h => by cases h⟩

theorem over : Rows.indexSharesRow.holds Try.pinned (OpenSpec.ofChange Rows.indexSharesSpec) :=
  OpenClaim.holds_of_wide 4 Try.f4 rfl rfl rfl rfl rfl rfl rfl ⟨rfl, rfl, rfl, rfl, rfl⟩ rfl rfl rfl rfl rfl (by kernel_rfl) Try.func4 (by kernel_rfl)
    (of_decide_eq_true (by kernel_rfl)) (by unfold Func.isWrapper; first | (rw [if_pos (by decide +kernel)]; kernel_rfl) | (rw [if_neg (by decide +kernel)]; exact ⟨rfl, rfl⟩))
    (fun os started H enc _ => lifted os started H enc)

theorem proved : Rows.IndexSharesSaid := over
#print axioms proved
end Go.Proofs.Ytochpomddfjkoaa.indexShares
