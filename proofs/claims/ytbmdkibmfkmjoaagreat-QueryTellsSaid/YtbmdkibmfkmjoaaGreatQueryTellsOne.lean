/- QueryTells: for every input the law returns true, and each argument reads afterwards as it read before. No condition.
  The walk is the theorem Go.Proofs.YtbmdkibmfkmjoaaGreat.Qy.tells_walk. -/
import Derived.Test.YtbmdkibmfkmjoaaGreatTcD
import Derived.Test.YtbmdkibmfkmjoaaGreatTcB
import Derived.Test.YtbmdkibmfkmjoaaGreatTcE
import Derived.Test.YtbmdkibmfkmjoaaGreatRows
import Derived.WalkKit
import Derived.ProofKit
import Derived.OpenShut
import Derived.ShutString
import Derived.ChangeOld
import Derived.Below

namespace Go.Proofs.YtbmdkibmfkmjoaaGreat.Qy
open Go.RowKit Go.Proofs.YtbmdkibmfkmjoaaGreat.BM Go.Proofs.YtbmdkibmfkmjoaaGreat.LM Go.Proofs.YtbmdkibmfkmjoaaGreat.LeM Go.Proofs.YtbmdkibmfkmjoaaGreat.VaM Go.Proofs.YtbmdkibmfkmjoaaGreat.ExM Go.Proofs.YtbmdkibmfkmjoaaGreat.QyM
open Go.Proofs.YtbmdkibmfkmjoaaGreat.Ex (SlO slO_none)
open Go.Proofs.YtbmdkibmfkmjoaaGreat.Va (ret_v)
open Go.Proofs.YtbmdkibmfkmjoaaGreat.Sc (SlS)

set_option maxRecDepth 100000 in
set_option maxHeartbeats 16000000 in
theorem tells_walk (la : Option Addr) (m lc : Nat) (qw qa qi qf : Int) (a : Option Addr) (n c : Nat) (pw pa pi' pf : Int) (b : Option Addr) (k d : Nat) (x : Option Addr) (len xcap : Nat) (z : List Int) (w : World) (hl' : Op.ArgL w la m lc) (hq' : Op.ArgQ w qw qa qi qf a n c) (hp' : Op.ArgQ w pw pa pi' pf b k d) (hz : RowU8 w x len xcap z) :
    Calls Tryz.prog 3 #[.slice la m lc, .agg #[.slice a n c, .int .i64 qw, .int .i64 qa, .int .i64 qi, .int .i64 qf], .agg #[.slice b k d, .int .i64 pw, .int .i64 pa, .int .i64 pi', .int .i64 pf], .slice x len xcap] w fun e w' => e = .returned (.bool true) ∧ Below w.heap.size w w' := by
  obtain ⟨l, hlm, hS⟩ := hl'
  obtain ⟨q, hlen, hT, _⟩ := hq'
  obtain ⟨p, hlep, hU, _⟩ := hp'
  obtain ⟨xs, hxlen, hxs⟩ := row_slB hz
  have hxm := hxs.2.2.2
  have hxc := hxs.2.1
  unfold maxLen at hxm
  rw [hxlen] at hxc
  have hr1 : RngQ ⟨q, qw, qa, qi, qf⟩ := slSt_rng hT rfl
  have hF1 := fun W (hW : Below w.heap.size w W) => Few_any ⟨q, qw, qa, qi, qf⟩ a c W (hT.kept hW)
  have hF2 := fun W (hW : Below w.heap.size w W) => Few_any ⟨p, pw, pa, pi', pf⟩ b d W (hU.kept hW)
  have hF3 := fun W (hW : Below w.heap.size w W) => Rg.Few_any l la lc W (hS.kept hW)
  have hP1 := fun W (hW : Below w.heap.size w W) => Put_any ⟨q, qw, qa, qi, qf⟩ a c W (hT.kept hW) hr1
  have hP2 := fun W (hW : Below w.heap.size w W) => refPut_any ⟨q, qw, qa, qi, qf⟩ a c W (hT.kept hW) hr1
  have hG1 := fun W (hW : Below w.heap.size w W) => Get_any x xs xcap W (hxs.kept hW)
  have hG2 := fun W (hW : Below w.heap.size w W) => refGet_any x xs xcap W (hxs.kept hW)
  have hC1 := fun W (hW : Below w.heap.size w W) => Check_any l ⟨q, qw, qa, qi, qf⟩ la lc a c W (hS.kept hW) (hT.kept hW)
  have hC2 := fun W (hW : Below w.heap.size w W) => refCheck_any l ⟨q, qw, qa, qi, qf⟩ la lc a c W (hS.kept hW) (hT.kept hW)
  have hS1 := fun W (hW : Below w.heap.size w W) => Same_any ⟨q, qw, qa, qi, qf⟩ ⟨p, pw, pa, pi', pf⟩ a c b d W (hT.kept hW) (hU.kept hW)
  have hS2 := fun W (hW : Below w.heap.size w W) => refSame_any ⟨q, qw, qa, qi, qf⟩ ⟨p, pw, pa, pi', pf⟩ a c b d W (hT.kept hW) (hU.kept hW)
  obtain ⟨⟨⟨gp, gw, ga, gi, gf⟩, gn, gb⟩, hG⟩ : ∃ G, G = gotQ (gQ xs) := ⟨_, rfl⟩
  have hgs := fun W A A' r r' (h : SlSt W A gp r) (h' : SlSt W A' gp r') => refSame_any ⟨gp, gw, ga, gi, gf⟩ ⟨gp, gw, ga, gi, gf⟩ A r A' r' W h h'
  unfold Putted agQ at hP1 hP2
  unfold GotsQ agQ at hG1 hG2
  unfold agQ at hF1 hF2 hC1 hC2 hS1 hS2 hgs
  obtain ⟨ng, hng⟩ : ∃ k, k = gp.length := ⟨_, rfl⟩
  simp only [← hG] at hG1 hG2
  simp only [← hng] at hG1 hG2 hgs
  simp only [hlen, hlep, hlm, hxlen, decide_true] at hF1 hF2 hF3 hP1 hP2 hG1 hG2 hC1 hC2 hS1 hS2 hgs
  obtain ⟨X, hX⟩ : ∃ x : Q, x = ⟨q, qw, qa, qi, qf⟩ := ⟨_, rfl⟩
  obtain ⟨Y, hY⟩ : ∃ x : Q, x = ⟨p, pw, pa, pi', pf⟩ := ⟨_, rfl⟩
  simp only [← hX] at hF1 hP1 hP2 hC1 hC2 hS1 hS2
  simp only [← hY] at hF2 hS1 hS2
  obtain ⟨P, hP⟩ : ∃ P, P = decide (Few X) := ⟨_, rfl⟩
  obtain ⟨Q', hQ⟩ : ∃ P, P = decide (Few Y) := ⟨_, rfl⟩
  obtain ⟨R, hR⟩ : ∃ P, P = decide (Rg.Few l) := ⟨_, rfl⟩
  obtain ⟨E, hE⟩ : ∃ E, E = check l X := ⟨_, rfl⟩
  obtain ⟨D, hD⟩ : ∃ E, E = decide (X = Y) := ⟨_, rfl⟩
  obtain ⟨My, hMy⟩ : ∃ E, E = decide (May X) := ⟨_, rfl⟩
  obtain ⟨V, hV⟩ : ∃ E, E = QyM.pv X := ⟨_, rfl⟩
  simp only [← hP] at hF1
  simp only [← hQ] at hF2
  simp only [← hR] at hF3
  simp only [← hE] at hC1 hC2
  simp only [← hD] at hS1 hS2
  simp only [← hMy, ← hV] at hP1 hP2
  obtain ⟨L, hL⟩ : ∃ L, L = V.length := ⟨_, rfl⟩
  simp only [← hL] at hP1 hP2
  have HF1 := Lib.hid hF1
  have HF2 := Lib.hid hF2
  have HF3 := Lib.hid hF3
  have HP1 := Lib.hid hP1
  have HP2 := Lib.hid hP2
  have HG1 := Lib.hid hG1
  have HG2 := Lib.hid hG2
  have HC1 := Lib.hid hC1
  have HC2 := Lib.hid hC2
  have HS1 := Lib.hid hS1
  have HS2 := Lib.hid hS2
  have HGs := Lib.hid hgs
  have HLn := Lib.hid hL
  obtain ⟨u1, hu1⟩ : ∃ u, u = w.alloc (.cells #[.slice a n c, .int .i64 qw, .int .i64 qa, .int .i64 qi, .int .i64 qf] 25) := ⟨_, rfl⟩
  have hs1 : u1.heap.size = w.heap.size + 1 := by rw [hu1]; simp
  have hb1 := below_box w a n c qw qa qi qf
  have hx1 := bxQ5_new w a n c qw qa qi qf
  rw [← hu1] at hb1 hx1
  have hb2 := below_box u1 b k d pw pa pi' pf
  have hx2 := bxQ5_new u1 b k d pw pa pi' pf
  rw [hs1] at hx2
  have hk1 := hx1.kept hb2
  have hbb := bt hb1 hb2
  rw [hu1] at hx2 hk1 hbb
  have HX := Lib.hid hk1
  have HY := Lib.hid hx2
  have HB := Lib.hid hbb
  clear hb1 hx1 hb2 hx2 hk1 hbb hs1 hu1 u1 hF1 hF2 hF3 hP1 hP2 hG1 hG2 hC1 hC2 hS1 hS2 hgs hL hV hMy hD hE hR hQ hP hX hY hG hng hr1 hS hT hU hxs hlm hlen hlep hxlen hz
  go_enter Tryz.func3, Tryz.ntmps3
  have HB0 := Lib.hid HB.out
  have HX0 := Lib.hid HX.out
  have HY0 := Lib.hid HY.out
  clear HB HX HY
  go_wp2_with fail
  refine (awake_any _).mono ?_
  rintro e w1 ⟨rfl, hb⟩
  have HB1 := Lib.hid (bt HB0.out hb)
  have HX1 := Lib.hid (HX0.out.kept hb)
  have HY1 := Lib.hid (HY0.out.kept hb)
  clear hb HB0 HX0 HY0
  obtain ⟨p0, p1, p2, p3, p4⟩ := bx5 HX1.out
  go_wp2_with fail
  refine (HF1.out _ HB1.out).mono ?_
  rintro e w2 ⟨rfl, hb⟩
  have HB2 := Lib.hid (bt HB1.out hb)
  have HX2 := Lib.hid (HX1.out.kept hb)
  have HY2 := Lib.hid (HY1.out.kept hb)
  clear hb HB1 HX1 HY1 p0 p1 p2 p3 p4 HF1
  obtain ⟨p0, p1, p2, p3, p4⟩ := bx5 HY2.out
  go_wp2_with fail
  refine (HF2.out _ HB2.out).mono ?_
  rintro e w3 ⟨rfl, hb⟩
  have HB3 := Lib.hid (bt HB2.out hb)
  have HX3 := Lib.hid (HX2.out.kept hb)
  have HY3 := Lib.hid (HY2.out.kept hb)
  clear hb HB2 HX2 HY2 p0 p1 p2 p3 p4 HF2
  go_wp2_with fail
  refine (HF3.out _ HB3.out).mono ?_
  rintro e w4 ⟨rfl, hb⟩
  have HB4 := Lib.hid (bt HB3.out hb)
  have HX4 := Lib.hid (HX3.out.kept hb)
  have HY4 := Lib.hid (HY3.out.kept hb)
  clear hb HB3 HX3 HY3 HF3
  by_cases hpq : P = true ∧ Q' = true ∧ R = true ∧ len ≤ 800
  rotate_left
  · have hw : P = false ∨ (P = true ∧ Q' = false) ∨ (P = true ∧ Q' = true ∧ R = false) ∨ (P = true ∧ Q' = true ∧ R = true ∧ 800 < len) := by
      by_cases hl : len ≤ 800
      · revert hpq
        cases P <;> cases Q' <;> cases R <;> simp [hl]
      · have hl' : 800 < len := Nat.lt_of_not_le hl
        cases P <;> cases Q' <;> cases R <;> simp [hl']
    clear hpq
    rcases hw with rfl | ⟨rfl, rfl⟩ | ⟨rfl, rfl, rfl⟩ | ⟨rfl, rfl, rfl, hl⟩
    case inr.inr.inr =>
      have hd1 : decide ((800 : Int) < (len : Int)) = true := by rw [decide_eq_true_iff]; omega
      go_wp2_with fail
      go_ret
      exact ⟨ret_v (x := .bool true) rfl, HB4.out⟩
    all_goals
      go_wp2_with fail
      go_ret
      exact ⟨ret_v (x := .bool true) rfl, HB4.out⟩
  obtain ⟨rfl, rfl, rfl, q1⟩ := hpq
  have hd1 : decide ((800 : Int) < (len : Int)) = false := by rw [decide_eq_false_iff_not]; omega
  obtain ⟨p0, p1, p2, p3, p4⟩ := bx5 HX4.out
  go_wp2_with fail
  refine (HP1.out _ HB4.out).mono ?_
  rintro e w5 ⟨A1, d1, rfl, ht1, hb⟩
  have HB5 := Lib.hid (bt HB4.out hb)
  have HX5 := Lib.hid (HX4.out.kept hb)
  have HY5 := Lib.hid (HY4.out.kept hb)
  have HU5 := Lib.hid ht1
  clear ht1
  clear hb HB4 HX4 HY4 p0 p1 p2 p3 p4 HP1 hd1 q1
  obtain ⟨p0, p1, p2, p3, p4⟩ := bx5 HX5.out
  go_wp2_with fail
  refine (HP2.out _ HB5.out).mono ?_
  rintro e w6 ⟨A2, d2, rfl, ht2, hb⟩
  have HB6 := Lib.hid (bt HB5.out hb)
  have HX6 := Lib.hid (HX5.out.kept hb)
  have HY6 := Lib.hid (HY5.out.kept hb)
  have HU6 := Lib.hid (HU5.out.kept hb)
  have HV6 := Lib.hid ht2
  clear ht2
  clear hb HB5 HX5 HY5 HU5 p0 p1 p2 p3 p4 HP2
  go_wp2_with fail
  refine (HG1.out _ HB6.out).mono ?_
  rintro e v7 ⟨A3, d3, rfl, hs, hb⟩
  have ha := below_box v7 A3 ng d3 gw ga gi gf
  have HM7 := Lib.hid (bxQ5_new v7 A3 ng d3 gw ga gi gf)
  have HB7 := Lib.hid (bt HB6.out (bt hb ha))
  have HX7 := Lib.hid (HX6.out.kept (bt hb ha))
  have HY7 := Lib.hid (HY6.out.kept (bt hb ha))
  have HU7 := Lib.hid (HU6.out.kept (bt hb ha))
  have HV7 := Lib.hid (HV6.out.kept (bt hb ha))
  have HJ7 := Lib.hid (hs.kept ha)
  clear hb ha hs HG1 HB6 HX6 HY6 HU6 HV6
  go_wp2_with fail
  obtain ⟨w7, hw7⟩ : ∃ W, W = v7.alloc (.cells #[.slice A3 ng d3, .int .i64 gw, .int .i64 ga, .int .i64 gi, .int .i64 gf] 25) := ⟨_, rfl⟩
  obtain ⟨b7, hb7⟩ : ∃ b, b = v7.heap.size := ⟨_, rfl⟩
  rw [← hw7] at HB7 HX7 HY7 HU7 HV7 HM7 HJ7 ⊢
  rw [← hb7] at HM7 ⊢
  clear hw7 hb7
  refine (HG2.out _ HB7.out).mono ?_
  rintro e v8 ⟨A4, d4, rfl, hs, hb⟩
  have ha := below_box v8 A4 ng d4 gw ga gi gf
  have HN8 := Lib.hid (bxQ5_new v8 A4 ng d4 gw ga gi gf)
  have HB8 := Lib.hid (bt HB7.out (bt hb ha))
  have hm8 := HM7.out.kept hb
  have hblt := RG.BxN.lt hm8 (show 0 < 5 by decide)
  have HX8 := Lib.hid (HX7.out.kept (bt hb ha))
  have HY8 := Lib.hid (HY7.out.kept (bt hb ha))
  have HU8 := Lib.hid (HU7.out.kept (bt hb ha))
  have HV8 := Lib.hid (HV7.out.kept (bt hb ha))
  have HM8 := Lib.hid (HM7.out.kept (bt hb ha))
  have HJ8 := Lib.hid (HJ7.out.kept (bt hb ha))
  have HK8 := Lib.hid (hs.kept ha)
  clear hb ha hs hm8 HG2 HB7 HX7 HY7 HU7 HV7 HM7 HJ7
  obtain ⟨p0, p1, p2, p3, p4⟩ := bx5 HM8.out
  obtain ⟨r0, r1, r2, r3, r4⟩ := bx5 HN8.out
  have HGs8 := Lib.hid (HGs.out _ A3 A4 d3 d4 HJ8.out HK8.out)
  clear HGs HJ8 HK8
  go_wp2_with fail
  obtain ⟨w8, hw8⟩ : ∃ W, W = v8.alloc (.cells #[.slice A4 ng d4, .int .i64 gw, .int .i64 ga, .int .i64 gi, .int .i64 gf] 25) := ⟨_, rfl⟩
  rw [← hw8] at HB8 HX8 HY8 HU8 HV8 HGs8 ⊢
  clear hw8 p0 p1 p2 p3 p4 r0 r1 r2 r3 r4 HM8 HN8 hblt
  refine (HGs8.out).mono ?_
  rintro e w9 ⟨rfl, hb⟩
  have HB9 := Lib.hid (bt HB8.out hb)
  have HX9 := Lib.hid (HX8.out.kept hb)
  have HY9 := Lib.hid (HY8.out.kept hb)
  have HU9 := Lib.hid (HU8.out.kept hb)
  have HV9 := Lib.hid (HV8.out.kept hb)
  clear hb HB8 HX8 HY8 HU8 HV8 HGs8
  obtain ⟨p0, p1, p2, p3, p4⟩ := bx5 HX9.out
  obtain ⟨r0, r1, r2, r3, r4⟩ := bx5 HY9.out
  go_wp2_with fail
  refine (HS2.out _ HB9.out).mono ?_
  rintro e w10 ⟨rfl, hb⟩
  have HB10 := Lib.hid (bt HB9.out hb)
  have HX10 := Lib.hid (HX9.out.kept hb)
  have HY10 := Lib.hid (HY9.out.kept hb)
  have HU10 := Lib.hid (HU9.out.kept hb)
  have HV10 := Lib.hid (HV9.out.kept hb)
  clear hb HB9 HX9 HY9 HU9 HV9 p0 p1 p2 p3 p4 r0 r1 r2 r3 r4 HS2
  go_wp2_with fail
  obtain ⟨S, hS⟩ : ∃ S, S = strOfNums V := ⟨_, rfl⟩
  have HSs := Lib.hid hS
  have hee : (S.toList == S.toList) = true := by simp
  have h1e : (E == E) = true := by simp
  have h2e : (My == My) = true := by simp
  have h3e : ((gn : Int) == gn) = true := by simp
  have h4e : (gb == gb) = true := by simp
  have h5e : (D == D) = true := by simp
  clear hS
  refine Reg.G_start (by kernel_rfl) (by repeat (first | exact Reg.frameless_bodyPost | refine Reg.frameless_then ?_ | refine Reg.frameless_inBlock ?_)) (fun W hW => ?_)
  have hBW := bt HB10.out hW
  obtain ⟨p0, p1, p2, p3, p4⟩ := bx5 (HX10.out.kept hW)
  have x0 := Reg.later_cell (Below.refl _ W) p0
  have x1 := Reg.later_cell (Below.refl _ W) p1
  have x2 := Reg.later_cell (Below.refl _ W) p2
  have x3 := Reg.later_cell (Below.refl _ W) p3
  have x4 := Reg.later_cell (Below.refl _ W) p4
  clear p0 p1 p2 p3 p4
  first | (refine Reg.G_step (i := 0) rfl (by kernel_rfl) (by rfl) (fun K hK => ?_); go_big_quiet_op; refine hK _ ?_; clear hK K) | (refine Reg.G_skip (i := 0) rfl (by kernel_rfl) (by rfl) ?_; simp only [Act.put, List.setIfInBounds_toArray, List.set_cons_zero, List.set_cons_succ])
  first | (refine Reg.G_step (i := 1) rfl (by kernel_rfl) (by rfl) (fun K hK => ?_); go_big_quiet_op; refine hK _ ?_; clear hK K) | (refine Reg.G_skip (i := 1) rfl (by kernel_rfl) (by rfl) ?_; simp only [Act.put, List.setIfInBounds_toArray, List.set_cons_zero, List.set_cons_succ])
  first | (refine Reg.G_step (i := 3) rfl (by kernel_rfl) (by rfl) (fun K hK => ?_); go_big_quiet_op; refine hK _ ?_; clear hK K) | (refine Reg.G_skip (i := 3) rfl (by kernel_rfl) (by rfl) ?_; simp only [Act.put, List.setIfInBounds_toArray, List.set_cons_zero, List.set_cons_succ])
  first | (refine Reg.G_step (i := 4) rfl (by kernel_rfl) (by rfl) (fun K hK => ?_); go_big_quiet_op; refine hK _ ?_; clear hK K) | (refine Reg.G_skip (i := 4) rfl (by kernel_rfl) (by rfl) ?_; simp only [Act.put, List.setIfInBounds_toArray, List.set_cons_zero, List.set_cons_succ])
  refine Reg.G_event (i := 2) rfl (by kernel_rfl) (by rfl) (fun K hK => ?_)
  go_simp
  refine (HC1.out _ hBW).mono ?_
  rintro e u1 ⟨rfl, hu1⟩
  refine hK _ _ hu1 ?_
  clear hK K x0 x1 x2 x3 x4
  have hB1 := bt hBW hu1
  obtain ⟨p0, p1, p2, p3, p4⟩ := bx5 (HX10.out.kept (bt hW hu1))
  have x0 := Reg.later_cell (Below.refl _ u1) p0
  have x1 := Reg.later_cell (Below.refl _ u1) p1
  have x2 := Reg.later_cell (Below.refl _ u1) p2
  have x3 := Reg.later_cell (Below.refl _ u1) p3
  have x4 := Reg.later_cell (Below.refl _ u1) p4
  clear p0 p1 p2 p3 p4
  refine Reg.G_event (i := 5) rfl (by kernel_rfl) (by rfl) (fun K hK => ?_)
  go_simp
  refine (HC2.out _ hB1).mono ?_
  rintro e u2 ⟨rfl, hu2⟩
  refine hK _ _ hu2 ?_
  clear hK K x0 x1 x2 x3 x4
  have hB2 := bt hB1 hu2
  obtain ⟨p0, p1, p2, p3, p4⟩ := bx5 (HX10.out.kept (bt hW (bt hu1 hu2)))
  have x0 := Reg.later_cell (Below.refl _ u2) p0
  have x1 := Reg.later_cell (Below.refl _ u2) p1
  have x2 := Reg.later_cell (Below.refl _ u2) p2
  have x3 := Reg.later_cell (Below.refl _ u2) p3
  have x4 := Reg.later_cell (Below.refl _ u2) p4
  obtain ⟨r0, r1, r2, r3, r4⟩ := bx5 (HY10.out.kept (bt hW (bt hu1 hu2)))
  have y0 := Reg.later_cell (Below.refl _ u2) r0
  have y1 := Reg.later_cell (Below.refl _ u2) r1
  have y2 := Reg.later_cell (Below.refl _ u2) r2
  have y3 := Reg.later_cell (Below.refl _ u2) r3
  have y4 := Reg.later_cell (Below.refl _ u2) r4
  clear p0 p1 p2 p3 p4 r0 r1 r2 r3 r4
  have hcx := fun x : Reg.Later u2 => conv_any (HU10.out.kept (bt hW (bt hu1 (bt hu2 x.ext)))).1 d1 9 Tryz.underlying9
  have hcy := fun x : Reg.Later u2 => conv_any (HV10.out.kept (bt hW (bt hu1 (bt hu2 x.ext)))).1 d2 9 Tryz.underlying9
  rw [← HSs.out, ← HLn.out] at hcx hcy
  first | (refine Reg.G_step (i := 6) rfl (by kernel_rfl) (by rfl) (fun K hK => ?_); go_big_quiet_op; refine hK _ ?_; clear hK K) | (refine Reg.G_skip (i := 6) rfl (by kernel_rfl) (by rfl) ?_; simp only [Act.put, List.setIfInBounds_toArray, List.set_cons_zero, List.set_cons_succ])
  first | (refine Reg.G_step (i := 7) rfl (by kernel_rfl) (by rfl) (fun K hK => ?_); go_big_quiet_op; refine hK _ ?_; clear hK K) | (refine Reg.G_skip (i := 7) rfl (by kernel_rfl) (by rfl) ?_; simp only [Act.put, List.setIfInBounds_toArray, List.set_cons_zero, List.set_cons_succ])
  first | (refine Reg.G_step (i := 8) rfl (by kernel_rfl) (by rfl) (fun K hK => ?_); go_big_quiet_op; refine hK _ ?_; clear hK K) | (refine Reg.G_skip (i := 8) rfl (by kernel_rfl) (by rfl) ?_; simp only [Act.put, List.setIfInBounds_toArray, List.set_cons_zero, List.set_cons_succ])
  first | (refine Reg.G_step (i := 9) rfl (by kernel_rfl) (by rfl) (fun K hK => ?_); go_big_quiet_op; refine hK _ ?_; clear hK K) | (refine Reg.G_skip (i := 9) rfl (by kernel_rfl) (by rfl) ?_; simp only [Act.put, List.setIfInBounds_toArray, List.set_cons_zero, List.set_cons_succ])
  first | (refine Reg.G_step (i := 10) rfl (by kernel_rfl) (by rfl) (fun K hK => ?_); go_big_quiet_op; refine hK _ ?_; clear hK K) | (refine Reg.G_skip (i := 10) rfl (by kernel_rfl) (by rfl) ?_; simp only [Act.put, List.setIfInBounds_toArray, List.set_cons_zero, List.set_cons_succ])
  first | (refine Reg.G_step (i := 11) rfl (by kernel_rfl) (by rfl) (fun K hK => ?_); go_big_quiet_op; refine hK _ ?_; clear hK K) | (refine Reg.G_skip (i := 11) rfl (by kernel_rfl) (by rfl) ?_; simp only [Act.put, List.setIfInBounds_toArray, List.set_cons_zero, List.set_cons_succ])
  first | (refine Reg.G_step (i := 12) rfl (by kernel_rfl) (by rfl) (fun K hK => ?_); go_big_quiet_op; refine hK _ ?_; clear hK K) | (refine Reg.G_skip (i := 12) rfl (by kernel_rfl) (by rfl) ?_; simp only [Act.put, List.setIfInBounds_toArray, List.set_cons_zero, List.set_cons_succ])
  first | (refine Reg.G_step (i := 13) rfl (by kernel_rfl) (by rfl) (fun K hK => ?_); go_big_quiet_op; refine hK _ ?_; clear hK K) | (refine Reg.G_skip (i := 13) rfl (by kernel_rfl) (by rfl) ?_; simp only [Act.put, List.setIfInBounds_toArray, List.set_cons_zero, List.set_cons_succ])
  first | (refine Reg.G_step (i := 14) rfl (by kernel_rfl) (by rfl) (fun K hK => ?_); go_big_quiet_op; refine hK _ ?_; clear hK K) | (refine Reg.G_skip (i := 14) rfl (by kernel_rfl) (by rfl) ?_; simp only [Act.put, List.setIfInBounds_toArray, List.set_cons_zero, List.set_cons_succ])
  first | (refine Reg.G_step (i := 15) rfl (by kernel_rfl) (by rfl) (fun K hK => ?_); go_big_quiet_op; refine hK _ ?_; clear hK K) | (refine Reg.G_skip (i := 15) rfl (by kernel_rfl) (by rfl) ?_; simp only [Act.put, List.setIfInBounds_toArray, List.set_cons_zero, List.set_cons_succ])
  first | (refine Reg.G_step (i := 16) rfl (by kernel_rfl) (by rfl) (fun K hK => ?_); go_big_quiet_op; refine hK _ ?_; clear hK K) | (refine Reg.G_skip (i := 16) rfl (by kernel_rfl) (by rfl) ?_; simp only [Act.put, List.setIfInBounds_toArray, List.set_cons_zero, List.set_cons_succ])
  first | (refine Reg.G_step (i := 17) rfl (by kernel_rfl) (by rfl) (fun K hK => ?_); go_big_quiet_op; refine hK _ ?_; clear hK K) | (refine Reg.G_skip (i := 17) rfl (by kernel_rfl) (by rfl) ?_; simp only [Act.put, List.setIfInBounds_toArray, List.set_cons_zero, List.set_cons_succ])
  first | (refine Reg.G_step (i := 18) rfl (by kernel_rfl) (by rfl) (fun K hK => ?_); go_big_quiet_op; refine hK _ ?_; clear hK K) | (refine Reg.G_skip (i := 18) rfl (by kernel_rfl) (by rfl) ?_; simp only [Act.put, List.setIfInBounds_toArray, List.set_cons_zero, List.set_cons_succ])
  first | (refine Reg.G_step (i := 19) rfl (by kernel_rfl) (by rfl) (fun K hK => ?_); go_big_quiet_op; refine hK _ ?_; clear hK K) | (refine Reg.G_skip (i := 19) rfl (by kernel_rfl) (by rfl) ?_; simp only [Act.put, List.setIfInBounds_toArray, List.set_cons_zero, List.set_cons_succ])
  first | (refine Reg.G_step (i := 20) rfl (by kernel_rfl) (by rfl) (fun K hK => ?_); go_big_quiet_op; refine hK _ ?_; clear hK K) | (refine Reg.G_skip (i := 20) rfl (by kernel_rfl) (by rfl) ?_; simp only [Act.put, List.setIfInBounds_toArray, List.set_cons_zero, List.set_cons_succ])
  first | (refine Reg.G_step (i := 21) rfl (by kernel_rfl) (by rfl) (fun K hK => ?_); go_big_quiet_op; refine hK _ ?_; clear hK K) | (refine Reg.G_skip (i := 21) rfl (by kernel_rfl) (by rfl) ?_; simp only [Act.put, List.setIfInBounds_toArray, List.set_cons_zero, List.set_cons_succ])
  first | (refine Reg.G_step (i := 22) rfl (by kernel_rfl) (by rfl) (fun K hK => ?_); go_big_quiet_op; refine hK _ ?_; clear hK K) | (refine Reg.G_skip (i := 22) rfl (by kernel_rfl) (by rfl) ?_; simp only [Act.put, List.setIfInBounds_toArray, List.set_cons_zero, List.set_cons_succ])
  first | (refine Reg.G_step (i := 23) rfl (by kernel_rfl) (by rfl) (fun K hK => ?_); go_big_quiet_op; refine hK _ ?_; clear hK K) | (refine Reg.G_skip (i := 23) rfl (by kernel_rfl) (by rfl) ?_; simp only [Act.put, List.setIfInBounds_toArray, List.set_cons_zero, List.set_cons_succ])
  first | (refine Reg.G_step (i := 24) rfl (by kernel_rfl) (by rfl) (fun K hK => ?_); go_big_quiet_op; refine hK _ ?_; clear hK K) | (refine Reg.G_skip (i := 24) rfl (by kernel_rfl) (by rfl) ?_; simp only [Act.put, List.setIfInBounds_toArray, List.set_cons_zero, List.set_cons_succ])
  first | (refine Reg.G_step (i := 25) rfl (by kernel_rfl) (by rfl) (fun K hK => ?_); go_big_quiet_op; refine hK _ ?_; clear hK K) | (refine Reg.G_skip (i := 25) rfl (by kernel_rfl) (by rfl) ?_; simp only [Act.put, List.setIfInBounds_toArray, List.set_cons_zero, List.set_cons_succ])
  first | (refine Reg.G_step (i := 26) rfl (by kernel_rfl) (by rfl) (fun K hK => ?_); go_big_quiet_op; refine hK _ ?_; clear hK K) | (refine Reg.G_skip (i := 26) rfl (by kernel_rfl) (by rfl) ?_; simp only [Act.put, List.setIfInBounds_toArray, List.set_cons_zero, List.set_cons_succ])
  first | (refine Reg.G_step (i := 27) rfl (by kernel_rfl) (by rfl) (fun K hK => ?_); go_big_quiet_op; refine hK _ ?_; clear hK K) | (refine Reg.G_skip (i := 27) rfl (by kernel_rfl) (by rfl) ?_; simp only [Act.put, List.setIfInBounds_toArray, List.set_cons_zero, List.set_cons_succ])
  first | (refine Reg.G_step (i := 28) rfl (by kernel_rfl) (by rfl) (fun K hK => ?_); go_big_quiet_op; refine hK _ ?_; clear hK K) | (refine Reg.G_skip (i := 28) rfl (by kernel_rfl) (by rfl) ?_; simp only [Act.put, List.setIfInBounds_toArray, List.set_cons_zero, List.set_cons_succ])
  first | (refine Reg.G_step (i := 29) rfl (by kernel_rfl) (by rfl) (fun K hK => ?_); go_big_quiet_op; refine hK _ ?_; clear hK K) | (refine Reg.G_skip (i := 29) rfl (by kernel_rfl) (by rfl) ?_; simp only [Act.put, List.setIfInBounds_toArray, List.set_cons_zero, List.set_cons_succ])
  first | (refine Reg.G_step (i := 30) rfl (by kernel_rfl) (by rfl) (fun K hK => ?_); go_big_quiet_op; refine hK _ ?_; clear hK K) | (refine Reg.G_skip (i := 30) rfl (by kernel_rfl) (by rfl) ?_; simp only [Act.put, List.setIfInBounds_toArray, List.set_cons_zero, List.set_cons_succ])
  first | (refine Reg.G_step (i := 31) rfl (by kernel_rfl) (by rfl) (fun K hK => ?_); go_big_quiet_op; refine hK _ ?_; clear hK K) | (refine Reg.G_skip (i := 31) rfl (by kernel_rfl) (by rfl) ?_; simp only [Act.put, List.setIfInBounds_toArray, List.set_cons_zero, List.set_cons_succ])
  first | (refine Reg.G_step (i := 32) rfl (by kernel_rfl) (by rfl) (fun K hK => ?_); go_big_quiet_op; refine hK _ ?_; clear hK K) | (refine Reg.G_skip (i := 32) rfl (by kernel_rfl) (by rfl) ?_; simp only [Act.put, List.setIfInBounds_toArray, List.set_cons_zero, List.set_cons_succ])
  first | (refine Reg.G_step (i := 33) rfl (by kernel_rfl) (by rfl) (fun K hK => ?_); go_big_quiet_op; refine hK _ ?_; clear hK K) | (refine Reg.G_skip (i := 33) rfl (by kernel_rfl) (by rfl) ?_; simp only [Act.put, List.setIfInBounds_toArray, List.set_cons_zero, List.set_cons_succ])
  first | (refine Reg.G_step (i := 34) rfl (by kernel_rfl) (by rfl) (fun K hK => ?_); go_big_quiet_op; refine hK _ ?_; clear hK K) | (refine Reg.G_skip (i := 34) rfl (by kernel_rfl) (by rfl) ?_; simp only [Act.put, List.setIfInBounds_toArray, List.set_cons_zero, List.set_cons_succ])
  first | (refine Reg.G_step (i := 36) rfl (by kernel_rfl) (by rfl) (fun K hK => ?_); go_big_quiet_op; refine hK _ ?_; clear hK K) | (refine Reg.G_skip (i := 36) rfl (by kernel_rfl) (by rfl) ?_; simp only [Act.put, List.setIfInBounds_toArray, List.set_cons_zero, List.set_cons_succ])
  refine Reg.G_event (i := 35) rfl (by kernel_rfl) (by rfl) (fun K hK => ?_)
  go_simp
  refine (HS1.out _ hB2).mono ?_
  rintro e u3 ⟨rfl, hu3⟩
  refine hK _ _ hu3 ?_
  clear hK K x0 x1 x2 x3 x4 y0 y1 y2 y3 y4 hcx hcy
  have HB3 := Lib.hid (bt hB2 hu3)
  first | (refine Reg.G_step (i := 37) rfl (by kernel_rfl) (by rfl) (fun K hK => ?_); go_big_quiet_op; refine hK _ ?_; clear hK K) | (refine Reg.G_skip (i := 37) rfl (by kernel_rfl) (by rfl) ?_; simp only [Act.put, List.setIfInBounds_toArray, List.set_cons_zero, List.set_cons_succ])
  first | (refine Reg.G_step (i := 38) rfl (by kernel_rfl) (by rfl) (fun K hK => ?_); go_big_quiet_op; refine hK _ ?_; clear hK K) | (refine Reg.G_skip (i := 38) rfl (by kernel_rfl) (by rfl) ?_; simp only [Act.put, List.setIfInBounds_toArray, List.set_cons_zero, List.set_cons_succ])
  first | (refine Reg.G_step (i := 39) rfl (by kernel_rfl) (by rfl) (fun K hK => ?_); go_big_quiet_op; refine hK _ ?_; clear hK K) | (refine Reg.G_skip (i := 39) rfl (by kernel_rfl) (by rfl) ?_; simp only [Act.put, List.setIfInBounds_toArray, List.set_cons_zero, List.set_cons_succ])
  refine Reg.G_done rfl ?_
  go_wp2_with fail
  go_ret
  exact ⟨ret_v (x := .bool true) (by first | rfl | simp), HB3.out⟩
end Go.Proofs.YtbmdkibmfkmjoaaGreat.Qy

namespace Go.Proofs.YtbmdkibmfkmjoaaGreat.queryTells
open Go.ChangeShapes Go.WideShapes Go.ChangeAt Go.RowKit

theorem own : ownKnob Tryz.prog.godebug = none := by kernel_rfl
theorem laidOut : laidOutB Tryz.prog = true := by kernel_rfl

set_option maxRecDepth 100000 in
theorem lifted (os : Os) (started : os.Started) (H : Type) (enc : TypeId × Value → H) :
    ReturnsInHanded {} Tryz.checked os 3 .any (Rows.queryTellsSpec.pre6 enc Tryz.prog Tryz.f3 Rows.queryTellsRow.domain false) (Rows.queryTellsSpec.post enc Tryz.prog Tryz.f3 false true false false) := by
  refine returnsInHanded_of_change (C := Tryz.checked) own started (by kernel_rfl) Tryz.func3
    (ChangeSpec.witness6 (enc := enc) (C := Tryz.checked) false ⟨#[], #[.slice none 0 0, .agg #[.slice none 0 0, .int .i64 0, .int .i64 0, .int .i64 0, .int .i64 0], .agg #[.slice none 0 0, .int .i64 0, .int .i64 0, .int .i64 0, .int .i64 0], .slice none 0 0], []⟩ 8 (by kernel_rfl) (by kernel_rfl) (by kernel_rfl) (by kernel_rfl)) ?_
  intro W base args ds gs before hval0 hW hcnd _
  have hval : ∀ (j : Nat) t v, Tryz.f3.params[j]? = some t → args[j]? = some v → Value.okWide Tryz.prog W .any base t v := hval0
  have hW' := hW
  obtain ⟨p, q, hA0, hV, rfl, hfz, hnd⟩ := hW
  have hA : DataW.TrodAll enc Tryz.prog W 0 (fun _ => true) true Tryz.f3.params.toList args.toList ds p := hA0
  rw [Tryz.params3] at hA hval
  obtain ⟨v0, vs0, d0, ds0, p0, q0, hargs, rfl, rfl, h0, r0⟩ := trodAll_cons hA
  obtain ⟨v1, vs1, d1, ds1, p1, q1, rfl, rfl, rfl, h1, r1⟩ := trodAll_cons r0
  obtain ⟨v2, vs2, d2, ds2, p2, q2, rfl, rfl, rfl, h2, r2⟩ := trodAll_cons r1
  obtain ⟨v3, vs3, d3, ds3, p3, q3, rfl, rfl, rfl, h3, r3⟩ := trodAll_cons r2
  obtain ⟨rfl, rfl, rfl⟩ := trodAll_nil r3
  obtain rfl : args = #[v0, v1, v2, v3] := by cases args; simp_all
  obtain ⟨rfl, rfl⟩ := trodVars_none hV
  have k0 := h0
  have lt0 : ∀ x ∈ p0, x.block < W.heap.size := by obtain ⟨m, hm⟩ := k0; exact DataW.trod_lt m _ _ _ hm
  obtain ⟨a0, len0, cap0, rfl, w0⟩ := Op.open_schemas (hval 0 22 v0 rfl rfl) h0
  have k1 := h1
  have lt1 : ∀ x ∈ p1, x.block < W.heap.size := by obtain ⟨m, hm⟩ := k1; exact DataW.trod_lt m _ _ _ hm
  obtain ⟨qw1, qa1, qi1, qf1, a1, len1, cap1, rfl, w1⟩ := Op.open_query (hval 1 25 v1 rfl rfl) h1
  have k2 := h2
  have lt2 : ∀ x ∈ p2, x.block < W.heap.size := by obtain ⟨m, hm⟩ := k2; exact DataW.trod_lt m _ _ _ hm
  obtain ⟨qw2, qa2, qi2, qf2, a2, len2, cap2, rfl, w2⟩ := Op.open_query (hval 2 25 v2 rfl rfl) h2
  have k3 := h3
  have lt3 : ∀ x ∈ p3, x.block < W.heap.size := by obtain ⟨m, hm⟩ := k3; exact DataW.trod_lt m _ _ _ hm
  obtain ⟨a3, len3, cap3, z3, rfl, w3⟩ := Op.open_bytes (hval 3 26 v3 rfl rfl) h3
  clear hA0 hval0
  refine (Go.Proofs.YtbmdkibmfkmjoaaGreat.Qy.tells_walk a0 len0 cap0 qw1 qa1 qi1 qf1 a1 len1 cap1 qw2 qa2 qi2 qf2 a2 len2 cap2 a3 len3 cap3 z3 W w0 w1 w2 w3).mono fun e W' ⟨he, bel⟩ => ?_
  subst he
  exact ⟨_, rfl, _, _, _, [], _, [], hW', trodAll_mk1 (shut_bool Tryz.underlying4 _), (trodAll_cons_mk (Below.trod laidOut (by kernel_rfl) (of_decide_eq_true (by kernel_rfl)) k0 bel lt0) (trodAll_cons_mk (Below.trod laidOut (by kernel_rfl) (of_decide_eq_true (by kernel_rfl)) k1 bel lt1) (trodAll_cons_mk (Below.trod laidOut (by kernel_rfl) (of_decide_eq_true (by kernel_rfl)) k2 bel lt2) (trodAll_cons_mk (Below.trod laidOut (by kernel_rfl) (of_decide_eq_true (by kernel_rfl)) k3 bel lt3) trodAll_mk0)))), rfl, bel.frame _, fun h => by cases h⟩

theorem over : Rows.queryTellsRow.holds Tryz.pinned (OpenSpec.ofChange Rows.queryTellsSpec) :=
  OpenClaim.holds_of_wide 3 Tryz.f3 rfl rfl rfl rfl rfl rfl rfl ⟨rfl, rfl, rfl, rfl, rfl⟩ rfl rfl rfl rfl rfl (by kernel_rfl) Tryz.func3 (by kernel_rfl)
    (of_decide_eq_true (by kernel_rfl)) (by unfold Func.isWrapper; first | (rw [if_pos (by decide +kernel)]; kernel_rfl) | (rw [if_neg (by decide +kernel)]; exact ⟨rfl, rfl⟩))
    (fun os started H enc _ => lifted os started H enc)

theorem proved : Rows.QueryTellsSaid := over
#print axioms proved
end Go.Proofs.YtbmdkibmfkmjoaaGreat.queryTells
