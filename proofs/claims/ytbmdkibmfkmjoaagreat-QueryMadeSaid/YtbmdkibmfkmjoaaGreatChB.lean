/- Several texts in one: what this layer has; what each asks is said at each theorem. -/
import Derived.Test.YtbmdkibmfkmjoaaGreatChA
import Derived.Test.YtbmdkibmfkmjoaaGreatGrams
import Derived.Test.YtbmdkibmfkmjoaaGreatRowG
import Derived.Test.YtbmdkibmfkmjoaaGreatPutSl
import Derived.Test.YtbmdkibmfkmjoaaGreatStrCore
import Derived.Test.YtbmdkibmfkmjoaaGreatQueryMath
import Derived.Test.YtbmdkibmfkmjoaaGreatBMem
import Derived.Test.YtbmdkibmfkmjoaaGreatSlB
import Derived.Test.YtbmdkibmfkmjoaaGreatStr
import Derived.Laws.IdiomStrings
import Derived.Test.YtbmdkibmfkmjoaaGreatIsRow
import Derived.Maps.AppendAt
import Derived.WalkSmall
import Derived.Lib.AppendZerosOnto
import Derived.Lib.Walk
import Derived.Lib.SliceRun
import Derived.Test.YtbmdkibmfkmjoaaGreatQueryAg
import Derived.Test.YtbmdkibmfkmjoaaGreatOpRow
import Derived.Test.YtbmdkibmfkmjoaaGreatValueEq
import Derived.BigQuiet
import Derived.Deep.QuietTactic
import Derived.Test.YtbmdkibmfkmjoaaGreatRegion
import Derived.Laws.AppendOwnNone
import Derived.Test.YtbmdkibmfkmjoaaGreatRegMath
import Derived.Test.YtbmdkibmfkmjoaaGreatExprMath
import Derived.Test.YtbmdkibmfkmjoaaGreatSchemaMath
import Derived.Test.YtbmdkibmfkmjoaaGreatExprThing
import Derived.Test.YtbmdkibmfkmjoaaGreatExprAs
import Derived.Test.YtbmdkibmfkmjoaaGreatExprAlike
import Derived.Test.YtbmdkibmfkmjoaaGreatExprLessOwn
import Derived.Test.YtbmdkibmfkmjoaaGreatExprJudge
import Derived.Test.YtbmdkibmfkmjoaaGreatExprGoes
import Derived.Test.YtbmdkibmfkmjoaaGreatExprBytes
import Derived.Test.YtbmdkibmfkmjoaaGreatValueApp

namespace Go.Proofs.YtbmdkibmfkmjoaaGreat.Qy
open Go.RowKit Go.Proofs.YtbmdkibmfkmjoaaGreat.BM Go.Proofs.YtbmdkibmfkmjoaaGreat.LM Go.Proofs.YtbmdkibmfkmjoaaGreat.LeM Go.Proofs.YtbmdkibmfkmjoaaGreat.VaM Go.Proofs.YtbmdkibmfkmjoaaGreat.ExM Go.Proofs.YtbmdkibmfkmjoaaGreat.QyM
open Go.Proofs.YtbmdkibmfkmjoaaGreat.Ex (SlO slO_none)
open Go.Proofs.YtbmdkibmfkmjoaaGreat.Va (Bx2 bx2_new bx2_set0 bx2_set1 ret_v)
open Go.Proofs.YtbmdkibmfkmjoaaGreat.Sc (Rdd grown_set grown_trans slB_grown)

theorem oQ_of {s s1 s2 s3 s4 s5 : ScM.Rs} {p : List St} {v2 v3 v4 v5 : Nat} (e1 : several oStep 4 s = (p, s1)) (e2 : oNum s1 = (v2, s2)) (e3 : oNum s2 = (v3, s3)) (e4 : oNum s3 = (v4, s4)) (e5 : oNum s4 = (v5, s5)) :
    oQ s = (⟨p, wrp v2, wrp v3, wrp v4, wrp v5⟩, s5) := by
  unfold oQ oQP
  simp only [both, e1, e2, e3, e4, e5, qOfL]

set_option maxRecDepth 100000 in
set_option maxHeartbeats 8000000 in
theorem query_any (b : Nat) (A : Option Addr) (xs : List Int) (c : Nat) (s : ScM.Rs) (w : World) (R : Rdd b A c xs w s w) (hx : Bytes w b A xs c) (hb : b < w.heap.size) :
    Calls Tryz.prog 29 #[.pointer (some ⟨b, 0, none⟩)] w fun e w' =>
      (∃ A1 c1, e = .returned (agQ (oQ s).1 A1 c1) ∧ SlUp w.heap.size w' A1 (oQ s).1.p c1) ∧ Rdd b A c xs w (oQ s).2 w' := by
  have hmf : ∀ (fn : Fn) (first cap : Array Value) (w : World), (Instr.makeFunc fn first cap).run Tryz.prog w = .ok (.func fn first cap) w := fun _ _ _ _ => rfl
  have hN0 := RG.bxN_new w 25 [.slice none 0 0, .int .i64 0, .int .i64 0, .int .i64 0, .int .i64 0]
  have ha0 := (Below.refl w.heap.size w).alloc (Nat.le_refl _) (.cells #[.slice none 0 0, .int .i64 0, .int .i64 0, .int .i64 0, .int .i64 0] 25)
  have hR0 := rdd_below R ha0
  have HX := Lib.hid hx
  obtain ⟨⟨p, s1⟩, e1⟩ : ∃ r, r = several oStep 4 s := ⟨_, rfl⟩
  obtain ⟨⟨v2, s2⟩, e2⟩ : ∃ r, r = oNum s1 := ⟨_, rfl⟩
  obtain ⟨⟨v3, s3⟩, e3⟩ : ∃ r, r = oNum s2 := ⟨_, rfl⟩
  obtain ⟨⟨v4, s4⟩, e4⟩ : ∃ r, r = oNum s3 := ⟨_, rfl⟩
  obtain ⟨⟨v5, s5⟩, e5⟩ : ∃ r, r = oNum s4 := ⟨_, rfl⟩
  rw [oQ_of e1.symm e2.symm e3.symm e4.symm e5.symm]
  have c1' := fun W (h : Rdd b A c xs w s W) (hbW : b < W.heap.size) => acc2 h hx fun A' c' R hB => steps_any b A' s.1 c' s W R hB hbW
  have c2' := fun W (h : Rdd b A c xs w s1 W) => number_acc (W := W) h hx
  have c3' := fun W (h : Rdd b A c xs w s2 W) => number_acc (W := W) h hx
  have c4' := fun W (h : Rdd b A c xs w s3 W) => number_acc (W := W) h hx
  have c5' := fun W (h : Rdd b A c xs w s4 W) => number_acc (W := W) h hx
  simp only [← e1] at c1'
  simp only [← e2] at c2'
  simp only [← e3] at c3'
  simp only [← e4] at c4'
  simp only [← e5] at c5'
  obtain ⟨z2, h2⟩ : ∃ z, z = wrp v2 := ⟨_, rfl⟩
  obtain ⟨z3, h3⟩ : ∃ z, z = wrp v3 := ⟨_, rfl⟩
  obtain ⟨z4, h4⟩ : ∃ z, z = wrp v4 := ⟨_, rfl⟩
  obtain ⟨z5, h5⟩ : ∃ z, z = wrp v5 := ⟨_, rfl⟩
  simp only [← h2] at c2' ⊢
  simp only [← h3] at c3' ⊢
  simp only [← h4] at c4' ⊢
  simp only [← h5] at c5' ⊢
  obtain ⟨n, hn⟩ : ∃ n, n = p.length := ⟨_, rfl⟩
  simp only [← hn] at c1'
  have HC1 := Lib.hid c1'
  have HC2 := Lib.hid c2'
  have HC3 := Lib.hid c3'
  have HC4 := Lib.hid c4'
  have HC5 := Lib.hid c5'
  have HNn := Lib.hid hn
  have HN0 := Lib.hid hN0
  have HR0 := Lib.hid hR0
  clear c1' c2' c3' c4' c5' e1 e2 e3 e4 e5 h2 h3 h4 h5 hn hN0 hR0 ha0 R hx
  go_enter Tryz.func29, Tryz.ntmps29
  go_wp2_with fail
  obtain ⟨w0, hw0⟩ : ∃ w0, w0 = w.alloc (.cells #[.slice none 0 0, .int .i64 0, .int .i64 0, .int .i64 0, .int .i64 0] 25) := ⟨_, rfl⟩
  have hz0 : w0.heap.size = w.heap.size + 1 := by rw [hw0]; simp
  rw [show (List.toArray [Value.slice none 0 0, .int .i64 0, .int .i64 0, .int .i64 0, .int .i64 0]) = #[Value.slice none 0 0, .int .i64 0, .int .i64 0, .int .i64 0, .int .i64 0] from rfl, ← hw0] at HN0
  rw [← hw0] at HR0 ⊢
  clear hw0
  refine (HC1.out w0 HR0.out (by omega)).mono ?_
  rintro e w1 ⟨⟨A1, c1, rfl, hu1⟩, hr1, hg1⟩
  rw [hz0] at hu1
  have HR1 := Lib.hid hr1
  have HU1 := Lib.hid hu1
  have HN1 := Lib.hid (RG.BxN.grown HN0.out hg1 (fun e => by injection e with e; omega))
  clear hr1 hg1 hu1 HN0 HR0 HC1
  go_wp2_with fail
  refine (HC2.out w1 HR1.out).mono ?_
  rintro e w2 ⟨rfl, hr2, hg2⟩
  have HR2 := Lib.hid hr2
  have HU2 := Lib.hid (HU1.out.grown hg2 (by omega))
  have HN2 := Lib.hid (RG.BxN.grown HN1.out hg2 (fun e => by injection e with e; omega))
  clear hr2 hg2 HU1 HN1 HR1 HC2
  go_wp2_with fail
  refine (HC3.out w2 HR2.out).mono ?_
  rintro e w3 ⟨rfl, hr3, hg3⟩
  have HR3 := Lib.hid hr3
  have HU3 := Lib.hid (HU2.out.grown hg3 (by omega))
  have HN3 := Lib.hid (RG.BxN.grown HN2.out hg3 (fun e => by injection e with e; omega))
  clear hr3 hg3 HU2 HN2 HR2 HC3
  go_wp2_with fail
  refine (HC4.out w3 HR3.out).mono ?_
  rintro e w4 ⟨rfl, hr4, hg4⟩
  have HR4 := Lib.hid hr4
  have HU4 := Lib.hid (HU3.out.grown hg4 (by omega))
  have HN4 := Lib.hid (RG.BxN.grown HN3.out hg4 (fun e => by injection e with e; omega))
  clear hr4 hg4 HU3 HN3 HR3 HC4
  go_wp2_with fail
  refine (HC5.out w4 HR4.out).mono ?_
  rintro e w5 ⟨rfl, hr5, hg5⟩
  have hu5 := HU4.out.grown hg5 (by omega)
  have hn5 := RG.BxN.grown HN4.out hg5 (fun e => by injection e with e; omega)
  obtain ⟨W7, hW7⟩ : ∃ W7, W7 = put5 w5 w.heap.size (.slice A1 n c1) (.int .i64 z2) (.int .i64 z3) (.int .i64 z4) (.int .i64 z5) := ⟨_, rfl⟩
  have hb7 := bx5_put hn5 (.slice A1 n c1) (.int .i64 z2) (.int .i64 z3) (.int .i64 z4) (.int .i64 z5)
  have hg7 := grown5 w5 w.heap.size (.slice A1 n c1) (.int .i64 z2) (.int .i64 z3) (.int .i64 z4) (.int .i64 z5)
  rw [← hW7] at hb7 hg7
  have HR7 := Lib.hid (rdd_own hr5 hg7 (fun q e => by injection e with e; omega) hb)
  have hu7 := hu5.grown hg7 (by omega)
  have HU7 := Lib.hid (show SlUp w.heap.size W7 A1 p c1 from ⟨RG.SlG.mono hu7.1 fun _ _ h => Nat.le_of_succ_le h, fun a ha => Nat.le_of_succ_le (hu7.2 a ha)⟩)
  have HB7 := Lib.hid hb7
  obtain ⟨n0, n1, n2, n3, n4⟩ := bx5 hn5
  obtain ⟨m0, m1, m2, m3, m4⟩ := bx5_free hn5
  unfold put5 at hW7
  have HW7 := Lib.hid hW7
  clear hr5 hg5 hu5 hn5 hb7 hg7 hu7 hW7 HU4 HN4 HR4 HC5
  go_wp2_with fail
  rw [← HW7.out]
  obtain ⟨g0, g1, g2, g3, g4⟩ := bx5 HB7.out
  exact bodyPost_ret (v := .agg #[.slice A1 n c1, .int .i64 z2, .int .i64 z3, .int .i64 z4, .int .i64 z5]) (by simp [results, Tryz.results29, go_sem, g0, g1, g2, g3, g4]) rfl
    ⟨⟨A1, c1, by rw [HNn.out]; rfl, HU7.out⟩, HR7.out⟩

set_option maxRecDepth 100000 in
set_option maxHeartbeats 16000000 in
theorem Get_any (A : Option Addr) (xs : List Int) (c : Nat) (w : World) (h : SlB w A xs c) :
    Calls Tryz.prog 11 #[.slice A xs.length c] w (GotsQ xs w) := by
  have hxm := h.2.2.2
  have hxc := h.2.1
  unfold maxLen at hxm
  have hgo := gQ_own h.1.1
  have hle := rdr_q.less (s := (xs, false))
  have hN0 := RG.bxN_new w 25 [.slice none 0 0, .int .i64 0, .int .i64 0, .int .i64 0, .int .i64 0]
  have ha0 := (Below.refl w.heap.size w).alloc (Nat.le_refl _) (.cells #[.slice none 0 0, .int .i64 0, .int .i64 0, .int .i64 0, .int .i64 0] 25)
  obtain ⟨w0, hw0⟩ : ∃ w0, w0 = w.alloc (.cells #[.slice none 0 0, .int .i64 0, .int .i64 0, .int .i64 0, .int .i64 0] 25) := ⟨_, rfl⟩
  have hs0 : w0.heap.size = w.heap.size + 1 := by rw [hw0]; simp
  rw [show (List.toArray [Value.slice none 0 0, .int .i64 0, .int .i64 0, .int .i64 0, .int .i64 0]) = #[Value.slice none 0 0, .int .i64 0, .int .i64 0, .int .i64 0, .int .i64 0] from rfl] at hN0
  rw [← hw0] at hN0 ha0
  have ha1 := (Below.refl w0.heap.size w0).alloc (Nat.le_refl _) (.cells #[.slice A xs.length c, .bool false] 59)
  have hB1 := bx2_new w0 59 (.slice A xs.length c) (.bool false)
  have hN1 := RG.BxN.kept hN0 ha1
  obtain ⟨w1, hw1⟩ : ∃ w1, w1 = w0.alloc (.cells #[.slice A xs.length c, .bool false] 59) := ⟨_, rfl⟩
  have hs1 : w1.heap.size = w.heap.size + 2 := by rw [hw1]; simp; omega
  rw [← hw1] at ha1 hB1 hN1
  rw [hs0] at hB1
  have hb1 := bt ha0 ha1
  have HBy := Lib.hid (fun W (hg : w1.grownBy W (some (w.heap.size + 1))) => h.kept (hb1.grown hg hb1.size (fun k e => by injection e with e; omega)) : Bytes w1 (w.heap.size + 1) A xs c)
  have hq := query_any (w.heap.size + 1) A xs c (xs, false) w1 (rdd_first hB1 rfl) HBy.out (by omega)
  rw [hw1, hw0] at hq
  rw [hw0] at hw1
  unfold GotsQ
  obtain ⟨⟨q, left, sh⟩, hoq⟩ : ∃ r, r = oQ (xs, false) := ⟨_, rfl⟩
  rw [← hoq] at hgo hle hq
  simp only at hgo hle hq
  obtain ⟨G, hG⟩ : ∃ G, G = gotQ (gQ xs) := ⟨_, rfl⟩
  rw [← hG] at hgo ⊢
  obtain ⟨xn, hxn⟩ : ∃ n, n = xs.length := ⟨_, rfl⟩
  obtain ⟨m, hm⟩ : ∃ n, n = left.length := ⟨_, rfl⟩
  rw [← hxn] at hgo hle hxc hw1 hq ⊢
  rw [← hm] at hgo hle
  have HGo := Lib.hid hgo
  have HQ := Lib.hid hq
  have HN1 := Lib.hid hN1
  have HB1 := Lib.hid hb1
  have HW1 := Lib.hid hw1
  have HM := Lib.hid hm
  clear hgo hN0 ha0 hw0 hs0 ha1 hB1 hN1 hw1 hb1 hq hoq hG hxn hm h w0
  go_enter Tryz.func11, Tryz.ntmps11
  go_wp2_with fail
  refine HQ.out.mono ?_
  rw [← HW1.out]
  rintro e w2 ⟨⟨A1, c1, rfl, hu2⟩, hr2⟩
  obtain ⟨hg2, A2, c2, hbx2, _⟩ := hr2
  simp only at hbx2
  rw [← HM.out] at hbx2
  have hN2 := RG.BxN.grown HN1.out hg2 (fun e => by injection e with e; omega)
  have hB2 := HB1.out.grown hg2 HB1.out.size (fun k e => by injection e with e; omega)
  have hz2 : w.heap.size + 2 ≤ w2.heap.size := by have := hg2.size; omega
  clear HQ HW1 HN1
  have hwm := fun W (h : Below w2.heap.size w2 W) => wellMade_any q A1 c1 W (hu2.kept h).st
  unfold agQ at hwm
  obtain ⟨qp, qw, qa, qi, qf⟩ := q
  simp only at hu2 hwm
  obtain ⟨k, hk⟩ : ∃ n, n = qp.length := ⟨_, rfl⟩
  unfold agQ
  simp only
  rw [← hk]
  simp only [← hk] at hwm
  have ha3 := (Below.refl w2.heap.size w2).alloc (Nat.le_refl _) (.cells #[.slice A1 k c1, .int .i64 qw, .int .i64 qa, .int .i64 qi, .int .i64 qf] 25)
  have HQ3 := Lib.hid (RG.bxN_new w2 25 [.slice A1 k c1, .int .i64 qw, .int .i64 qa, .int .i64 qi, .int .i64 qf])
  have HX3 := Lib.hid (hbx2.kept ha3)
  have HN3 := Lib.hid (RG.BxN.kept hN2 ha3)
  have HB3 := Lib.hid (bt hB2 ha3)
  have HU3 := Lib.hid (hu2.kept ha3)
  have HWm := Lib.hid (hwm _ ha3)
  have HK := Lib.hid hk
  obtain ⟨⟨p0, p1⟩, _⟩ := HX3.out
  obtain ⟨q0', q1', q2', q3', q4'⟩ := bx5 HQ3.out
  clear hbx2 hN2 hB2 hu2 hwm ha3 hk hg2
  have hzero : ∀ w6 : World, RG.BxN w6 w.heap.size [.slice none 0 0, .int .i64 0, .int .i64 0, .int .i64 0, .int .i64 0] → Below w.heap.size w w6 → ∃ W7, W7 = put5 w6 w.heap.size (.slice none 0 0) (.int .i64 0) (.int .i64 0) (.int .i64 0) (.int .i64 0) ∧ RG.BxN W7 w.heap.size [.slice none 0 0, .int .i64 0, .int .i64 0, .int .i64 0, .int .i64 0] ∧ Below w.heap.size w W7 := fun w6 hn hb =>
    ⟨_, rfl, bx5_put hn _ _ _ _ _, below5 hb (Nat.le_refl _) _ _ _ _ _⟩
  unfold put5 at hzero
  have HZero := Lib.hid hzero
  clear hzero
  cases sh
  rotate_left
  · have HNo := Lib.hid (show G = (QyM.q0, 0, false) from by rw [HGo.out, if_neg (fun h => by cases h.1)])
    obtain ⟨W7, hW7, hn7, hb7⟩ := HZero.out _ HN3.out HB3.out
    obtain ⟨n0, n1, n2, n3, n4⟩ := bx5 HN3.out
    obtain ⟨m0, m1, m2, m3, m4⟩ := bx5_free HN3.out
    have HW7 := Lib.hid hW7
    have HN7 := Lib.hid hn7
    have HB7 := Lib.hid hb7
    clear hW7 hn7 hb7
    go_wp2_with fail
    rw [← HW7.out]
    obtain ⟨g0, g1, g2, g3, g4⟩ := bx5 HN7.out
    exact bodyPost_ret (v := .tuple #[.agg #[.slice none 0 0, .int .i64 0, .int .i64 0, .int .i64 0, .int .i64 0], .int .i64 0, .bool false]) (by simp [results, Tryz.results11, go_sem, g0, g1, g2, g3, g4]) rfl ⟨none, 0, ret_v (by rw [HNo.out]; rfl), by rw [HNo.out]; exact slSt_none _, HB7.out⟩
  · go_wp2_with fail
    refine HWm.out.mono ?_
    rintro e w4 ⟨rfl, hb4⟩
    have HQ4 := Lib.hid (RG.BxN.kept HQ3.out hb4)
    have HX4 := Lib.hid (HX3.out.kept hb4)
    have HN4 := Lib.hid (RG.BxN.kept HN3.out hb4)
    have HB4 := Lib.hid (bt HB3.out hb4)
    have HU4 := Lib.hid (HU3.out.kept hb4)
    clear hb4 HWm HQ3 HX3 HN3 HB3 HU3 p0 p1 q0' q1' q2' q3' q4'
    obtain ⟨⟨p0, p1⟩, _⟩ := HX4.out
    obtain ⟨q0', q1', q2', q3', q4'⟩ := bx5 HQ4.out
    by_cases hmy : May ⟨qp, qw, qa, qi, qf⟩
    · have HYes := Lib.hid (show G = (⟨qp, qw, qa, qi, qf⟩, xn - m, true) from by rw [HGo.out, if_pos (by first | exact ⟨trivial, hmy⟩ | exact ⟨rfl, hmy⟩)])
      rw [decide_eq_true hmy]
      clear hmy HZero HGo
      go_wp2_with fail
      clear p0 p1 q0' q1' q2' q3' q4'
      refine RegB.GS_start (fun x => RG.BxN x w2.heap.size [.slice A1 k c1, .int .i64 qw, .int .i64 qa, .int .i64 qi, .int .i64 qf] ∧ Bx2 x (w.heap.size + 1) (.slice A2 m c2) (.bool false)) (by kernel_rfl) (by repeat (first | exact Reg.frameless_bodyPost | refine Reg.frameless_then ?_ | refine Reg.frameless_inBlock ?_)) (fun W hW => ⟨RG.BxN.kept HQ4.out hW, HX4.out.kept hW⟩) (fun W hW => ?_)
      have HNW := Lib.hid (RG.BxN.kept HN4.out hW)
      have HBW := Lib.hid (bt HB4.out hW)
      have HUW := Lib.hid (HU4.out.kept hW)
      have HSW := Lib.hid (show RG.BxN W w2.heap.size [.slice A1 k c1, .int .i64 qw, .int .i64 qa, .int .i64 qi, .int .i64 qf] ∧ Bx2 W (w.heap.size + 1) (.slice A2 m c2) (.bool false) from ⟨RG.BxN.kept HQ4.out hW, HX4.out.kept hW⟩)
      have x0 : ∀ x : RegB.At (fun x => RG.BxN x w2.heap.size [.slice A1 k c1, .int .i64 qw, .int .i64 qa, .int .i64 qi, .int .i64 qf] ∧ Bx2 x (w.heap.size + 1) (.slice A2 m c2) (.bool false)), x.world.cell? ⟨w2.heap.size, 0, none⟩ = some (.slice A1 k c1) := fun x => (bx5 x.ok.1).1
      have x1 : ∀ x : RegB.At (fun x => RG.BxN x w2.heap.size [.slice A1 k c1, .int .i64 qw, .int .i64 qa, .int .i64 qi, .int .i64 qf] ∧ Bx2 x (w.heap.size + 1) (.slice A2 m c2) (.bool false)), x.world.cell? ⟨w2.heap.size, 1, none⟩ = some (.int .i64 qw) := fun x => (bx5 x.ok.1).2.1
      have x2 : ∀ x : RegB.At (fun x => RG.BxN x w2.heap.size [.slice A1 k c1, .int .i64 qw, .int .i64 qa, .int .i64 qi, .int .i64 qf] ∧ Bx2 x (w.heap.size + 1) (.slice A2 m c2) (.bool false)), x.world.cell? ⟨w2.heap.size, 2, none⟩ = some (.int .i64 qa) := fun x => (bx5 x.ok.1).2.2.1
      have x3 : ∀ x : RegB.At (fun x => RG.BxN x w2.heap.size [.slice A1 k c1, .int .i64 qw, .int .i64 qa, .int .i64 qi, .int .i64 qf] ∧ Bx2 x (w.heap.size + 1) (.slice A2 m c2) (.bool false)), x.world.cell? ⟨w2.heap.size, 3, none⟩ = some (.int .i64 qi) := fun x => (bx5 x.ok.1).2.2.2.1
      have x4 : ∀ x : RegB.At (fun x => RG.BxN x w2.heap.size [.slice A1 k c1, .int .i64 qw, .int .i64 qa, .int .i64 qi, .int .i64 qf] ∧ Bx2 x (w.heap.size + 1) (.slice A2 m c2) (.bool false)), x.world.cell? ⟨w2.heap.size, 4, none⟩ = some (.int .i64 qf) := fun x => (bx5 x.ok.1).2.2.2.2
      have x5 : ∀ x : RegB.At (fun x => RG.BxN x w2.heap.size [.slice A1 k c1, .int .i64 qw, .int .i64 qa, .int .i64 qi, .int .i64 qf] ∧ Bx2 x (w.heap.size + 1) (.slice A2 m c2) (.bool false)), x.world.cell? ⟨w.heap.size + 1, 0, none⟩ = some (.slice A2 m c2) := fun x => x.ok.2.1.1
      haveI : Nonempty (RegB.At (fun x => RG.BxN x w2.heap.size [.slice A1 k c1, .int .i64 qw, .int .i64 qa, .int .i64 qi, .int .i64 qf] ∧ Bx2 x (w.heap.size + 1) (.slice A2 m c2) (.bool false))) := ⟨⟨W, HSW.out⟩⟩
      clear hW HN4 HB4 HU4 HQ4 HX4
      refine RegB.GS_step (i := 0) rfl (by kernel_rfl) (by rfl) (fun K hK => ?_); go_big_quiet_op; refine hK _ ?_; clear hK K
      refine RegB.GS_step (i := 1) rfl (by kernel_rfl) (by rfl) (fun K hK => ?_); go_big_quiet_op; refine hK _ ?_; clear hK K
      refine RegB.GS_step (i := 2) rfl (by kernel_rfl) (by rfl) (fun K hK => ?_); go_big_quiet_op; refine hK _ ?_; clear hK K
      refine RegB.GS_step (i := 3) rfl (by kernel_rfl) (by rfl) (fun K hK => ?_); go_big_quiet_op; refine hK _ ?_; clear hK K
      refine RegB.GS_step (i := 4) rfl (by kernel_rfl) (by rfl) (fun K hK => ?_); go_big_quiet_op; refine hK _ ?_; clear hK K
      refine RegB.GS_step (i := 5) rfl (by kernel_rfl) (by rfl) (fun K hK => ?_); go_big_quiet_op; refine hK _ ?_; clear hK K
      refine RegB.GS_step (i := 6) rfl (by kernel_rfl) (by rfl) (fun K hK => ?_); go_big_quiet_op; refine hK _ ?_; clear hK K
      obtain ⟨W7, hW7⟩ : ∃ W7, W7 = put5 W w.heap.size (.slice A1 k c1) (.int .i64 qw) (.int .i64 qa) (.int .i64 qi) (.int .i64 qf) := ⟨_, rfl⟩
      have hn7 := bx5_put HNW.out (.slice A1 k c1) (.int .i64 qw) (.int .i64 qa) (.int .i64 qi) (.int .i64 qf)
      have hg7 := grown5 W w.heap.size (.slice A1 k c1) (.int .i64 qw) (.int .i64 qa) (.int .i64 qi) (.int .i64 qf)
      have hb7 := below5 HBW.out (Nat.le_refl _) (.slice A1 k c1) (.int .i64 qw) (.int .i64 qa) (.int .i64 qi) (.int .i64 qf)
      rw [← hW7] at hn7 hg7 hb7
      have hS7 : RG.BxN W7 w2.heap.size [.slice A1 k c1, .int .i64 qw, .int .i64 qa, .int .i64 qi, .int .i64 qf] ∧ Bx2 W7 (w.heap.size + 1) (.slice A2 m c2) (.bool false) := ⟨RG.BxN.grown HSW.out.1 hg7 (fun e => by injection e with e; omega), HSW.out.2.grown hg7 (fun e => by injection e with e; omega)⟩
      have HU7 := Lib.hid (HUW.out.grown hg7 (by omega))
      have HS7 := Lib.hid hS7
      have HN7 := Lib.hid hn7
      have HB7 := Lib.hid hb7
      obtain ⟨n0, n1, n2, n3, n4⟩ := bx5 HNW.out
      obtain ⟨m0, m1, m2, m3, m4⟩ := bx5_free HNW.out
      unfold put5 at hW7
      have HW7 := Lib.hid hW7
      clear hS7 hn7 hg7 hb7 hW7 HUW HSW HBW HNW
      refine RegB.GS_event (i := 7) rfl (by kernel_rfl) (by rfl) (fun K hK => ?_)
      go_simp
      rw [← HW7.out]
      refine hK _ _ HS7.out ?_
      clear hK K n0 n1 n2 n3 n4 m0 m1 m2 m3 m4
      refine RegB.GS_step (i := 8) rfl (by kernel_rfl) (by rfl) (fun K hK => ?_); go_big_quiet_op; refine hK _ ?_; clear hK K
      refine RegB.GS_step (i := 9) rfl (by kernel_rfl) (by rfl) (fun K hK => ?_); go_big_quiet_op; refine hK _ ?_; clear hK K
      refine RegB.GS_done (by kernel_rfl) ?_
      clear x0 x1 x2 x3 x4 x5
      obtain ⟨g0, g1, g2, g3, g4⟩ := bx5 HN7.out
      go_wp2_with fail
      have hsub : ((xn : Int) - (m : Int)) = ((xn - m : Nat) : Int) := by omega
      exact bodyPost_ret (v := .tuple #[.agg #[.slice A1 k c1, .int .i64 qw, .int .i64 qa, .int .i64 qi, .int .i64 qf], .int .i64 ((xn : Int) - (m : Int)), .bool true]) (by simp [results, Tryz.results11, go_sem, g0, g1, g2, g3, g4]) rfl ⟨A1, c1, ret_v (by rw [HYes.out, hsub, HK.out]; rfl), by rw [HYes.out]; exact HU7.out.st, HB7.out⟩
    · have HNo := Lib.hid (show G = (QyM.q0, 0, false) from by rw [HGo.out, if_neg (fun h => hmy h.2)])
      rw [decide_eq_false hmy]
      clear hmy HGo
      obtain ⟨W7, hW7, hn7, hb7⟩ := HZero.out _ HN4.out HB4.out
      obtain ⟨n0, n1, n2, n3, n4⟩ := bx5 HN4.out
      obtain ⟨m0, m1, m2, m3, m4⟩ := bx5_free HN4.out
      have HW7 := Lib.hid hW7
      have HN7 := Lib.hid hn7
      have HB7 := Lib.hid hb7
      clear hW7 hn7 hb7 HZero
      go_wp2_with fail
      rw [← HW7.out]
      obtain ⟨g0, g1, g2, g3, g4⟩ := bx5 HN7.out
      exact bodyPost_ret (v := .tuple #[.agg #[.slice none 0 0, .int .i64 0, .int .i64 0, .int .i64 0, .int .i64 0], .int .i64 0, .bool false]) (by simp [results, Tryz.results11, go_sem, g0, g1, g2, g3, g4]) rfl ⟨none, 0, ret_v (by rw [HNo.out]; rfl), by rw [HNo.out]; exact slSt_none _, HB7.out⟩
end Go.Proofs.YtbmdkibmfkmjoaaGreat.Qy

namespace Go.Proofs.YtbmdkibmfkmjoaaGreat.Qy
open Go.RowKit Go.Proofs.YtbmdkibmfkmjoaaGreat.BM Go.Proofs.YtbmdkibmfkmjoaaGreat.LM Go.Proofs.YtbmdkibmfkmjoaaGreat.LeM Go.Proofs.YtbmdkibmfkmjoaaGreat.VaM
open Go.Proofs.YtbmdkibmfkmjoaaGreat.Va (ret_v PutSl Put_sl)

theorem tyI : RG.Ty 54 3 1 8 (.int .i64 0) := ⟨by kernel_rfl, by kernel_rfl, by kernel_rfl, fun _ => by kernel_rfl, rfl, by decide, by decide⟩

/-- Numbers, one behind the other. -/
def NumsAt (w : World) (A : Option Addr) (zs : List Nat) : Prop := IsRow w A (zs.map fun z : Nat => Value.int .i64 (z : Int))
theorem NumsAt.kept {w w' : World} {A : Option Addr} {zs : List Nat} (h : NumsAt w A zs) (hb : Below w.heap.size w w') : NumsAt w' A zs := IsRow.kept h hb
theorem numsAt_new (w : World) (zs : List Nat) (T : TypeId) : NumsAt (w.alloc (.cells (zs.map fun z : Nat => Value.int .i64 (z : Int)).toArray T)) (some ⟨w.heap.size, 0, none⟩) zs := by
  intro _
  refine ⟨w.heap.size, 0, rfl, fun j u hj => ?_⟩
  rw [World.cell?_alloc_at (hn := rfl), Nat.zero_add]
  simpa using hj
theorem numsAt_at {w : World} {A : Option Addr} {zs : List Nat} (h : NumsAt w A zs) (j : Nat) (hj : j < zs.length) :
    ∃ b q, (∀ W n k, j < n → (Instr.indexAt 54 (.slice A n k) (.int .i64 (j : Int))).run Tryz.prog W = .ok (.pointer (some ⟨b, q, none⟩)) W) ∧ w.cell? ⟨b, q, none⟩ = some (.int .i64 ((zs.getD j 0 : Nat) : Int)) := by
  obtain ⟨b, o, rfl, hc⟩ := h (by rw [List.length_map]; omega)
  refine ⟨b, o + j * 1, fun W n k hn => tyI.index W b o n k j hn, ?_⟩
  rw [Nat.mul_one]
  refine hc j _ ?_
  rw [List.getElem?_map, List.getElem?_eq_getElem hj, List.getD_eq_getElem?_getD, List.getElem?_eq_getElem hj]
  rfl

theorem nums_snoc {zs : List Nat} {j : Nat} (hj : j < zs.length) : Gr.puts putL (zs.take (j + 1)) = Gr.puts putL (zs.take j) ++ putL (zs.getD j 0) := by
  rw [List.take_succ_eq_append_getElem hj, Gr.puts_snoc, List.getD_eq_getElem?_getD, List.getElem?_eq_getElem hj]
  rfl
theorem nums_len : ∀ {zs : List Nat}, (∀ z ∈ zs, z ≤ 9223372036854775807) → (Gr.puts putL zs).length ≤ 10 * zs.length
  | [], _ => by simp [Gr.puts]
  | z :: zs, h => by
    have h1 := putL_len64 (n := z) (by have := h z (List.mem_cons_self ..); omega)
    have h2 := nums_len (zs := zs) fun y hy => h y (List.mem_cons_of_mem _ hy)
    rw [Gr.puts, List.length_append, List.length_cons]
    omega
theorem nums_bytes : ∀ {zs : List Nat}, ∀ x ∈ Gr.puts putL zs, (0 : Int) ≤ x ∧ x < 256
  | [], x, hx => by cases hx
  | z :: zs, x, hx => by
    rw [Gr.puts] at hx
    rcases List.mem_append.1 hx with h | h
    · exact putL_bytes _ x h
    · exact nums_bytes x h

/-- Bytes of the call's own. -/
def Owned (w : World) (ys : List Int) : Ending → World → Prop := fun e w' => ∃ v, e = .returned v ∧ w'.ownsRow w.heap.size 5 1 v ys.length (cs ys) ∧ Below w.heap.size w w'

set_option maxRecDepth 100000 in
set_option maxHeartbeats 2000000 in
theorem putNumbers_any (zs : List Nat) (A : Option Addr) (c : Nat) (w : World) (hI : NumsAt w A zs) (hz : ∀ z ∈ zs, z ≤ 9223372036854775807) (h8 : zs.length ≤ 8) :
    Calls Tryz.prog 23 #[.slice A zs.length c] w (Owned w (Gr.puts putL zs)) := by
  have hsn := fun j => @nums_snoc zs j
  have hln := fun j => nums_len (zs := zs.take j) fun z h => hz z (List.mem_of_mem_take h)
  have hzj := fun j (hj : j < zs.length) => hz (zs.getD j 0) (by rw [List.getD_eq_getElem?_getD, List.getElem?_eq_getElem hj]; exact List.getElem_mem hj)
  have hall : Gr.puts putL (zs.take zs.length) = Gr.puts putL zs := by rw [List.take_length]
  unfold Owned
  obtain ⟨Y, hY⟩ : ∃ Y, Y = Gr.puts putL zs := ⟨_, rfl⟩
  rw [← hY] at hall ⊢
  obtain ⟨n, hn⟩ : ∃ n, n = zs.length := ⟨_, rfl⟩
  rw [← hn] at h8 hall ⊢
  simp only [← hn] at hsn hzj
  have HN := Lib.hid hn
  have HSn := Lib.hid hsn
  have HLn := Lib.hid hln
  have HZj := Lib.hid hzj
  have HAll := Lib.hid hall
  have HI := Lib.hid hI
  clear hn hsn hln hzj hall hI hz hY
  go_enter Tryz.func23, Tryz.ntmps23
  go_wp2_with fail
  go_loopw [3, 7] (fun u i wr => ∃ (j k : Nat), i = .int .i64 j ∧ j ≤ n ∧ k = (Gr.puts putL (zs.take j)).length ∧ wr.ownsRow w.heap.size 5 1 u k (cs (Gr.puts putL (zs.take j))) ∧ Below w.heap.size w wr) (fun _ i _ => n - (intOf i).toNat)
  case atStart => exact ⟨0, 0, rfl, Nat.zero_le _, rfl, World.ownsRow_nil _ _ _ _, Below.refl _ _⟩
  case round =>
    obtain ⟨j, k, rfl, hj, hk, hown, hbel⟩ := hrel
    have hk2 : k ≤ 80 := by
      have := HLn.out j
      rw [List.length_take] at this
      omega
    have HO := Lib.hid hown
    have HK := Lib.hid hk
    have HBl := Lib.hid hbel
    clear hown hk hbel
    by_cases hjn : j < n
    · obtain ⟨b, q, hix, hc⟩ := numsAt_at (HI.out.kept HBl.out) j (by rw [← HN.out]; exact hjn)
      have hi := fun W => hix W n c hjn
      have hs := HSn.out j hjn
      have hz := HZj.out j hjn
      obtain ⟨z, hzz⟩ : ∃ z, z = zs.getD j 0 := ⟨_, rfl⟩
      rw [← hzz] at hc hs hz
      have HP := Lib.hid (fun W => Put_sl z W (by omega))
      have hl := putL_len64 (n := z) (by omega)
      have HS := Lib.hid hs
      clear hix hs hzz
      go_wp2_with fail
      refine (HP.out _).mono ?_
      rintro e w2 ⟨A2, c2, rfl, hs2, _, hb2⟩
      have HO2 := Lib.hid (RegA.own_below HO.out hb2)
      have HB2 := Lib.hid (bt HBl.out hb2)
      have HS2 := Lib.hid hs2
      have hz2 := HB2.out.size
      obtain ⟨m, hm⟩ : ∃ m, m = (putL z).length := ⟨_, rfl⟩
      rw [← hm] at hl ⊢
      have HM := Lib.hid hm
      clear hs2 hb2 hm HP hc hi
      go_wp2_with (at_builtin; refine wp_append_b rfl (.tmp 10) (.tmp 16) rfl w.heap.size _ k _ rfl HO2.out A2 m c2 (putL z) rfl HM.out.symm HS2.out.1 HS2.out.2.2.1 (by omega) hz2 ?_; intro u3 w3 hown3 hgrow3; refine pause ?_)
      have HB3 := Lib.hid (HB2.out.grown hgrow3 hz2 (fun q hq => (HO2.out.lt q hq).1))
      rw [← HS.out] at hown3
      have HO3 := Lib.hid hown3
      have HK3 := Lib.hid (show k + m = (Gr.puts putL (zs.take (j + 1))).length from by rw [HS.out, List.length_append, ← HM.out, ← HK.out])
      clear hown3 hgrow3
      unfold Pause
      go_wp2_with fail
      go_roundw
      case rel => exact ⟨j + 1, k + m, by go_num, by omega, HK3.out, HO3.out, HB3.out⟩
      case measure => simp [intOf]; omega
    · obtain rfl : j = n := by omega
      have hown := HO.out
      rw [HAll.out] at hown
      have hkk := HK.out
      rw [HAll.out] at hkk
      rw [hkk] at hown
      have HO2 := Lib.hid hown
      clear hown hkk
      go_wp2_with fail
      go_ret
      exact ⟨_, rfl, HO2.out, HBl.out⟩
end Go.Proofs.YtbmdkibmfkmjoaaGreat.Qy

namespace Go.Proofs.YtbmdkibmfkmjoaaGreat.Qy
open Go.RowKit Go.Proofs.YtbmdkibmfkmjoaaGreat.BM Go.Proofs.YtbmdkibmfkmjoaaGreat.LeM Go.Proofs.YtbmdkibmfkmjoaaGreat.VaM Go.Proofs.YtbmdkibmfkmjoaaGreat.ExM Go.Proofs.YtbmdkibmfkmjoaaGreat.QyM
open Go.Proofs.YtbmdkibmfkmjoaaGreat.ScM (Nm pn pn_len pn_bytes)

theorem pSt_no {x : St} (h : x.g = false) : pSt x = pn x.s ++ (pL x.f ++ (putL x.lo.toNat ++ (putL x.hi.toNat ++ [0]))) := by
  unfold pSt pG
  rw [h]
  simp only [Bool.false_eq_true, if_false, List.append_nil]
  rw [putL_lt (show (0 : Nat) < 128 by decide)]
  rfl
theorem pSt_yes {x : St} (h : x.g = true) : pSt x = pn x.s ++ (pL x.f ++ (putL x.lo.toNat ++ (putL x.hi.toNat ++ ([1] ++ (pn x.t ++ pL x.h))))) := by
  unfold pSt pG
  rw [h]
  simp only [if_true]
  rw [putL_lt (show (1 : Nat) < 128 by decide)]
  rfl

/-- How long a step's bytes are. -/
theorem pSt_len {x : St} (h : OkS x) : (pSt x).length ≤ 1330 := by
  obtain ⟨h1, h2, h3, h4, h5, h6⟩ := h
  have k1 := pn_len h1
  have k2 := (pL_len h2.1 h2.2).2
  have k3 := putL_len64 (n := x.lo.toNat) (by omega)
  have k4 := putL_len64 (n := x.hi.toNat) (by omega)
  cases hg : x.g
  · rw [pSt_no hg]
    simp only [List.length_append, List.length_cons, List.length_nil]
    omega
  · obtain ⟨h7, h8, h9⟩ := h6 hg
    have k5 := pn_len h7
    have k6 := (pL_len h8 h9).2
    rw [pSt_yes hg]
    simp only [List.length_append, List.length_cons, List.length_nil]
    omega

theorem puts_len : ∀ {p : List St}, (∀ x ∈ p, OkS x) → (Gr.puts pSt p).length ≤ 1330 * p.length
  | [], _ => by simp [Gr.puts]
  | x :: p, h => by
    have h1 := pSt_len (h x (List.mem_cons_self ..))
    have h2 := puts_len (p := p) fun y hy => h y (List.mem_cons_of_mem _ hy)
    rw [Gr.puts, List.length_append, List.length_cons]
    omega

theorem pv_bytes {q : Q} (hr : RngQ q) : ∀ x ∈ QyM.pv q, (0 : Int) ≤ x ∧ x < 256 := by
  unfold QyM.pv
  split
  · rename_i h
    exact law_q.bytes ⟨okQ_of h hr, h⟩
  · intro x hx
    cases hx

end Go.Proofs.YtbmdkibmfkmjoaaGreat.Qy

namespace Go.Proofs.YtbmdkibmfkmjoaaGreat.BM
open Go.RowKit Go.Proofs.YtbmdkibmfkmjoaaGreat.VaM Go.Proofs.YtbmdkibmfkmjoaaGreat.LM

set_option maxRecDepth 100000 in
theorem bytes_of_string (s : ByteArray) (w : World) (hs : s.size ≤ 1000000000) :
    ∃ c w', (convert 9 26 (.string s)).run Tryz.prog w = .ok (.slice (some ⟨w.heap.size, 0, none⟩) s.size c) w' ∧ SlB w' (some ⟨w.heap.size, 0, none⟩) (bl s) c ∧ Below w.heap.size w w' ∧ w.heap.size < w'.heap.size := by
  have h := run_bytes_of_string (P := Tryz.prog) w 9 26 5 s Tryz.underlying9 Tryz.underlying26 Tryz.underlying5
  refine ⟨_, _, h, ⟨⟨bl_bytes s, fun hx => ⟨w.heap.size, 0, rfl, fun j hj => ?_⟩⟩, ?_, (fun e => by cases e), ?_⟩, ((Below.refl _ w).drew).alloc (Nat.le_refl _) _, ?_⟩
  · have hj' : j < s.data.size := by rw [bl_len] at hj; exact hj
    have h2 := bytesRow_at s (grownCap w s.size 0 5) j hj'
    rw [show w.heap.size = w.drew.heap.size from rfl, World.cell?_alloc_mark, Nat.zero_add, h2]
    simp only [bl, List.getD_eq_getElem?_getD, List.getElem?_map, Array.getElem?_toList, Array.getElem?_eq_getElem hj', Option.map_some, Option.getD_some]
  · rw [bl_len]
    exact grownCap_ge w _ _ _
  · exact grownCap_le_maxLen w s.size 0 5 (by unfold maxLen; omega)
  · simp
end Go.Proofs.YtbmdkibmfkmjoaaGreat.BM

namespace Go.Proofs.YtbmdkibmfkmjoaaGreat.LM
open Go.RowKit Go.Proofs.YtbmdkibmfkmjoaaGreat.BM

theorem info_sl : (Tryz.prog.info? 26).map (fun i => (i.zero, i.size, i.bytes)) = some (some (.slice none 0 0), 1, 24) := by kernel_rfl

/-- An element: a slice of bytes; p tells of the block in which its bytes lie. -/
def El (p : Nat → Prop) (w : World) (v : Value) (xs : List Int) : Prop :=
  ∃ A c, v = .slice A xs.length c ∧ SlB w A xs c ∧ (0 < xs.length → ∃ b o, A = some ⟨b, o, none⟩ ∧ p b ∧ b < w.heap.size)

theorem El.mono {p q : Nat → Prop} {w : World} {v : Value} {xs : List Int} (h : El p w v xs) (k : ∀ b, b < w.heap.size → p b → q b) : El q w v xs := by
  obtain ⟨A, c, h1, h2, h3⟩ := h
  refine ⟨A, c, h1, h2, fun hx => ?_⟩
  obtain ⟨b, o, e, hp, hb⟩ := h3 hx
  exact ⟨b, o, e, k b hb hp, hb⟩

theorem El.kept {p : Nat → Prop} {w w' : World} {v : Value} {xs : List Int} (h : El p w v xs) (hb : Below w.heap.size w w') : El p w' v xs := by
  obtain ⟨A, c, h1, h2, h3⟩ := h
  refine ⟨A, c, h1, h2.kept hb, fun hx => ?_⟩
  obtain ⟨b, o, e, hp, hlt⟩ := h3 hx
  exact ⟨b, o, e, hp, Nat.lt_of_lt_of_le hlt hb.size⟩

theorem El.grown {p : Nat → Prop} {w w' : World} {r : Option Nat} {v : Value} {xs : List Int} (h : El p w v xs) (hg : w.grownBy w' r) (hp : ∀ b, p b → some b ≠ r) : El p w' v xs := by
  obtain ⟨A, c, h1, h2, h3⟩ := h
  refine ⟨A, c, h1, ⟨⟨h2.1.1, fun hx => ?_⟩, h2.2⟩, fun hx => ?_⟩
  · obtain ⟨b, o, e, hpb, hlt⟩ := h3 hx
    obtain ⟨b', o', e', hc⟩ := h2.1.2 hx
    refine ⟨b', o', e', fun j hj => ?_⟩
    have hbb : b' = b := by
      rw [e] at e'
      injection e' with e'
      injection e' with e1 _
      exact e1.symm
    subst hbb
    exact hg.cell (hc j hj) (hp _ hpb)
  · obtain ⟨b, o, e, hpb, hlt⟩ := h3 hx
    exact ⟨b, o, e, hpb, Nat.lt_of_lt_of_le hlt hg.size⟩

/-- A list of them. -/
def Els (p : Nat → Prop) (w : World) : List Value → List (List Int) → Prop
  | [], [] => True
  | v :: vs, x :: xs => El p w v x ∧ Els p w vs xs
  | [], _ :: _ => False
  | _ :: _, [] => False

theorem Els.len {p : Nat → Prop} {w : World} : ∀ {vs : List Value} {ls : List (List Int)}, Els p w vs ls → vs.length = ls.length
  | [], [], _ => rfl
  | _ :: vs, _ :: ls, h => by rw [List.length_cons, List.length_cons, Els.len h.2]
  | [], _ :: _, h => h.elim
  | _ :: _, [], h => h.elim

theorem Els.map {p q : Nat → Prop} {w w' : World} (k : ∀ v xs, El p w v xs → El q w' v xs) : ∀ {vs : List Value} {ls : List (List Int)}, Els p w vs ls → Els q w' vs ls
  | [], [], _ => trivial
  | _ :: _, _ :: _, h => ⟨k _ _ h.1, Els.map k h.2⟩
  | [], _ :: _, h => h.elim
  | _ :: _, [], h => h.elim

theorem Els.app {p : Nat → Prop} {w : World} {us : List Value} {ms : List (List Int)} (k : Els p w us ms) : ∀ {vs : List Value} {ls : List (List Int)}, Els p w vs ls → Els p w (vs ++ us) (ls ++ ms)
  | [], [], _ => k
  | _ :: _, _ :: _, h => ⟨h.1, Els.app k h.2⟩
  | [], _ :: _, h => h.elim
  | _ :: _, [], h => h.elim

theorem Els.at {p : Nat → Prop} {w : World} : ∀ {vs : List Value} {ls : List (List Int)}, Els p w vs ls → ∀ j, j < ls.length → ∃ v, vs[j]? = some v ∧ El p w v (ls.getD j [])
  | [], [], _, j, hj => by simp at hj
  | v :: vs, x :: ls, h, 0, _ => ⟨v, rfl, h.1⟩
  | v :: vs, x :: ls, h, j + 1, hj => by
    obtain ⟨u, h1, h2⟩ := Els.at h.2 j (by simpa using hj)
    exact ⟨u, by simpa using h1, by simpa using h2⟩
  | [], _ :: _, h, _, _ => h.elim
  | _ :: _, [], h, _, _ => h.elim

theorem Els.one {p : Nat → Prop} {w : World} {vs : List Value} {ls : List (List Int)} (h : Els p w vs ls) : ∀ u ∈ vs, u.oneCell' = true := by
  intro u hu
  obtain ⟨j, hj, rfl⟩ := List.getElem_of_mem hu
  obtain ⟨v, h1, h2⟩ := h.at j (by rw [← h.len]; exact hj)
  rw [List.getElem?_eq_getElem hj] at h1
  injection h1 with h1
  obtain ⟨A, c, e, _⟩ := h2
  rw [h1, e]
  rfl

theorem own_isRow {w : World} {base n : Nat} {A : Option Addr} {m c : Nat} {vs : List Value} (h : w.ownsRow base 26 1 (.slice A m c) n vs) : IsRow w A vs := by
  intro hx
  rcases h.2 with ⟨hv, h0⟩ | ⟨g, cap, cur, hv, hg, hh, hcap, hmx, hrest⟩
  · have h1 := h.1
    omega
  · injection hv with e1 e2 e3
    subst e1
    refine ⟨g, 0, rfl, fun j u hj => ?_⟩
    have hc := h.cells (g := g) rfl j u hj
    rwa [Addr.add_lit] at hc

/-- A slice of slices of bytes. -/
def IsL (p : Nat → Prop) (w : World) (A : Option Addr) (c : Nat) (ls : List (List Int)) : Prop := (∃ vs, IsRow w A vs ∧ Els p w vs ls) ∧ ls.length ≤ c ∧ (A = none → c = 0) ∧ c ≤ maxLen

theorem IsL.kept {p : Nat → Prop} {w w' : World} {A : Option Addr} {c : Nat} {ls : List (List Int)} (h : IsL p w A c ls) (hb : Below w.heap.size w w') : IsL p w' A c ls := by
  obtain ⟨⟨vs, h1, h2⟩, h3⟩ := h
  exact ⟨⟨vs, h1.kept hb, h2.map fun _ _ h => h.kept hb⟩, h3⟩

theorem IsL.mono {p q : Nat → Prop} {w : World} {A : Option Addr} {c : Nat} {ls : List (List Int)} (h : IsL p w A c ls) (k : ∀ b, b < w.heap.size → p b → q b) : IsL q w A c ls := by
  obtain ⟨⟨vs, h1, h2⟩, h3⟩ := h
  exact ⟨⟨vs, h1, h2.map fun _ _ h => h.mono k⟩, h3⟩

theorem isL_none (p : Nat → Prop) (w : World) : IsL p w none 0 [] := ⟨⟨[], (fun h => by simp at h), trivial⟩, Nat.le_refl _, (fun _ => rfl), Nat.zero_le _⟩

/-- The j-th of them. -/
theorem IsL.at {p : Nat → Prop} {w : World} {A : Option Addr} {c : Nat} {ls : List (List Int)} (h : IsL p w A c ls) (j : Nat) (hj : j < ls.length) :
    ∃ b o A' c', A = some ⟨b, o, none⟩ ∧ w.cell? ⟨b, o + j, none⟩ = some (.slice A' (ls.getD j []).length c') ∧ SlB w A' (ls.getD j []) c' := by
  obtain ⟨⟨vs, h1, h2⟩, h3⟩ := h
  obtain ⟨b, o, e, hc⟩ := h1 (by rw [h2.len]; omega)
  obtain ⟨v, hv, A', c', he, hs, _⟩ := h2.at j hj
  rw [he] at hv
  exact ⟨b, o, A', c', e, hc j _ hv, hs⟩

set_option maxRecDepth 100000 in
/-- append onto slices of bytes that are owned, whatever the source. -/
theorem wp_append_l {w : World} {ops : Array Oper} {rest : List Oper} {o : Oper} {a : Act} {Q : Exit → Act → World → Prop} (hgd : o.guard = none) (s x : Operand)
    (ho : o.op = .call { callee := .builtin .append, args := #[s, x], argTypes := #[110, 110] })
    (base : Nat) (v : Value) (n : Nat) (vs : List Value) (ls : List (List Int)) (hs : a.eval s = v) (hown : w.ownsRow base 26 1 v n vs) (hE : Els (ne v) w vs ls)
    (A : Option Addr) (m c : Nat) (us : List Value) (ms : List (List Int)) (hx : a.eval x = .slice A m c) (hm : us.length = m) (hR : IsRow w A us) (hF : Els (ne v) w us ms) (hnil : A = none → c = 0)
    (hsz : n + m ≤ 1000000000) (hbase : base ≤ w.heap.size)
    (h : ∀ v' w', w'.ownsRow base 26 1 v' (n + m) (vs ++ us) → Els (ne v') w' (vs ++ us) (ls ++ ms) → w.grownBy w' v.ownBlock → (v'.ownBlock = v.ownBlock ∨ v'.ownBlock = some w.heap.size) → wpList Tryz.prog ops Q rest (a.put o.dst v') w') : wpList Tryz.prog ops Q (o :: rest) a w := by
  obtain ⟨i0, hi, hz0, hz1, hz2⟩ := info_parts info_sl
  match A, hx, hR, hnil with
  | none, hx, hR, hnil =>
    have hy : us = [] := by
      rcases Nat.eq_zero_or_pos us.length with h0 | h0
      · exact List.eq_nil_of_length_eq_zero h0
      · obtain ⟨b, q, he, _⟩ := hR h0
        cases he
    subst hy
    simp only [List.length_nil] at hm
    subst hm
    obtain rfl := hnil rfl
    have hms : ms = [] := by
      have := hF.len
      exact List.eq_nil_of_length_eq_zero this.symm
    subst hms
    refine wpList_append_own_none hgd s x 110 ho base 26 i0 1 Tryz.underlying110 hi v n vs hs hown hx (h v w ?_ ?_ (World.grownBy.refl _ _) (Or.inl rfl))
    · simpa using hown
    · simpa using hE
  | some ad, hx, hR, _ =>
    refine wpList_append_own_at w hgd s x 110 ho base 26 i0 (.slice none 0 0) 1 24 Tryz.underlying110 hi hz0 hz1 hz2 rfl (by decide) v n vs hs hown ad m c us hx (by rw [hm, Nat.mul_one]) ?_ hF.one (by unfold maxLen; omega) (by omega) hbase ?_
    · intro j u hj
      have hjl : j < us.length := (List.getElem?_eq_some_iff.1 hj).1
      obtain ⟨b, q, he, hc⟩ := hR (by omega)
      injection he with he
      subst he
      rw [Addr.add_lit]
      exact hc j u hj
    · intro v' w' h1 h2 _ h4
      refine h v' w' h1 ?_ h2 h4
      have hall := Els.app hF hE
      exact (hall.map fun _ _ e => e.mono fun b hb hn => (⟨hn, hb⟩ : ne v b ∧ b < w.heap.size)).map fun _ _ e => (e.grown h2 fun b hb => hb.1).mono fun b _ hb => ne_fresh h4 b hb.2 hb.1

set_option maxRecDepth 100000 in
/-- append onto slices of bytes that are owned, whatever the source; p0 tells more of the blocks. -/
theorem wp_append_lp (p0 : Nat → Prop) {w : World} {ops : Array Oper} {rest : List Oper} {o : Oper} {a : Act} {Q : Exit → Act → World → Prop} (hgd : o.guard = none) (s x : Operand)
    (ho : o.op = .call { callee := .builtin .append, args := #[s, x], argTypes := #[110, 110] })
    (base : Nat) (v : Value) (n : Nat) (vs : List Value) (ls : List (List Int)) (hs : a.eval s = v) (hown : w.ownsRow base 26 1 v n vs) (hE : Els (fun b => p0 b ∧ ne v b) w vs ls)
    (A : Option Addr) (m c : Nat) (us : List Value) (ms : List (List Int)) (hx : a.eval x = .slice A m c) (hm : us.length = m) (hR : IsRow w A us) (hF : Els (fun b => p0 b ∧ ne v b) w us ms) (hnil : A = none → c = 0)
    (hsz : n + m ≤ 1000000000) (hbase : base ≤ w.heap.size)
    (h : ∀ v' w', w'.ownsRow base 26 1 v' (n + m) (vs ++ us) → Els (fun b => p0 b ∧ ne v' b) w' (vs ++ us) (ls ++ ms) → w.grownBy w' v.ownBlock → (v'.ownBlock = v.ownBlock ∨ v'.ownBlock = some w.heap.size) → wpList Tryz.prog ops Q rest (a.put o.dst v') w') : wpList Tryz.prog ops Q (o :: rest) a w := by
  obtain ⟨i0, hi, hz0, hz1, hz2⟩ := info_parts info_sl
  match A, hx, hR, hnil with
  | none, hx, hR, hnil =>
    have hy : us = [] := by
      rcases Nat.eq_zero_or_pos us.length with h0 | h0
      · exact List.eq_nil_of_length_eq_zero h0
      · obtain ⟨b, q, he, _⟩ := hR h0
        cases he
    subst hy
    simp only [List.length_nil] at hm
    subst hm
    obtain rfl := hnil rfl
    have hms : ms = [] := by
      have := hF.len
      exact List.eq_nil_of_length_eq_zero this.symm
    subst hms
    refine wpList_append_own_none hgd s x 110 ho base 26 i0 1 Tryz.underlying110 hi v n vs hs hown hx (h v w ?_ ?_ (World.grownBy.refl _ _) (Or.inl rfl))
    · simpa using hown
    · simpa using hE
  | some ad, hx, hR, _ =>
    refine wpList_append_own_at w hgd s x 110 ho base 26 i0 (.slice none 0 0) 1 24 Tryz.underlying110 hi hz0 hz1 hz2 rfl (by decide) v n vs hs hown ad m c us hx (by rw [hm, Nat.mul_one]) ?_ hF.one (by unfold maxLen; omega) (by omega) hbase ?_
    · intro j u hj
      have hjl : j < us.length := (List.getElem?_eq_some_iff.1 hj).1
      obtain ⟨b, q, he, hc⟩ := hR (by omega)
      injection he with he
      subst he
      rw [Addr.add_lit]
      exact hc j u hj
    · intro v' w' h1 h2 _ h4
      refine h v' w' h1 ?_ h2 h4
      have hall := Els.app hF hE
      exact (hall.map fun _ _ e => e.mono fun b hb hn => (⟨hn, hb⟩ : (p0 b ∧ ne v b) ∧ b < w.heap.size)).map fun _ _ e => (e.grown h2 fun b hb => hb.1.2).mono fun b _ hb => ⟨hb.1.1, ne_fresh h4 b hb.2 hb.1.2⟩
end Go.Proofs.YtbmdkibmfkmjoaaGreat.LM

namespace Go.Proofs.YtbmdkibmfkmjoaaGreat.LM
open Go.RowKit Go.Proofs.YtbmdkibmfkmjoaaGreat.BM

theorem isRow_new (w : World) (vs : List Value) : IsRow (w.alloc (.cells vs.toArray 26)) (some ⟨w.heap.size, 0, none⟩) vs := by
  intro _
  refine ⟨w.heap.size, 0, rfl, fun j u hj => ?_⟩
  rw [World.cell?_alloc_at (hn := rfl), Nat.zero_add]
  simpa using hj

theorem el_any {w : World} {A : Option Addr} {xs : List Int} {c : Nat} (h : SlB w A xs c) : El (fun _ => True) w (.slice A xs.length c) xs := by
  refine ⟨A, c, rfl, h, fun hx => ?_⟩
  obtain ⟨b, o, e, hc⟩ := h.1.2 hx
  exact ⟨b, o, e, trivial, World.block_lt_of_cell? w _ (hc 0 hx)⟩
end Go.Proofs.YtbmdkibmfkmjoaaGreat.LM

namespace Go.Proofs.YtbmdkibmfkmjoaaGreat.Std
open Go.RowKit Go.Proofs.YtbmdkibmfkmjoaaGreat.BM Go.Proofs.YtbmdkibmfkmjoaaGreat.LM

set_option maxRecDepth 100000 in
/-- A nil slice grown: nothing in it, in memory of the call's own. -/
theorem Grow_nil (n : Nat) (w : World) (hn : n ≤ 100000000) :
    Calls Tryz.prog 81 #[.slice none 0 0, .int .i64 (n : Int)] w fun e w' => ∃ v, e = .returned v ∧ w'.ownsRow w.heap.size 5 1 v 0 [] ∧ Below w.heap.size w w' := by
  by_cases h0 : n = 0
  · subst h0
    go_enter Tryz.func81, Tryz.ntmps81
    go_wp2
    go_ret
    exact ⟨_, rfl, World.ownsRow_nil _ _ _ _, Below.refl _ _⟩
  · obtain ⟨i0, hi, hz0, hz1, hz2⟩ := info_parts info_u8
    have hold : (Builtin.firstCells i0.size 0 (.slice none 0 0)).run Tryz.prog w.drew = .ok ([] : List Value).toArray w.drew := run_firstCells_none w.drew i0.size 0 0 0
    have hrz : ∀ ty, (Builtin.append_ #[26, 3] ty #[.slice none 0 0, .int .i64 (n : Int)]).run Tryz.prog w =
        .ok (.slice (some ⟨w.heap.size, 0, none⟩) n (grownCap w n 0 5)) (w.drew.alloc (.cells (([] : List Value).toArray ++ Builtin.zeroCells (Value.cells (.int .u8 0)) n ++ Builtin.zeroCells (Value.cells (.int .u8 0)) (grownCap w n 0 5 - n)) 5)) := fun ty => by
      have h := Lib.run_append_grow_zeros w 26 3 ty 5 i0 (.int .u8 0) .i64 .i64 Tryz.underlying26 Tryz.underlying3 hi hz0 none 0 0 [] hold n (by omega) (by omega) (by omega) (by omega)
        (by rw [hz2]; omega) (by have := growslice_fits (need := 0 + n) (bytes := i0.bytes) (old := 0) (by omega) (by rw [hz2]; omega); exact this)
      rw [Nat.zero_add] at h
      exact h
    have hGn : n ≤ grownCap w n 0 5 := grownCap_ge w _ _ _
    have hGm : grownCap w n 0 5 ≤ maxLen := grownCap_le_maxLen w n 0 5 (by unfold maxLen; omega)
    obtain ⟨G, hG⟩ : ∃ G, G = grownCap w n 0 5 := ⟨_, rfl⟩
    rw [← hG] at hrz hGn hGm
    have hG63 : G ≤ 9223372036854775807 := by unfold maxLen at hGm; omega
    have h1 : (0 : Int) < n := by omega
    have Hown := Lib.hid (World.ownsRow_made (base := w.heap.size) (e := 5) (size := 1) w.drew (([] : List Value).toArray ++ Builtin.zeroCells (Value.cells (.int .u8 0)) n ++ Builtin.zeroCells (Value.cells (.int .u8 0)) (G - n)) G (Nat.le_refl _) hGm
      (by have e : (Value.cells (.int .u8 0)).size = 1 := rfl
          simp [size_zeroCells, e]; omega))
    have HB := Lib.hid (((Below.refl _ w).drew).alloc (Nat.le_refl _) (.cells (([] : List Value).toArray ++ Builtin.zeroCells (Value.cells (.int .u8 0)) n ++ Builtin.zeroCells (Value.cells (.int .u8 0)) (G - n)) 5))
    obtain ⟨W1, hW1⟩ : ∃ W1, W1 = w.drew.alloc (.cells (([] : List Value).toArray ++ Builtin.zeroCells (Value.cells (.int .u8 0)) n ++ Builtin.zeroCells (Value.cells (.int .u8 0)) (G - n)) 5) := ⟨_, rfl⟩
    rw [← hW1] at hrz Hown HB
    clear hold hG hW1 hGm h0 hi hz0 hz1 hz2
    go_enter Tryz.func81, Tryz.ntmps81
    go_wp2_with (at_builtin; refine Lib.wpList_append_run _ rfl (.tmp 20) (.tmp 21) _ _ rfl _ _ rfl rfl _ _ (hrz _) ?_)
    go_ret
    exact ⟨_, rfl, Hown.out, HB.out⟩

theorem take_succ_flat (ls : List (List Int)) (k : Nat) (hk : k < ls.length) : (ls.take (k + 1)).flatten = (ls.take k).flatten ++ ls.getD k [] := by
  rw [List.take_succ_eq_append_getElem hk, List.flatten_append, List.flatten_singleton]
  simp [List.getD_eq_getElem?_getD, hk]

theorem flat_le (ls : List (List Int)) (k : Nat) : (ls.take k).flatten.length ≤ ls.flatten.length := by
  have h : ls.flatten = (ls.take k).flatten ++ (ls.drop k).flatten := by rw [← List.flatten_append, List.take_append_drop]
  rw [h, List.length_append]
  omega

theorem flat_bytes {p : Nat → Prop} {w : World} {A : Option Addr} {c : Nat} {ls : List (List Int)} (h : IsL p w A c ls) : ∀ x ∈ ls.flatten, (0 : Int) ≤ x ∧ x < 256 := by
  intro x hx
  obtain ⟨l, hl, hxl⟩ := List.mem_flatten.1 hx
  obtain ⟨j, hj, rfl⟩ := List.getElem_of_mem hl
  obtain ⟨b, o, A', c', _, _, hs⟩ := h.at j hj
  have e : ls.getD j [] = ls[j] := by simp [List.getD_eq_getElem?_getD, hj]
  rw [e] at hs
  exact hs.1.1 x hxl

set_option maxRecDepth 100000 in
set_option maxHeartbeats 1000000 in
/-- Slices, one behind the other, in memory of the call's own. -/
theorem Concat_any {p : Nat → Prop} (A : Option Addr) (c : Nat) (ls : List (List Int)) (w : World) (h : IsL p w A c ls) (hm : ls.flatten.length ≤ 100000000) :
    Calls Tryz.prog 50 #[.slice A ls.length c] w fun e w' => ∃ v, e = .returned v ∧ w'.ownsRow w.heap.size 5 1 v ls.flatten.length (cs ls.flatten) ∧ Below w.heap.size w w' := by
  have hlen : ls.length ≤ 9223372036854775807 := by have h1 := h.2.1; have h2 := h.2.2.2; unfold maxLen at h2; omega
  have hfl := flat_le ls
  have HF := Lib.hid hfl
  obtain ⟨N, hN⟩ : ∃ N, N = ls.flatten.length := ⟨_, rfl⟩
  rw [← hN] at hm HF
  have HN := Lib.hid hN
  have HL := Lib.hid h
  have HG := Lib.hid (Grow_nil N w (by omega))
  clear hfl hN h
  go_enter Tryz.func50, Tryz.ntmps50
  go_wp2_with fail
  go_loop [3, 11] (fun s i => ∃ k : Nat, k ≤ ls.length ∧ i = .int .i64 k ∧ s = .int .i64 ((ls.take k).flatten.length : Nat)) (fun _ i => ls.length - (intOf i).toNat)
  case atStart => exact ⟨0, by omega, rfl, rfl⟩
  case round =>
    obtain ⟨k, hk, rfl, rfl⟩ := hrel
    have hs := HF.out k
    by_cases hlt : k < ls.length
    · obtain ⟨b, o, A', c', rfl, hcell, hsl⟩ := HL.out.at k hlt
      have hs1 := HF.out (k + 1)
      have HS := Lib.hid (take_succ_flat ls k hlt)
      rw [HS.out, List.length_append] at hs1
      obtain ⟨S, hS⟩ : ∃ S, S = (ls.take k).flatten.length := ⟨_, rfl⟩
      rw [← hS] at hs hs1 ⊢
      have HS' := Lib.hid hS
      obtain ⟨L, hL⟩ : ∃ L, L = (ls.getD k []).length := ⟨_, rfl⟩
      rw [← hL] at hs1 hcell
      have HL' := Lib.hid hL
      clear hS hL hsl
      go_wp2_with fail
      go_round
      case rel => exact ⟨k + 1, by omega, by go_num, by rw [HS.out, List.length_append, ← HS'.out, ← HL'.out]; go_num⟩
      case measure => simp [intOf]; omega
    · obtain rfl : k = ls.length := by omega
      rw [List.take_length, ← HN.out]
      clear hs
      go_wp2_with fail
      refine HG.out.mono ?_
      rintro e w1 ⟨v0, rfl, hown0, hb0⟩
      have Hown0 := Lib.hid hown0
      have Hb0 := Lib.hid hb0
      clear hown0 hb0
      go_wp2_with fail
      go_loopw [6, 27] (fun v i wr => ∃ k : Nat, k ≤ ls.length ∧ i = .int .i64 k ∧ wr.ownsRow w.heap.size 5 1 v (ls.take k).flatten.length (cs (ls.take k).flatten) ∧ Below w.heap.size w wr) (fun _ i _ => ls.length - (intOf i).toNat)
      case atStart => exact ⟨0, by omega, rfl, by simpa [cs] using Hown0.out, Hb0.out⟩
      case round =>
        obtain ⟨k, hk, rfl, hown, hb⟩ := hrel
        have hs := HF.out k
        by_cases hlt : k < ls.length
        · obtain ⟨b, o, A', c', rfl, hcell', hsl'⟩ := HL.out.at k hlt
          have hsl := hsl'.kept hb
          have hcell : wr.cell? ⟨b, o + k, none⟩ = some (.slice A' (ls.getD k []).length c') := by
            rw [hb.cell (p := ⟨b, o + k, none⟩) (World.block_lt_of_cell? w _ hcell')]
            exact hcell'
          have hs1 := HF.out (k + 1)
          have hS := take_succ_flat ls k hlt
          obtain ⟨x, hx⟩ : ∃ x, x = ls.getD k [] := ⟨_, rfl⟩
          rw [← hx] at hS hcell hsl
          have HS := Lib.hid hS
          clear hS hx
          rw [HS.out, List.length_append] at hs1
          have Hown := Lib.hid hown
          have Hsl := Lib.hid hsl
          have Hb := Lib.hid hb
          have hbs := hb.size
          clear hcell' hsl' hown hsl hb
          go_wp2_with (at_builtin; refine wp_append_b rfl (.tmp 31) (.tmp 32) rfl w.heap.size _ _ _ rfl Hown.out A' x.length c' x rfl rfl Hsl.out.1 Hsl.out.2.2.1 (by omega) hbs ?_; intro v1 w1 hown1 hgrow1; refine pause ?_)
          have hb1 := Hb.out.grown hgrow1 hbs (fun q hq => (Hown.out.lt q hq).1)
          have Hown1 := Lib.hid hown1
          have Hb1 := Lib.hid hb1
          clear hown1 hgrow1 hb1 hcell
          unfold Pause
          go_wp2
          go_roundw
          case rel => exact ⟨k + 1, by omega, by go_num, by rw [HS.out, List.length_append]; exact Hown1.out, Hb1.out⟩
          case measure => simp [intOf]; omega
        · obtain rfl : k = ls.length := by omega
          rw [List.take_length] at hown
          have Hown := Lib.hid hown
          have Hb := Lib.hid hb
          clear hown hb hs
          go_wp2_with fail
          go_ret
          exact ⟨_, rfl, Hown.out, Hb.out⟩
end Go.Proofs.YtbmdkibmfkmjoaaGreat.Std

namespace Go.Proofs.YtbmdkibmfkmjoaaGreat.Qy
open Go.RowKit Go.Proofs.YtbmdkibmfkmjoaaGreat.BM Go.Proofs.YtbmdkibmfkmjoaaGreat.LM Go.Proofs.YtbmdkibmfkmjoaaGreat.LeM Go.Proofs.YtbmdkibmfkmjoaaGreat.VaM Go.Proofs.YtbmdkibmfkmjoaaGreat.ExM Go.Proofs.YtbmdkibmfkmjoaaGreat.QyM
open Go.Proofs.YtbmdkibmfkmjoaaGreat.Ex (SlO slO_none slO_len)
open Go.Proofs.YtbmdkibmfkmjoaaGreat.Va (ret_v str_e0)
open Go.Proofs.YtbmdkibmfkmjoaaGreat.ScM (Nm pn pn_len pn_bytes)

theorem own_lower {w : World} {base base' n : Nat} {e : TypeId} {size : Nat} {v : Value} {xs : List Value} (h : w.ownsRow base e size v n xs) (hb : base' ≤ base) : w.ownsRow base' e size v n xs := by
  refine ⟨h.1, ?_⟩
  rcases h.2 with h2 | ⟨g, cap, cur, e1, hg, hr⟩
  · exact .inl h2
  · exact .inr ⟨g, cap, cur, e1, Nat.le_trans hb hg, hr⟩

/-- Slices of bytes, listed in a new block. -/
theorem isL_alloc {w : World} {vs : List Value} {ls : List (List Int)} (h : Els (fun _ => True) w vs ls) (hl : vs.length ≤ 1000) : IsL (fun _ => True) (w.alloc (.cells vs.toArray 26)) (some ⟨w.heap.size, 0, none⟩) vs.length ls :=
  ⟨⟨vs, isRow_new w vs, h.map fun _ _ k => k.kept ((Below.refl _ _).alloc (Nat.le_refl _) _)⟩, by rw [h.len]; exact Nat.le_refl _, (fun e => by cases e), by unfold maxLen; omega⟩

set_option maxRecDepth 100000 in
set_option maxHeartbeats 4000000 in
theorem putAsked_any (s : ByteArray) (f : List O) (A : Option Addr) (c : Nat) (w : World) (hs : s.size ≤ 12) (hm : ExM.May f) (hA : SlO w A f c) :
    Calls Tryz.prog 49 #[.string s, .slice A f.length c] w (Owned w (pn s ++ pL f)) := by
  have hp := Ex.PutF_any f A c w hA
  unfold Ex.PuttedF at hp
  have hpv : ExM.pv f = pL f := by rw [ExM.pv, if_pos hm]
  have hl := (pL_len hm hA.rngs).2
  rw [hpv, decide_eq_true hm] at hp
  have hfl : [putL s.size, bl s, pL f].flatten = pn s ++ pL f := by simp [pn]
  have hlen : (pn s ++ pL f).length ≤ 1000 := by rw [List.length_append, pn_len hs]; omega
  have hnum : Gr.puts putL [s.size] = putL s.size := by simp [Gr.puts]
  have hbs := fun W => bytes_of_string s W (by omega)
  unfold Owned
  obtain ⟨Y, hY⟩ : ∃ Y, Y = pn s ++ pL f := ⟨_, rfl⟩
  rw [← hY] at hfl hlen ⊢
  obtain ⟨P, hP⟩ : ∃ P, P = pL f := ⟨_, rfl⟩
  rw [← hP] at hp hfl hl
  obtain ⟨k, hk⟩ : ∃ k, k = P.length := ⟨_, rfl⟩
  rw [← hk] at hp hl
  obtain ⟨n, hn⟩ : ∃ n, n = f.length := ⟨_, rfl⟩
  rw [← hn] at hp ⊢
  have HP := Lib.hid hp
  have HK := Lib.hid hk
  have HFl := Lib.hid hfl
  have HNum := Lib.hid hnum
  have HBs := Lib.hid hbs
  clear hp hk hn hfl hnum hbs hA hm hpv hP hY
  go_enter Tryz.func49, Tryz.ntmps49
  go_wp2_with fail
  refine HP.out.mono ?_
  rintro e w1 ⟨A1, c1, rfl, hs1, _, hb1⟩
  have ha2 := (Below.refl w1.heap.size w1).alloc (Nat.le_refl _) (.cells #[.int .i64 ((s.size : Nat) : Int)] 3)
  have hpn := putNumbers_any [s.size] (some ⟨w1.heap.size, 0, none⟩) 1 _ (numsAt_new w1 [s.size] 3) (fun z hz => by simp only [List.mem_singleton] at hz; omega) (by simp)
  rw [HNum.out] at hpn
  have HPn := Lib.hid hpn
  have HB2 := Lib.hid (bt hb1 ha2)
  have HS2 := Lib.hid (hs1.kept ha2)
  clear hb1 hs1 hpn ha2 HP
  simp only [List.map_cons, List.map_nil, List.length_cons, List.length_nil, Nat.zero_add] at HPn
  go_wp2_with fail
  refine HPn.out.mono ?_
  rintro e w3 ⟨v3, rfl, ho3, hb3⟩
  have hz2 := HB2.out.size
  obtain ⟨A3, c3, rfl, _, hs3, _⟩ := own_slB ho3 (putL_bytes s.size)
  obtain ⟨c4, w4, hcv, hs4, hb4, _⟩ := HBs.out w3
  have HB4 := Lib.hid (bt HB2.out (bt hb3 hb4))
  have HS4 := Lib.hid hs4
  have HS3 := Lib.hid (hs3.kept hb4)
  have HS1 := Lib.hid (HS2.out.kept (bt hb3 hb4))
  clear ho3 hb3 hs3 hs4 hb4 HPn HS2 HB2
  obtain ⟨m, hm⟩ : ∃ m, m = (putL s.size).length := ⟨_, rfl⟩
  rw [← hm]
  have hels : Els (fun _ => True) w4 [.slice A3 m c3, .slice (some ⟨w3.heap.size, 0, none⟩) s.size c4, .slice A1 k c1] [putL s.size, bl s, P] := by
    refine ⟨?_, ?_, ?_, trivial⟩
    · rw [hm]
      exact el_any HS3.out
    · have := el_any HS4.out
      rw [bl_len] at this
      exact this
    · rw [HK.out]
      exact el_any HS1.out
  have hcc := Std.Concat_any _ _ _ _ (isL_alloc hels (by simp)) (by rw [HFl.out]; omega)
  rw [HFl.out] at hcc
  have ha5 := (Below.refl w4.heap.size w4).alloc (Nat.le_refl _) (.cells #[.slice A3 m c3, .slice (some ⟨w3.heap.size, 0, none⟩) s.size c4, .slice A1 k c1] 26)
  have HCc := Lib.hid hcc
  have HB5 := Lib.hid (bt HB4.out ha5)
  clear hels hcc ha5 hm
  simp only [List.length_cons, List.length_nil, Nat.zero_add] at HCc
  go_wp2_with fail
  refine HCc.out.mono ?_
  rintro e w6 ⟨v6, rfl, ho6, hb6⟩
  have hz5 := HB5.out.size
  have HO6 := Lib.hid (own_lower ho6 hz5)
  have HB6 := Lib.hid (bt HB5.out hb6)
  clear ho6 hb6 HCc
  go_wp2_with fail
  go_ret
  exact ⟨v6, rfl, HO6.out, HB6.out⟩

/-- The beginning of a step's bytes. -/
def headSt (x : St) : List Int := (pn x.s ++ pL x.f) ++ (putL x.lo.toNat ++ putL x.hi.toNat)
theorem headSt_no {x : St} (h : x.g = false) : headSt x ++ [0] = pSt x := by
  rw [pSt_no h, headSt]
  simp only [List.append_assoc]
theorem headSt_yes {x : St} (h : x.g = true) : [headSt x, [1], pn x.t ++ pL x.h].flatten = pSt x := by
  rw [pSt_yes h, headSt]
  simp only [List.flatten_cons, List.flatten_nil, List.append_nil, List.append_assoc]

theorem small_put (n : Nat) (h : n < 128) : Gr.puts putL [n] = [(n : Int)] := by
  simp only [Gr.puts, putL_lt h, List.append_nil]

set_option maxRecDepth 100000 in
set_option maxHeartbeats 16000000 in
theorem putStep_any (x : St) (A : Option Addr) (c : Nat) (B : Option Addr) (d : Nat) (w : World) (hx : OkS x) (hm1 : ExM.May x.f) (hA : SlO w A x.f c) (hB : SlO w B x.h d) :
    Calls Tryz.prog 24 #[agSt x A c B d] w (Owned w (pSt x)) := by
  have hX := bxSt_new w x A c B d
  have ha := (Below.refl w.heap.size w).alloc (Nat.le_refl _) (.cells #[.string x.s, .slice A x.f.length c, .int .i64 x.lo, .int .i64 x.hi, .bool x.g, .string x.t, .slice B x.h.length d] 47)
  have hpa1 := fun W (h : Below w.heap.size w W) => putAsked_any x.s x.f A c W hx.1 hm1 (hA.kept h)
  have hpa2 := fun (hg : x.g = true) W (h : Below w.heap.size w W) => putAsked_any x.t x.h B d W (hx.2.2.2.2.2 hg).1 (hx.2.2.2.2.2 hg).2.1 (hB.kept h)
  have hno := @headSt_no x
  have hyes := @headSt_yes x
  have hlen := pSt_len hx
  have hby := law_st.bytes hx
  have h1l : (pn x.s ++ pL x.f).length ≤ 700 := by
    have k1 := pn_len hx.1
    have k2 := (pL_len hm1 hA.rngs).2
    have k3 := hx.1
    rw [List.length_append]
    omega
  have h1b : ∀ y ∈ pn x.s ++ pL x.f, (0 : Int) ≤ y ∧ y < 256 := ScM.bytes_app (pn_bytes _) (pL_bytes hm1)
  have h2b : ∀ y ∈ putL x.lo.toNat ++ putL x.hi.toNat, (0 : Int) ≤ y ∧ y < 256 := ScM.bytes_app (putL_bytes _) (putL_bytes _)
  have hhd : headSt x = (pn x.s ++ pL x.f) ++ (putL x.lo.toNat ++ putL x.hi.toNat) := rfl
  have h3b : x.g = true → ∀ y ∈ pn x.t ++ pL x.h, (0 : Int) ≤ y ∧ y < 256 := fun hg => ScM.bytes_app (pn_bytes _) (pL_bytes (hx.2.2.2.2.2 hg).2.1)
  obtain ⟨klo, hklo⟩ := Int.eq_ofNat_of_zero_le hx.2.2.1.1
  obtain ⟨khi, hkhi⟩ := Int.eq_ofNat_of_zero_le hx.2.2.2.1.1
  have hlo4 : klo ≤ 4 := by have := hx.2.2.1.2; omega
  have hhi4 : khi ≤ 4 := by have := hx.2.2.2.1.2; omega
  have e1 : x.lo.toNat = klo := by omega
  have e2 : x.hi.toNat = khi := by omega
  rw [e1, e2] at hhd h2b
  have hl2 : (putL klo ++ putL khi).length ≤ 20 := by
    have k1 := putL_len64 (n := klo) (by omega)
    have k2 := putL_len64 (n := khi) (by omega)
    rw [List.length_append]
    omega
  have hn2 : Gr.puts putL [klo, khi] = putL klo ++ putL khi := by simp [Gr.puts]
  unfold agSt
  unfold BxSt encSt at hX
  rw [hklo, hkhi] at hX ha ⊢
  obtain ⟨Z, hZ⟩ : ∃ Z, Z = pSt x := ⟨_, rfl⟩
  rw [← hZ] at hno hyes hlen hby ⊢
  obtain ⟨H, hH⟩ : ∃ H, H = headSt x := ⟨_, rfl⟩
  rw [← hH] at hno hyes hhd
  obtain ⟨Y1, hY1⟩ : ∃ Y, Y = pn x.s ++ pL x.f := ⟨_, rfl⟩
  simp only [← hY1] at hhd h1l h1b hpa1
  obtain ⟨Y2, hY2⟩ : ∃ Y, Y = putL klo ++ putL khi := ⟨_, rfl⟩
  rw [← hY2] at hhd hl2 h2b hn2
  obtain ⟨Y3, hY3⟩ : ∃ Y, Y = pn x.t ++ pL x.h := ⟨_, rfl⟩
  rw [← hY3] at hyes h3b
  simp only [← hY3] at hpa2
  clear hx hm1 hA hB hklo hkhi e1 e2 hZ hH hY1 hY2 hY3
  obtain ⟨xs, xf, xlo, xhi, xg, xt, xh⟩ := x
  simp only at hX ha hpa1 hpa2 hno hyes h3b ⊢
  clear xlo xhi
  obtain ⟨n1, hn1⟩ : ∃ n, n = xf.length := ⟨_, rfl⟩
  obtain ⟨n3, hn3⟩ : ∃ n, n = xh.length := ⟨_, rfl⟩
  simp only [← hn1, ← hn3] at hX ha hpa1 hpa2 ⊢
  have HX := Lib.hid hX
  have HB := Lib.hid ha
  have HPa1 := Lib.hid hpa1
  have HPa2 := Lib.hid hpa2
  have HNo := Lib.hid hno
  have HYes := Lib.hid hyes
  have HBy := Lib.hid hby
  have H1b := Lib.hid h1b
  have H2b := Lib.hid h2b
  have H3b := Lib.hid h3b
  have HHd := Lib.hid hhd
  have HN2 := Lib.hid hn2
  unfold Owned at HPa1 HPa2 ⊢
  clear hX ha hpa1 hpa2 hno hyes hby h1b h2b h3b hhd hn2 hn1 hn3
  go_enter Tryz.func24, Tryz.ntmps24
  go_wp2_with fail
  obtain ⟨w1, hw1⟩ : ∃ w1, w1 = w.alloc (.cells #[.string xs, .slice A n1 c, .int .i64 (klo : Int), .int .i64 (khi : Int), .bool xg, .string xt, .slice B n3 d] 47) := ⟨_, rfl⟩
  rw [← hw1] at HX HB ⊢
  clear hw1
  have hws := HB.out.size
  refine RegB.GS_start (fun x => Below w1.heap.size w1 x) (by kernel_rfl) (by repeat (first | exact Reg.frameless_bodyPost | refine Reg.frameless_then ?_ | refine Reg.frameless_inBlock ?_)) (fun W hW => hW) (fun W hW => ?_)
  have HW := Lib.hid hW
  haveI : Nonempty (RegB.At (fun x => Below w1.heap.size w1 x)) := ⟨⟨W, hW⟩⟩
  have x0 := fun x : RegB.At (fun x => Below w1.heap.size w1 x) => (bx7 (RG.BxN.kept HX.out x.ok)).1
  have x1 := fun x : RegB.At (fun x => Below w1.heap.size w1 x) => (bx7 (RG.BxN.kept HX.out x.ok)).2.1
  have x2 := fun x : RegB.At (fun x => Below w1.heap.size w1 x) => (bx7 (RG.BxN.kept HX.out x.ok)).2.2.1
  have x3 := fun x : RegB.At (fun x => Below w1.heap.size w1 x) => (bx7 (RG.BxN.kept HX.out x.ok)).2.2.2.1
  clear hW
  refine RegB.GS_step (i := 0) rfl (by kernel_rfl) (by rfl) (fun K hK => ?_); go_big_quiet_op; refine hK _ ?_; clear hK K
  refine RegB.GS_step (i := 1) rfl (by kernel_rfl) (by rfl) (fun K hK => ?_); go_big_quiet_op; refine hK _ ?_; clear hK K
  refine RegB.GS_step (i := 2) rfl (by kernel_rfl) (by rfl) (fun K hK => ?_); go_big_quiet_op; refine hK _ ?_; clear hK K
  refine RegB.GS_step (i := 3) rfl (by kernel_rfl) (by rfl) (fun K hK => ?_); go_big_quiet_op; refine hK _ ?_; clear hK K
  refine RegB.GS_step (i := 5) rfl (by kernel_rfl) (by rfl) (fun K hK => ?_); go_big_quiet_op; refine hK _ ?_; clear hK K
  refine RegB.GS_step (i := 6) rfl (by kernel_rfl) (by rfl) (fun K hK => ?_); go_big_quiet_op; refine hK _ ?_; clear hK K
  refine RegB.GS_step (i := 7) rfl (by kernel_rfl) (by rfl) (fun K hK => ?_); go_big_quiet_op; refine hK _ ?_; clear hK K
  refine RegB.GS_step (i := 8) rfl (by kernel_rfl) (by rfl) (fun K hK => ?_); go_big_quiet_op; refine hK _ ?_; clear hK K
  refine RegB.GS_fork (i := 4) (j := 9) rfl rfl (by kernel_rfl) (by rfl) (by rfl) (fun K hK => ?_) (fun K hK => ?_)
  focus
    go_simp
    refine (HPa1.out W (bt HB.out HW.out)).mono ?_
    rintro e v4 ⟨u4, rfl, ho4, hb4⟩
    have HB4 := Lib.hid (bt HW.out hb4)
    refine hK _ _ HB4.out ?_
    clear hK K
    have ha5 := (Below.refl v4.heap.size v4).alloc (Nat.le_refl _) (.cells #[.int .i64 (klo : Int), .int .i64 (khi : Int)] 3)
    refine RegB.GS_event (i := 9) rfl (by kernel_rfl) (by rfl) (fun K hK => ?_)
    go_simp
    refine hK _ _ (bt HB4.out ha5) ?_
    clear hK K
    have hnm := putNumbers_any [klo, khi] (some ⟨v4.heap.size, 0, none⟩) 2 _ (numsAt_new v4 [klo, khi] 3) (fun z hz => by simp only [List.mem_cons, List.not_mem_nil, or_false] at hz; omega) (by simp)
    rw [HN2.out] at hnm
    simp only [List.map_cons, List.map_nil, List.length_cons, List.length_nil, Nat.zero_add] at hnm
    obtain ⟨bb, hbb⟩ : ∃ b, b = v4.heap.size := ⟨_, rfl⟩
    obtain ⟨v5, hv5⟩ : ∃ v5, v5 = v4.alloc (.cells #[.int .i64 (klo : Int), .int .i64 (khi : Int)] 3) := ⟨_, rfl⟩
    have hO5 := own_lower (RegA.own_below ho4 ha5) (show w1.heap.size ≤ W.heap.size from HW.out.size)
    have hB5 := bt HB4.out ha5
    rw [← hv5] at hnm hO5 hB5 ⊢
    rw [← hbb] at hnm ⊢
    have HNm := Lib.hid hnm
    have HO5 := Lib.hid hO5
    have HB5 := Lib.hid hB5
    clear hv5 hbb hO5 hnm ho4 hb4 ha5 hB5
  rotate_left
  focus
    go_simp
    have ha4 := (Below.refl W.heap.size W).alloc (Nat.le_refl _) (.cells #[.int .i64 (klo : Int), .int .i64 (khi : Int)] 3)
    have HB4 := Lib.hid (bt HW.out ha4)
    refine hK _ _ HB4.out ?_
    clear hK K
    refine RegB.GS_event (i := 4) rfl (by kernel_rfl) (by rfl) (fun K hK => ?_)
    go_simp
    refine (HPa1.out _ (bt HB.out HB4.out)).mono ?_
    rintro e v5 ⟨u4, rfl, ho4, hb4⟩
    have HB5 := Lib.hid (bt HB4.out hb4)
    refine hK _ _ HB5.out ?_
    clear hK K
    have hnm := putNumbers_any [klo, khi] (some ⟨W.heap.size, 0, none⟩) 2 v5 ((numsAt_new W [klo, khi] 3).kept hb4) (fun z hz => by simp only [List.mem_cons, List.not_mem_nil, or_false] at hz; omega) (by simp)
    rw [HN2.out] at hnm
    simp only [List.length_cons, List.length_nil, Nat.zero_add] at hnm
    have hO5 := own_lower ho4 (show w1.heap.size ≤ _ from Nat.le_trans HW.out.size ha4.size)
    obtain ⟨bb, hbb⟩ : ∃ b, b = W.heap.size := ⟨_, rfl⟩
    rw [← hbb] at hnm ⊢
    have HNm := Lib.hid hnm
    have HO5 := Lib.hid hO5
    clear hbb hO5 hnm ho4 hb4 ha4
  all_goals
    refine RegB.GS_event (i := 10) rfl (by kernel_rfl) (by rfl) (fun K hK => ?_)
    go_simp
    refine HNm.out.mono ?_
    rintro e v6 ⟨u6, rfl, ho6, hb6⟩
    have HB6 := Lib.hid (bt HB5.out hb6)
    refine hK _ _ HB6.out ?_
    clear hK K HNm
    obtain ⟨A6, c6, rfl, _, hs6, _⟩ := own_slB ho6 H2b.out
    have HO6 := Lib.hid (RegA.own_below HO5.out hb6)
    have HS6 := Lib.hid hs6
    have hz6 := HB6.out.size
    obtain ⟨m2, hm2⟩ : ∃ m, m = Y2.length := ⟨_, rfl⟩
    obtain ⟨m1, hm1⟩ : ∃ m, m = Y1.length := ⟨_, rfl⟩
    have hpos : 0 < m2 := by
      rw [hm2, ← HN2.out, Gr.puts, List.length_append]
      have := putL_pos klo
      omega
    rw [← hm2] at hl2 ⊢
    rw [← hm1] at h1l HO6
    have HM2 := Lib.hid hm2
    clear hs6 ho6 hb6 hm2 hm1
    refine RegB.GS_event (i := 11) rfl (by kernel_rfl) (by rfl) (fun K hK => ?_)
    refine RegA.op_append_b (.tmp 8) (.tmp 14) rfl w1.heap.size u4 m1 Y1 rfl HO6.out A6 m2 c6 Y2 rfl HM2.out.symm HS6.out.1 hpos (by omega) hz6 ?_
    intro u7 v7 hown7 hg7
    have HB7 := Lib.hid (HB6.out.grown hg7 hz6 (fun q hq => (HO6.out.lt q hq).1))
    refine hK _ _ HB7.out ?_
    clear hK K
    rw [← HHd.out] at hown7
    obtain ⟨A7, c7, hu7, hl7, hs7, _⟩ := own_slB hown7 (by rw [HHd.out]; exact ScM.bytes_app H1b.out H2b.out)
    rw [hl7] at hown7
    rw [hu7] at hown7 ⊢
    have HO7 := Lib.hid hown7
    have HS7 := Lib.hid hs7
    obtain ⟨k7, hk7⟩ : ∃ k, k = H.length := ⟨_, rfl⟩
    have hkb : k7 ≤ 800 := by omega
    rw [← hk7] at HO7 ⊢
    have HK7 := Lib.hid hk7
    clear hown7 hg7 hu7 hl7 hs7 hk7 HO6 HO5 HS6 x0 x1 x2 x3
    simp only [Act.put, List.setIfInBounds_toArray, List.set_cons_zero, List.set_cons_succ]
    refine RegB.GS_step (i := 12) rfl (by kernel_rfl) (by rfl) (fun K hK => ?_); go_big_quiet_op; refine hK _ ?_; clear hK K
    refine RegB.GS_done (by kernel_rfl) ?_
    obtain ⟨p0, p1, p2, p3, p4, p5, p6⟩ := bx7 (RG.BxN.kept HX.out HB7.out)
    cases xg
    · have HF := Lib.hid (HNo.out rfl)
      have hnm := putNumbers_any [0] (some ⟨v7.heap.size, 0, none⟩) 1 _ (numsAt_new v7 [0] 3) (fun z hz => by simp only [List.mem_singleton] at hz; omega) (by simp)
      rw [small_put 0 (by omega)] at hnm
      simp only [List.map_cons, List.map_nil, List.length_cons, List.length_nil, Nat.zero_add, Int.natCast_zero] at hnm
      have ha8 := (Below.refl v7.heap.size v7).alloc (Nat.le_refl _) (.cells #[.int .i64 0] 3)
      have HNm := Lib.hid hnm
      have HB8 := Lib.hid (bt HB7.out ha8)
      have HO8 := Lib.hid (RegA.own_below HO7.out ha8)
      clear hnm ha8
      go_wp2_with fail
      refine HNm.out.mono ?_
      rintro e v9 ⟨u9, rfl, ho9, hb9⟩
      obtain ⟨A9, c9, rfl, _, hs9, _⟩ := own_slB ho9 (by intro x hx; simp only [List.mem_singleton] at hx; omega)
      have HB9 := Lib.hid (bt HB8.out hb9)
      have HO9 := Lib.hid (RegA.own_below HO8.out hb9)
      have HS9 := Lib.hid hs9
      have hz9 := HB9.out.size
      clear ho9 hb9 hs9 HNm HO8 HB8
      go_wp2_with (at_builtin; refine wp_append_b rfl (.tmp 19) (.tmp 21) rfl w1.heap.size _ k7 _ rfl HO9.out A9 1 c9 [0] rfl rfl HS9.out.1 HS9.out.2.2.1 (by omega) hz9 ?_; intro u10 w10 hown10 hgrow10; refine pause ?_)
      have HB10 := Lib.hid (HB9.out.grown hgrow10 hz9 (fun q hq => (HO9.out.lt q hq).1))
      rw [HF.out] at hown10
      have hll : k7 + 1 = Z.length := by rw [← HF.out, List.length_append, ← HK7.out]; rfl
      rw [hll] at hown10
      have HO10 := Lib.hid (own_lower hown10 hws)
      clear hown10 hgrow10 hll
      unfold Pause
      go_wp2_with fail
      go_ret
      exact ⟨u10, rfl, HO10.out, bt HB.out HB10.out⟩
    · have HF := Lib.hid (HYes.out rfl)
      have HPa3 := Lib.hid (HPa2.out rfl)
      have H3c := Lib.hid (H3b.out rfl)
      clear HYes HNo HPa2 H3b
      go_wp2_with fail
      refine Reg.G_start (by kernel_rfl) (by repeat (first | exact Reg.frameless_bodyPost | refine Reg.frameless_then ?_ | refine Reg.frameless_inBlock ?_)) (fun W8 hW8 => ?_)
      have y5 := Reg.later_cell hW8 p5
      have y6 := Reg.later_cell hW8 p6
      have HW8 := Lib.hid hW8
      clear p0 p1 p2 p3 p4 p5 p6 hW8
      first | (refine Reg.G_step (i := 0) rfl (by kernel_rfl) (by rfl) (fun K hK => ?_); go_big_quiet_op; refine hK _ ?_; clear hK K) | (refine Reg.G_skip (i := 0) rfl (by kernel_rfl) (by rfl) ?_; simp only [Act.put, List.setIfInBounds_toArray, List.set_cons_zero, List.set_cons_succ])
      first | (refine Reg.G_step (i := 3) rfl (by kernel_rfl) (by rfl) (fun K hK => ?_); go_big_quiet_op; refine hK _ ?_; clear hK K) | (refine Reg.G_skip (i := 3) rfl (by kernel_rfl) (by rfl) ?_; simp only [Act.put, List.setIfInBounds_toArray, List.set_cons_zero, List.set_cons_succ])
      first | (refine Reg.G_step (i := 4) rfl (by kernel_rfl) (by rfl) (fun K hK => ?_); go_big_quiet_op; refine hK _ ?_; clear hK K) | (refine Reg.G_skip (i := 4) rfl (by kernel_rfl) (by rfl) ?_; simp only [Act.put, List.setIfInBounds_toArray, List.set_cons_zero, List.set_cons_succ])
      first | (refine Reg.G_step (i := 5) rfl (by kernel_rfl) (by rfl) (fun K hK => ?_); go_big_quiet_op; refine hK _ ?_; clear hK K) | (refine Reg.G_skip (i := 5) rfl (by kernel_rfl) (by rfl) ?_; simp only [Act.put, List.setIfInBounds_toArray, List.set_cons_zero, List.set_cons_succ])
      first | (refine Reg.G_step (i := 6) rfl (by kernel_rfl) (by rfl) (fun K hK => ?_); go_big_quiet_op; refine hK _ ?_; clear hK K) | (refine Reg.G_skip (i := 6) rfl (by kernel_rfl) (by rfl) ?_; simp only [Act.put, List.setIfInBounds_toArray, List.set_cons_zero, List.set_cons_succ])
      refine Reg.G_event (i := 1) rfl (by kernel_rfl) (by rfl) (fun K hK => ?_)
      go_simp
      have ha9 := (Below.refl W8.heap.size W8).alloc (Nat.le_refl _) (.cells #[.int .i64 1] 3)
      refine hK _ _ ha9 ?_
      clear hK K y5 y6
      have hnm := putNumbers_any [1] (some ⟨W8.heap.size, 0, none⟩) 1 _ (numsAt_new W8 [1] 3) (fun z hz => by simp only [List.mem_singleton] at hz; omega) (by simp)
      rw [small_put 1 (by omega)] at hnm
      simp only [List.map_cons, List.map_nil, List.length_cons, List.length_nil, Nat.zero_add, Int.natCast_one] at hnm
      have HNm2 := Lib.hid hnm
      have HB9 := Lib.hid (bt HB7.out (bt HW8.out ha9))
      have HS9 := Lib.hid (HS7.out.kept (bt HW8.out ha9))
      clear hnm ha9
      refine Reg.G_event (i := 2) rfl (by kernel_rfl) (by rfl) (fun K hK => ?_)
      go_simp
      refine HNm2.out.mono ?_
      rintro e v10 ⟨u10, rfl, ho10, hb10⟩
      refine hK _ _ hb10 ?_
      clear hK K HNm2
      obtain ⟨A10, c10, rfl, _, hs10, _⟩ := own_slB ho10 (by intro x hx; simp only [List.mem_singleton] at hx; omega)
      simp only [List.length_cons, List.length_nil, Nat.zero_add]
      have HB10 := Lib.hid (bt HB9.out hb10)
      have HS10 := Lib.hid (HS9.out.kept hb10)
      have HT10 := Lib.hid hs10
      clear ho10 hb10 hs10 HS9 HB9
      refine Reg.G_event (i := 7) rfl (by kernel_rfl) (by rfl) (fun K hK => ?_)
      go_simp
      refine (HPa3.out v10 (bt HB.out HB10.out)).mono ?_
      rintro e v11 ⟨u11, rfl, ho11, hb11⟩
      refine hK _ _ hb11 ?_
      clear hK K
      obtain ⟨A11, c11, rfl, _, hs11, _⟩ := own_slB ho11 H3c.out
      obtain ⟨k11, hk11⟩ : ∃ k, k = Y3.length := ⟨_, rfl⟩
      rw [← hk11]
      have HK11 := Lib.hid hk11
      have HB11 := Lib.hid (bt HB10.out hb11)
      have HS11 := Lib.hid (HS10.out.kept hb11)
      have HT11 := Lib.hid (HT10.out.kept hb11)
      have HU11 := Lib.hid hs11
      clear ho11 hb11 hs11 hk11 HS10 HT10 HB10
      refine Reg.G_event (i := 8) rfl (by kernel_rfl) (by rfl) (fun K hK => ?_)
      go_simp
      have ha12 := (Below.refl v11.heap.size v11).alloc (Nat.le_refl _) (.cells #[.slice A7 k7 c7, .slice A10 1 c10, .slice A11 k11 c11] 26)
      refine hK _ _ ha12 ?_
      clear hK K
      have hels : Els (fun _ => True) v11 [.slice A7 k7 c7, .slice A10 1 c10, .slice A11 k11 c11] [H, [1], Y3] := by
        refine ⟨?_, ?_, ?_, trivial⟩
        · rw [HK7.out]
          exact el_any HS11.out
        · exact el_any HT11.out
        · rw [HK11.out]
          exact el_any HU11.out
      have hcc := Std.Concat_any _ _ _ _ (isL_alloc hels (by simp)) (by rw [HF.out]; omega)
      rw [HF.out] at hcc
      simp only [List.length_cons, List.length_nil, Nat.zero_add] at hcc
      have HCc := Lib.hid hcc
      have HB12 := Lib.hid (bt HB11.out ha12)
      clear hels hcc ha12
      refine Reg.G_event (i := 9) rfl (by kernel_rfl) (by rfl) (fun K hK => ?_)
      go_simp
      refine HCc.out.mono ?_
      rintro e v13 ⟨u13, rfl, ho13, hb13⟩
      refine hK _ _ hb13 ?_
      clear hK K
      have HO13 := Lib.hid (own_lower ho13 (Nat.le_trans hws HB12.out.size))
      have HB13 := Lib.hid (bt HB12.out hb13)
      clear ho13 hb13 HCc
      first | (refine Reg.G_step (i := 10) rfl (by kernel_rfl) (by rfl) (fun K hK => ?_); go_big_quiet_op; refine hK _ ?_; clear hK K) | (refine Reg.G_skip (i := 10) rfl (by kernel_rfl) (by rfl) ?_; simp only [Act.put, List.setIfInBounds_toArray, List.set_cons_zero, List.set_cons_succ])
      refine Reg.G_done rfl ?_
      go_wp2_with fail
      go_ret
      exact ⟨u13, rfl, HO13.out, bt HB.out HB13.out⟩
end Go.Proofs.YtbmdkibmfkmjoaaGreat.Qy

namespace Go.Proofs.YtbmdkibmfkmjoaaGreat.Ex
open Go.RowKit Go.Proofs.YtbmdkibmfkmjoaaGreat.BM Go.Proofs.YtbmdkibmfkmjoaaGreat.VaM Go.Proofs.YtbmdkibmfkmjoaaGreat.Va Go.Proofs.YtbmdkibmfkmjoaaGreat.ExM

theorem ops_iff {l m : List O} (h : l.length = m.length) : l = m ↔ ∀ j, j < l.length → l.getD j o0 = m.getD j o0 := by
  constructor
  · rintro rfl j _
    rfl
  · intro hh
    apply List.ext_getElem h
    intro i h1 h2
    have h3 := hh i h1
    rw [List.getD_eq_getElem?_getD, List.getD_eq_getElem?_getD, List.getElem?_eq_getElem h1, List.getElem?_eq_getElem h2] at h3
    exact h3

set_option maxRecDepth 100000 in
set_option maxHeartbeats 2000000 in
theorem equalO_any (A : Option Addr) (l : List O) (c : Nat) (B : Option Addr) (m : List O) (d : Nat) (w : World) (h : SlO w A l c) (k : SlO w B m d) :
    Calls Tryz.prog 92 #[.slice A l.length c, .slice B m.length d] w fun e w' => e = .returned (.bool (decide (l = m))) ∧ Below w.heap.size w w' := by
  have hl := slO_len h
  have hm := slO_len k
  have hbi := fun hh => ops_iff (l := l) (m := m) hh
  have hno : l.length ≠ m.length → ¬ l = m := fun h1 h2 => h1 (by rw [h2])
  obtain ⟨n, hn⟩ : ∃ n, n = l.length := ⟨_, rfl⟩
  obtain ⟨r, hr⟩ : ∃ r, r = m.length := ⟨_, rfl⟩
  rw [← hn, ← hr] at hbi hno ⊢
  rw [← hn] at hl
  rw [← hr] at hm
  have HN := Lib.hid hn
  have HR := Lib.hid hr
  have HS := Lib.hid h
  have HT := Lib.hid k
  have HBi := Lib.hid hbi
  have HNo := Lib.hid hno
  clear hbi hno hn hr h k
  by_cases hlt : n = r
  · subst hlt
    have HB := Lib.hid (HBi.out rfl)
    clear HBi HNo
    go_enter Tryz.func92, Tryz.ntmps92
    go_wp2_with fail
    go_loopw [13] (fun i wr => ∃ j : Nat, i = .int .i64 j ∧ j ≤ n ∧ (∀ x, x < j → l.getD x o0 = m.getD x o0) ∧ Below w.heap.size w wr) (fun i _ => n - (intOf i).toNat)
    case atStart => exact ⟨0, rfl, Nat.zero_le _, fun x hx => absurd hx (Nat.not_lt_zero x), Below.refl _ _⟩
    case round =>
      obtain ⟨j, rfl, hj, hsame, hbel⟩ := hrel
      have HSm := Lib.hid hsame
      have HBl := Lib.hid hbel
      clear hsame hbel
      by_cases hjr : j < n
      · obtain ⟨b1, q1, hix1, hc1, _⟩ := HS.out.at j (by rw [← HN.out]; omega)
        obtain ⟨b2, q2, hix2, hc2, _⟩ := HT.out.at j (by rw [← HR.out]; omega)
        obtain ⟨⟨oc1, oa1, ⟨k1, n1, s1⟩⟩, hf1⟩ : ∃ f, f = l.getD j o0 := ⟨_, rfl⟩
        obtain ⟨⟨oc2, oa2, ⟨k2, n2, s2⟩⟩, hf2⟩ : ∃ f, f = m.getD j o0 := ⟨_, rfl⟩
        rw [← hf1] at hc1
        rw [← hf2] at hc2
        obtain ⟨c0, c1, c2, c3, c4⟩ := hc2 wr HBl.out
        obtain ⟨e0, e1, e2, e3, e4⟩ := hc1 wr HBl.out
        simp only at c0 c1 c2 c3 c4 e0 e1 e2 e3 e4
        have hi1 := fun W => hix1 W n c (by omega)
        have hi2 := fun W => hix2 W n d hjr
        have hne := fun W => neq_o ⟨oc1, oa1, ⟨k1, n1, s1⟩⟩ ⟨oc2, oa2, ⟨k2, n2, s2⟩⟩ W
        unfold agO at hne
        have HF1 := Lib.hid hf1
        have HF2 := Lib.hid hf2
        clear hc1 hc2 hix1 hix2 hf1 hf2
        by_cases he : (⟨oc1, oa1, ⟨k1, n1, s1⟩⟩ : O) = ⟨oc2, oa2, ⟨k2, n2, s2⟩⟩
        · have hsucc : ∀ x, x < j + 1 → l.getD x o0 = m.getD x o0 := fun x hx => by
            by_cases e : x = j
            · rw [e, ← HF1.out, ← HF2.out, he]
            · exact HSm.out x (by omega)
          simp only [decide_eq_true he, Bool.not_true] at hne
          have HSu := Lib.hid hsucc
          clear he hsucc
          go_wp2_with fail
          go_quiet (fail)
          go_wp2_with fail
          go_roundw
          case rel => exact ⟨j + 1, by go_num, by omega, HSu.out, below_drewN HBl.out _⟩
          case measure => simp [intOf]; omega
        · simp only [decide_eq_false he, Bool.not_false] at hne
          have HNo := Lib.hid (show ¬ l = m from fun h => he (by rw [HF1.out, HF2.out]; exact HB.out.1 h j hjr))
          clear he
          go_wp2_with fail
          go_quiet (fail)
          go_wp2_with fail
          go_ret
          exact ⟨ret_v (x := .bool false) (by rw [decide_eq_false HNo.out]), below_drewN HBl.out _⟩
      · obtain rfl : j = n := by omega
        have HYes := Lib.hid (HB.out.2 HSm.out)
        go_wp2_with fail
        go_ret
        exact ⟨ret_v (x := .bool true) (by rw [decide_eq_true HYes.out]), HBl.out⟩
  · have HNo' := Lib.hid (HNo.out hlt)
    have hd1 : ((n : Int) == r) = false := by rw [beq_eq_false_iff_ne]; omega
    go_enter Tryz.func92, Tryz.ntmps92
    go_wp2_with fail
    go_ret
    exact ⟨ret_v (x := .bool false) (by rw [decide_eq_false HNo'.out]), Below.refl _ _⟩

set_option maxRecDepth 100000 in
theorem Same_any (a b : List O) (A : Option Addr) (c : Nat) (B : Option Addr) (d : Nat) (w : World) (h : SlO w A a c) (k : SlO w B b d) :
    Calls Tryz.prog 65 #[.slice A a.length c, .slice B b.length d] w fun e w' => e = .returned (.bool (decide (a = b))) ∧ Below w.heap.size w w' := by
  have HE := Lib.hid (equalO_any A a c B b d w h k)
  clear h k
  go_enter Tryz.func65, Tryz.ntmps65
  go_wp2_with fail
  refine HE.out.mono ?_
  rintro e w1 ⟨rfl, hb1⟩
  go_wp2_with fail
  go_ret
  exact ⟨rfl, hb1⟩
end Go.Proofs.YtbmdkibmfkmjoaaGreat.Ex

namespace Go.Proofs.YtbmdkibmfkmjoaaGreat.Qy
open Go.RowKit Go.Proofs.YtbmdkibmfkmjoaaGreat.BM Go.Proofs.YtbmdkibmfkmjoaaGreat.LM Go.Proofs.YtbmdkibmfkmjoaaGreat.VaM Go.Proofs.YtbmdkibmfkmjoaaGreat.ExM Go.Proofs.YtbmdkibmfkmjoaaGreat.QyM
open Go.Proofs.YtbmdkibmfkmjoaaGreat.Ex (SlO slO_none slO_len)
open Go.Proofs.YtbmdkibmfkmjoaaGreat.Va (ret_v toList_beq)

/-- The numbers behind the steps, in order. -/
def agB (q : Q) : Value := .agg #[.int .i64 q.w, .int .i64 q.a, .int .i64 q.i, .int .i64 q.f]

set_option maxRecDepth 100000 in
set_option maxHeartbeats 1000000 in
theorem behindSteps_any (q : Q) (A : Option Addr) (c : Nat) (w : World) :
    Calls Tryz.prog 25 #[agQ q A c] w fun e w' => e = .returned (agB q) ∧ Below w.heap.size w w' := by
  have hX := bxQ_new w q A c
  have ha := (Below.refl w.heap.size w).alloc (Nat.le_refl _) (.cells #[.slice A q.p.length c, .int .i64 q.w, .int .i64 q.a, .int .i64 q.i, .int .i64 q.f] 25)
  unfold agQ agB
  unfold BxQ encQ at hX
  obtain ⟨qp, qw, qa, qi, qf⟩ := q
  simp only at hX ha ⊢
  obtain ⟨n, hn⟩ : ∃ n, n = qp.length := ⟨_, rfl⟩
  simp only [← hn] at hX ha ⊢
  have HB := Lib.hid ha
  have HX := Lib.hid hX
  obtain ⟨p0, p1, p2, p3, p4⟩ := bx5 hX
  obtain ⟨u1, hu1⟩ : ∃ u, u = w.alloc (.cells #[.slice A n c, .int .i64 qw, .int .i64 qa, .int .i64 qi, .int .i64 qf] 25) := ⟨_, rfl⟩
  have hs1 : u1.heap.size = w.heap.size + 1 := by rw [hu1]; simp
  have hn4 := RG.bxN_new u1 52 [.int .i64 qw, .int .i64 qa, .int .i64 qi, .int .i64 qf]
  have hb4 := (Below.refl u1.heap.size u1).alloc (Nat.le_refl _) (.cells #[.int .i64 qw, .int .i64 qa, .int .i64 qi, .int .i64 qf] 52)
  rw [← hu1] at ha
  have hbb := bt ha hb4
  rw [hs1, hu1] at hn4
  rw [hu1] at hbb
  have HN4 := Lib.hid hn4
  have HBB := Lib.hid hbb
  clear hX ha hn hu1 hs1 hn4 hb4 hbb u1
  go_enter Tryz.func25, Tryz.ntmps25
  go_wp2_with fail
  have g0 := (HN4.out 0 _ rfl).1
  have g1 := (HN4.out 1 _ rfl).1
  have g2 := (HN4.out 2 _ rfl).1
  have g3 := (HN4.out 3 _ rfl).1
  exact bodyPost_ret (v := .agg #[.int .i64 qw, .int .i64 qa, .int .i64 qi, .int .i64 qf]) (by simp [results, Tryz.results25, go_sem, g0, g1, g2, g3]) rfl ⟨rfl, HBB.out⟩

set_option maxRecDepth 100000 in
/-- ==, of the numbers behind the steps. -/
theorem eql_b (a b : Q) (w : World) : (Op.equalIn 10000 52 (agB a) (agB b)).run Tryz.prog w = .ok (decide (a.w = b.w ∧ a.a = b.a ∧ a.i = b.i ∧ a.f = b.f)) w := by
  have u3 := Tryz.underlying3
  have a3 := Tryz.isAgg3
  have z3 := Tryz.sizeOf3
  unfold agB
  rw [show (10000 : Nat) = 9999 + 1 from rfl, Op.equalIn]
  simp only [Sem.run_bind, run_underlying Tryz.underlying52, Result.andThen_ok]
  simp only [Std.Legacy.Range.forIn_eq_forIn_range', Std.Legacy.Range.size, Nat.sub_zero, Nat.add_sub_cancel, Nat.div_one, List.range'_succ, List.range'_zero, List.forIn_cons, List.forIn_nil]
  go_simp
  by_cases h1 : a.w = b.w
  · by_cases h2 : a.a = b.a
    · by_cases h3 : a.i = b.i
      · by_cases h4 : a.f = b.f
        · simp [h1, h2, h3, h4]
        · simp [h1, h2, h3, h4]
      · simp [h1, h2, h3]
    · simp [h1, h2]
  · simp [h1]

theorem andWays (z1 p z2 z3 z4 z5 : Bool) : ((z1 = false) ∨ (z1 = true ∧ p = false)) ∨ (z1 = true ∧ p = true ∧ (z2 = false ∨ (z2 = true ∧ z3 = false) ∨ (z2 = true ∧ z3 = true ∧ z4 = false) ∨ (z2 = true ∧ z3 = true ∧ z4 = true ∧ z5 = false))) ∨ (z1 = true ∧ p = true ∧ z2 = true ∧ z3 = true ∧ z4 = true ∧ z5 = true) := by
  cases z1 <;> cases p <;> cases z2 <;> cases z3 <;> cases z4 <;> cases z5 <;> simp

set_option maxRecDepth 100000 in
set_option maxHeartbeats 8000000 in
theorem sameStep_any (x y : St) (A : Option Addr) (c : Nat) (B : Option Addr) (d : Nat) (A' : Option Addr) (c' : Nat) (B' : Option Addr) (d' : Nat) (w : World) (hA : SlO w A x.f c) (hB : SlO w B x.h d) (hA' : SlO w A' y.f c') (hB' : SlO w B' y.h d') :
    Calls Tryz.prog 40 #[agSt x A c B d, agSt y A' c' B' d'] w fun e w' => e = .returned (.bool (decide (x = y))) ∧ Below w.heap.size w w' := by
  obtain ⟨zp, e1⟩ : ∃ z, decide (x.f = y.f) = z := ⟨_, rfl⟩
  obtain ⟨zq, e2⟩ : ∃ z, decide (x.h = y.h) = z := ⟨_, rfl⟩
  obtain ⟨z1, e3⟩ : ∃ z, (x.s.toList == y.s.toList) = z := ⟨_, rfl⟩
  obtain ⟨z2, e4⟩ : ∃ z, (x.lo == y.lo) = z := ⟨_, rfl⟩
  obtain ⟨z3, e5⟩ : ∃ z, (x.hi == y.hi) = z := ⟨_, rfl⟩
  obtain ⟨z4, e6⟩ : ∃ z, (x.g == y.g) = z := ⟨_, rfl⟩
  obtain ⟨z5, e7⟩ : ∃ z, (x.t.toList == y.t.toList) = z := ⟨_, rfl⟩
  have hr : decide (x = y) = (z1 && (zp && (z2 && (z3 && (z4 && (z5 && zq)))))) := by
    rw [← e1, ← e2, ← e3, ← e4, ← e5, ← e6, ← e7, toList_beq, toList_beq, Bool.eq_iff_iff]
    simp only [Bool.and_eq_true, decide_eq_true_eq, beq_iff_eq]
    rw [St.ext_iff']
  rw [hr]
  have hm1 := fun W (h : Below w.heap.size w W) => Ex.Same_any x.f y.f A c A' c' W (hA.kept h) (hA'.kept h)
  have hm2 := fun W (h : Below w.heap.size w W) => Ex.Same_any x.h y.h B d B' d' W (hB.kept h) (hB'.kept h)
  simp only [e1] at hm1
  simp only [e2] at hm2
  have hX := bxSt_new w x A c B d
  have hb1 := (Below.refl w.heap.size w).alloc (Nat.le_refl _) (.cells #[.string x.s, .slice A x.f.length c, .int .i64 x.lo, .int .i64 x.hi, .bool x.g, .string x.t, .slice B x.h.length d] 47)
  obtain ⟨u1, hu1⟩ : ∃ u, u = w.alloc (.cells #[.string x.s, .slice A x.f.length c, .int .i64 x.lo, .int .i64 x.hi, .bool x.g, .string x.t, .slice B x.h.length d] 47) := ⟨_, rfl⟩
  have hs1 : u1.heap.size = w.heap.size + 1 := by rw [hu1]; simp
  rw [← hu1] at hX hb1
  have hY := bxSt_new u1 y A' c' B' d'
  rw [hs1] at hY
  have hb2 := (Below.refl u1.heap.size u1).alloc (Nat.le_refl _) (.cells #[.string y.s, .slice A' y.f.length c', .int .i64 y.lo, .int .i64 y.hi, .bool y.g, .string y.t, .slice B' y.h.length d'] 47)
  have hX2 := hX.kept hb2
  have hbb := bt hb1 hb2
  rw [hu1] at hX2 hY hbb
  unfold BxSt encSt at hX2 hY
  unfold agSt
  clear hX hb1 hb2 hs1 hu1 u1 hr e1 e2 hA hB hA' hB'
  obtain ⟨xs, xf, xlo, xhi, xg, xt, xh⟩ := x
  obtain ⟨ys, yf, ylo, yhi, yg, yt, yh⟩ := y
  simp only at hX2 hY hbb hm1 hm2 e3 e4 e5 e6 e7 ⊢
  obtain ⟨n1, hn1⟩ : ∃ n, n = xf.length := ⟨_, rfl⟩
  obtain ⟨n2, hn2⟩ : ∃ n, n = yf.length := ⟨_, rfl⟩
  obtain ⟨n3, hn3⟩ : ∃ n, n = xh.length := ⟨_, rfl⟩
  obtain ⟨n4, hn4⟩ : ∃ n, n = yh.length := ⟨_, rfl⟩
  simp only [← hn1, ← hn2, ← hn3, ← hn4] at hX2 hY hbb hm1 hm2 ⊢
  have HX := Lib.hid hX2
  have HY := Lib.hid hY
  have HB := Lib.hid hbb
  have HM1 := Lib.hid hm1
  have HM2 := Lib.hid hm2
  obtain ⟨r0, r1, r2, r3, r4, r5, r6⟩ := bx7 hX2
  obtain ⟨s0, s1, s2, s3, s4, s5, s6⟩ := bx7 hY
  clear hX2 hY hbb hm1 hm2 hn1 hn2 hn3 hn4
  rcases andWays z1 zp z2 z3 z4 z5 with hbad | ⟨rfl, rfl, hmid⟩ | ⟨rfl, rfl, rfl, rfl, rfl, rfl⟩
  · rcases hbad with rfl | ⟨rfl, rfl⟩
    · go_enter Tryz.func40, Tryz.ntmps40
      go_wp2_with fail
      go_ret
      exact ⟨rfl, HB.out⟩
    · go_enter Tryz.func40, Tryz.ntmps40
      go_wp2_with fail
      refine (HM1.out _ HB.out).mono ?_
      rintro e w2 ⟨rfl, hb2⟩
      have HB2 := Lib.hid (bt HB.out hb2)
      clear hb2 r0 r1 r2 r3 r4 r5 r6 s0 s1 s2 s3 s4 s5 s6
      go_wp2_with fail
      go_ret
      exact ⟨rfl, HB2.out⟩
  · have HF := Lib.hid (show (z2 && (z3 && (z4 && (z5 && zq)))) = false from by rcases hmid with h | ⟨h, h'⟩ | ⟨h, h', h''⟩ | ⟨h, h', h'', h3⟩ <;> simp [*])
    rw [HF.out]
    rcases hmid with rfl | ⟨rfl, rfl⟩ | ⟨rfl, rfl, rfl⟩ | ⟨rfl, rfl, rfl, rfl⟩
    all_goals
      try (cases xg <;> cases yg <;> first | exact absurd e6 (by decide) | skip)
    all_goals
      go_enter Tryz.func40, Tryz.ntmps40
      go_wp2_with fail
      refine (HM1.out _ HB.out).mono ?_
      rintro e w2 ⟨rfl, hb2⟩
      have HB2 := Lib.hid (bt HB.out hb2)
      clear r0 r1 r2 r3 r4 r5 r6 s0 s1 s2 s3 s4 s5 s6
      obtain ⟨r0, r1, r2, r3, r4, r5, r6⟩ := bx7 (RG.BxN.kept HX.out hb2)
      obtain ⟨s0, s1, s2, s3, s4, s5, s6⟩ := bx7 (RG.BxN.kept HY.out hb2)
      clear hb2
      go_wp2_with fail
      go_ret
      exact ⟨rfl, HB2.out⟩
  · cases xg <;> cases yg <;> first | exact absurd e6 (by decide) | skip
    all_goals
      go_enter Tryz.func40, Tryz.ntmps40
      go_wp2_with fail
      refine (HM1.out _ HB.out).mono ?_
      rintro e w2 ⟨rfl, hb2⟩
      have HB2 := Lib.hid (bt HB.out hb2)
      clear r0 r1 r2 r3 r4 r5 r6 s0 s1 s2 s3 s4 s5 s6
      obtain ⟨r0, r1, r2, r3, r4, r5, r6⟩ := bx7 (RG.BxN.kept HX.out hb2)
      obtain ⟨s0, s1, s2, s3, s4, s5, s6⟩ := bx7 (RG.BxN.kept HY.out hb2)
      clear hb2
      go_wp2_with fail
      refine (HM2.out _ HB2.out).mono ?_
      rintro e w3 ⟨rfl, hb3⟩
      have HB3 := Lib.hid (bt HB2.out hb3)
      clear hb3
      go_wp2_with fail
      go_ret
      exact ⟨rfl, HB3.out⟩
end Go.Proofs.YtbmdkibmfkmjoaaGreat.Qy

namespace Go.Proofs.YtbmdkibmfkmjoaaGreat.Qy
open Go.RowKit Go.Proofs.YtbmdkibmfkmjoaaGreat.BM Go.Proofs.YtbmdkibmfkmjoaaGreat.LM Go.Proofs.YtbmdkibmfkmjoaaGreat.LeM Go.Proofs.YtbmdkibmfkmjoaaGreat.VaM Go.Proofs.YtbmdkibmfkmjoaaGreat.ExM Go.Proofs.YtbmdkibmfkmjoaaGreat.QyM
open Go.Proofs.YtbmdkibmfkmjoaaGreat.Ex (SlO slO_none slO_len)
open Go.Proofs.YtbmdkibmfkmjoaaGreat.Va (ret_v str_e0)

set_option maxRecDepth 100000 in
set_option maxHeartbeats 16000000 in
theorem Put_any (q : Q) (A : Option Addr) (c : Nat) (w : World) (hT : SlSt w A q.p c) (hr : RngQ q) :
    Calls Tryz.prog 9 #[agQ q A c] w (Putted q w) := by
  have hlen := slSt_len hT
  have hwm := fun W (h : Below w.heap.size w W) => wellMade_any q A c W (hT.kept h)
  have hbs := fun W => behindSteps_any q A c W
  have hX := bxQ_new w q A c
  have ha := (Below.refl w.heap.size w).alloc (Nat.le_refl _) (.cells #[.slice A q.p.length c, .int .i64 q.w, .int .i64 q.a, .int .i64 q.i, .int .i64 q.f] 25)
  unfold Putted
  by_cases hmay : May q
  · have hpv : QyM.pv q = pQ q := by rw [QyM.pv, if_pos hmay]
    have hokq := okQ_of hmay hr
    have hby := law_q.bytes ⟨hokq, hmay⟩
    rw [decide_eq_true hmay, hpv]
    simp only [decide_eq_true hmay] at hwm
    have hstep := fun j (hj : j < q.p.length) K k L l W (hO : SlO W K (q.p.getD j t0).f k) (hO2 : SlO W L (q.p.getD j t0).h l) => putStep_any (q.p.getD j t0) K k L l W (hokq.2.1 _ (getD_mem hj)) (hokq.2.1 _ (getD_mem hj)).2.1.1 hO hO2
    have hsn := fun j (hj : j < q.p.length) => (show Gr.puts pSt (q.p.take (j + 1)) = Gr.puts pSt (q.p.take j) ++ pSt (q.p.getD j t0) from by rw [take_snocSt hj, Gr.puts_snoc])
    have hpl := fun j => puts_len (p := q.p.take j) fun x hx => hokq.2.1 x (List.mem_of_mem_take hx)
    have hsl := fun j (hj : j < q.p.length) => pSt_len (hokq.2.1 _ (getD_mem hj))
    have hsb := fun j (hj : j < q.p.length) => law_st.bytes (hokq.2.1 _ (getD_mem hj))
    have h4 := hmay.1
    have hq : pQ q = putL q.p.length ++ (Gr.puts pSt q.p ++ (putL q.w.toNat ++ (putL q.a.toNat ++ (putL q.i.toNat ++ putL q.f.toNat)))) := rfl
    have hall : Gr.puts pSt (q.p.take q.p.length) = Gr.puts pSt q.p := by rw [List.take_length]
    obtain ⟨hy1, hw1, ha1, hi1, hf1, hy2, hy3⟩ := hmay
    obtain ⟨kw, ekw⟩ := Int.eq_ofNat_of_zero_le hw1.1
    obtain ⟨ka, eka⟩ := Int.eq_ofNat_of_zero_le ha1.1
    obtain ⟨ki, eki⟩ := Int.eq_ofNat_of_zero_le hi1.1
    obtain ⟨kf, ekf⟩ := Int.eq_ofNat_of_zero_le hf1.1
    have hkk : kw ≤ 1125899906842624 ∧ ka ≤ 4 ∧ ki ≤ 4 ∧ kf ≤ 6 := ⟨by omega, by omega, by omega, by omega⟩
    have hnt : Gr.puts putL [kw, ka, ki, kf] = putL kw ++ (putL ka ++ (putL ki ++ putL kf)) := by simp [Gr.puts]
    rw [ekw, eka, eki, ekf] at hq
    simp only [Int.toNat_natCast] at hq
    rw [← hnt] at hq
    obtain ⟨Z, hZ⟩ : ∃ Z, Z = pQ q := ⟨_, rfl⟩
    rw [← hZ] at hq hby ⊢
    unfold agQ at hwm hbs ⊢
    unfold agB at hbs
    unfold BxQ encQ at hX
    rw [ekw, eka, eki, ekf] at hX ha ⊢
    simp only [ekw, eka, eki, ekf] at hwm hbs
    clear hr hokq hy1 hy2 hy3 hw1 ha1 hi1 hf1 ekw eka eki ekf hpv hZ hnt
    obtain ⟨qp, qw, qa, qi, qf⟩ := q
    simp only at hT hlen hwm hbs hX ha hstep hsn hpl hsl hsb h4 hq hall ⊢
    clear qw qa qi qf
    obtain ⟨n, hn⟩ : ∃ n, n = qp.length := ⟨_, rfl⟩
    simp only [← hn] at hlen hwm hbs hX ha hstep hsn hsl hsb h4 hq hall ⊢
    obtain ⟨P, hP⟩ : ∃ P, P = putL n := ⟨_, rfl⟩
    rw [← hP] at hq
    have hPl : P.length ≤ 10 := by rw [hP]; exact putL_len64 (by omega)
    have HN := Lib.hid hn
    have HX := Lib.hid hX
    have HB := Lib.hid ha
    have HWm := Lib.hid hwm
    have HBs := Lib.hid hbs
    have HT := Lib.hid hT
    have HSt := Lib.hid hstep
    have HSn := Lib.hid hsn
    have HPl := Lib.hid hpl
    have HSl := Lib.hid hsl
    have HSb := Lib.hid hsb
    have HQ := Lib.hid hq
    have HAll := Lib.hid hall
    have HBy := Lib.hid hby
    have HPn := Lib.hid (show Gr.puts putL [n] = P from by rw [hP]; simp [Gr.puts])
    have HPb := Lib.hid (show ∀ x ∈ P, (0 : Int) ≤ x ∧ x < 256 from by rw [hP]; exact putL_bytes n)
    obtain ⟨p0, p1, p2, p3, p4⟩ := bx5 hX
    clear hn hX ha hwm hbs hT hstep hsn hpl hsl hsb hq hall hby hP
    go_enter Tryz.func9, Tryz.ntmps9
    go_wp2_with fail
    refine (HWm.out _ HB.out).mono ?_
    obtain ⟨w1, hw1⟩ : ∃ w1, w1 = w.alloc (.cells #[.slice A n c, .int .i64 (kw : Int), .int .i64 (ka : Int), .int .i64 (ki : Int), .int .i64 (kf : Int)] 25) := ⟨_, rfl⟩
    rw [← hw1] at HB HX ⊢
    have HXk := Lib.hid (fun W h => bx5 (RG.BxN.kept HX.out (w' := W) h))
    clear hw1 HX p0 p1 p2 p3 p4
    rintro e w2 ⟨rfl, hb2⟩
    have HB2 := Lib.hid hb2
    obtain ⟨p0, p1, p2, p3, p4⟩ := HXk.out w2 hb2
    have ha3 := (Below.refl w2.heap.size w2).alloc (Nat.le_refl _) (.cells #[.int .i64 (n : Int)] 3)
    have hnm := putNumbers_any [n] (some ⟨w2.heap.size, 0, none⟩) 1 _ (numsAt_new w2 [n] 3) (fun z hz => by simp only [List.mem_singleton] at hz; omega) (by simp)
    rw [HPn.out] at hnm
    simp only [List.map_cons, List.map_nil, List.length_cons, List.length_nil, Nat.zero_add] at hnm
    have HNm := Lib.hid hnm
    have HB3 := Lib.hid (bt hb2 ha3)
    clear hb2 ha3 hnm HWm
    unfold Owned at HNm
    go_wp2_with fail
    refine HNm.out.mono ?_
    rintro e w4 ⟨u4, rfl, ho4, hb4⟩
    have hz3 := HB3.out.size
    have HO4 := Lib.hid (own_lower ho4 hz3)
    have HB4 := Lib.hid (bt HB3.out hb4)
    obtain ⟨r0, r1, r2, r3, r4⟩ := HXk.out w4 HB4.out
    clear ho4 hb4 HNm p0 p1 p2 p3 p4 HB2
    go_wp2_with fail
    go_loopw [4, 18] (fun u i wr => ∃ (j k : Nat), i = .int .i64 j ∧ j ≤ n ∧ k = (P ++ Gr.puts pSt (qp.take j)).length ∧ wr.ownsRow w1.heap.size 5 1 u k (cs (P ++ Gr.puts pSt (qp.take j))) ∧ Below w1.heap.size w1 wr) (fun _ i _ => n - (intOf i).toNat)
    case atStart => exact ⟨0, P.length, rfl, Nat.zero_le _, by simp [Gr.puts], by simpa [Gr.puts] using HO4.out, HB4.out⟩
    case round =>
      obtain ⟨j, k, rfl, hj, hk, hown, hbel⟩ := hrel
      have hk2 : k ≤ 5400 := by
        have h1 := HPl.out j
        rw [hk, List.length_append]
        rw [List.length_take] at h1
        have h2 : min j qp.length ≤ 4 := by omega
        omega
      have HO := Lib.hid hown
      have HK := Lib.hid hk
      have HBl := Lib.hid hbel
      obtain ⟨p0, p1, p2, p3, p4⟩ := HXk.out wr hbel
      clear hown hk hbel HO4 HB4 r0 r1 r2 r3 r4
      by_cases hjn : j < n
      · obtain ⟨b1, q1, A1, c1, C1, d1, hix, hc, _⟩ := HT.out.at j (by rw [← HN.out]; exact hjn)
        obtain ⟨hcell, hA1, hC1⟩ := hc wr (bt HB.out HBl.out)
        have hi := fun W => hix W n c hjn
        have hst := HSt.out j hjn A1 c1 C1 d1 wr hA1 hC1
        have hsn := HSn.out j hjn
        have hsl := HSl.out j hjn
        have hsb := HSb.out j hjn
        unfold Owned agSt at hst
        obtain ⟨Y, hY⟩ : ∃ Y, Y = pSt (qp.getD j t0) := ⟨_, rfl⟩
        rw [← hY] at hst hsn hsl hsb
        obtain ⟨x, hx⟩ : ∃ x, x = qp.getD j t0 := ⟨_, rfl⟩
        rw [← hx] at hst hcell
        unfold CellSt at hcell
        obtain ⟨xs, xf, lo, hi', xg, xt, xh⟩ := x
        simp only at hcell hst
        obtain ⟨x0, x1, x2, x3, x4, x5, x6⟩ := hcell
        obtain ⟨n1, hn1⟩ : ∃ n, n = xf.length := ⟨_, rfl⟩
        obtain ⟨n2, hn2⟩ : ∃ n, n = xh.length := ⟨_, rfl⟩
        simp only [← hn1] at x1 hst
        simp only [← hn2] at x6 hst
        have HSt1 := Lib.hid hst
        have HS1 := Lib.hid hsn
        have HY1 := Lib.hid hsb
        clear hc hix hA1 hC1 hst hsn hsb hx hn1 hn2 hY
        go_wp2_with fail
        refine HSt1.out.mono ?_
        rintro e w5 ⟨u5, rfl, ho5, hb5⟩
        obtain ⟨A5, c5, rfl, _, hs5, _⟩ := own_slB ho5 HY1.out
        have HO5 := Lib.hid (RegA.own_below HO.out hb5)
        have HB5 := Lib.hid (bt HBl.out hb5)
        have HS5 := Lib.hid hs5
        have hz5 := HB5.out.size
        obtain ⟨m, hm⟩ : ∃ m, m = Y.length := ⟨_, rfl⟩
        rw [← hm] at hsl ⊢
        have HM := Lib.hid hm
        clear ho5 hb5 hs5 hm HSt1 x0 x1 x2 x3 x4 x5 x6 p0 p1 p2 p3 p4 hi
        go_wp2_with (at_builtin; refine wp_append_b rfl (.tmp 21) (.tmp 27) rfl w1.heap.size _ k _ rfl HO5.out A5 m c5 Y rfl HM.out.symm HS5.out.1 HS5.out.2.2.1 (by omega) hz5 ?_; intro u6 w6 hown6 hgrow6; refine pause ?_)
        have HB6 := Lib.hid (HB5.out.grown hgrow6 hz5 (fun q hq => (HO5.out.lt q hq).1))
        rw [List.append_assoc, ← HS1.out] at hown6
        have HO6 := Lib.hid hown6
        have HK6 := Lib.hid (show k + m = (P ++ Gr.puts pSt (qp.take (j + 1))).length from by rw [HS1.out, ← List.append_assoc, List.length_append, ← HM.out, ← HK.out])
        clear hown6 hgrow6
        unfold Pause
        go_wp2_with fail
        go_roundw
        case rel => exact ⟨j + 1, k + m, by go_num, by omega, HK6.out, HO6.out, HB6.out⟩
        case measure => simp [intOf]; omega
      · obtain rfl : j = n := by omega
        have hown := HO.out
        rw [HAll.out] at hown
        have hkk' := HK.out
        rw [HAll.out] at hkk'
        have HO2 := Lib.hid hown
        have HK2 := Lib.hid hkk'
        clear hown hkk'
        go_wp2_with fail
        refine (HBs.out wr).mono ?_
        rintro e w5 ⟨rfl, hb5⟩
        have HO5 := Lib.hid (RegA.own_below HO2.out hb5)
        have HB5 := Lib.hid (bt HBl.out hb5)
        clear hb5 p0 p1 p2 p3 p4
        have ha6 := (Below.refl w5.heap.size w5).alloc (Nat.le_refl _) (.cells #[.int .i64 (kw : Int), .int .i64 (ka : Int), .int .i64 (ki : Int), .int .i64 (kf : Int)] 52)
        have hnm := putNumbers_any [kw, ka, ki, kf] (some ⟨w5.heap.size, 0, none⟩) 4 _ (numsAt_new w5 [kw, ka, ki, kf] 52) (fun z hz => by simp only [List.mem_cons, List.not_mem_nil, or_false] at hz; omega) (by simp)
        simp only [List.map_cons, List.map_nil, List.length_cons, List.length_nil, Nat.zero_add, Nat.reduceAdd] at hnm
        have hyl := nums_len (zs := [kw, ka, ki, kf]) (fun z hz => by simp only [List.mem_cons, List.not_mem_nil, or_false] at hz; omega)
        obtain ⟨Y, hY⟩ : ∃ Y, Y = Gr.puts putL [kw, ka, ki, kf] := ⟨_, rfl⟩
        have hyb : ∀ x ∈ Y, (0 : Int) ≤ x ∧ x < 256 := by rw [hY]; exact nums_bytes
        rw [← hY] at hnm hyl
        simp only [List.length_cons, List.length_nil, Nat.zero_add, Nat.reduceAdd] at hyl
        have HNm := Lib.hid hnm
        have HY := Lib.hid hY
        have HYb := Lib.hid hyb
        have HO6 := Lib.hid (RegA.own_below HO5.out ha6)
        have HB6 := Lib.hid (bt HB5.out ha6)
        unfold Owned at HNm
        clear hnm hY hyb ha6 HO5 HB5
        go_wp2_with fail
        refine HNm.out.mono ?_
        rintro e w7 ⟨u7, rfl, ho7, hb7⟩
        obtain ⟨A7, c7, rfl, _, hs7, _⟩ := own_slB ho7 HYb.out
        have HO7 := Lib.hid (RegA.own_below HO6.out hb7)
        have HB7 := Lib.hid (bt HB6.out hb7)
        have HS7 := Lib.hid hs7
        have hz7 := HB7.out.size
        obtain ⟨m, hm⟩ : ∃ m, m = Y.length := ⟨_, rfl⟩
        rw [← hm] at hyl ⊢
        have HM := Lib.hid hm
        clear ho7 hb7 hs7 hm HNm HO6 HB6
        go_wp2_with (at_builtin; refine wp_append_b rfl (.tmp 32) (.tmp 34) rfl w1.heap.size _ k _ rfl HO7.out A7 m c7 Y rfl HM.out.symm HS7.out.1 HS7.out.2.2.1 (by omega) hz7 ?_; intro u8 w8 hown8 hgrow8; refine pause ?_)
        have HB8 := Lib.hid (bt HB.out (HB7.out.grown hgrow8 hz7 (fun q hq => (HO7.out.lt q hq).1)))
        have he : (P ++ Gr.puts pSt qp) ++ Y = Z := by rw [HQ.out, HY.out, List.append_assoc]
        rw [he] at hown8
        obtain ⟨A8, c8, rfl, hl8, hs8, _⟩ := own_slB hown8 HBy.out
        have HS8 := Lib.hid hs8
        have HL8 := Lib.hid hl8
        clear hown8 hgrow8 he hs8 hl8
        unfold Pause
        go_wp2_with fail
        go_ret2
        exact ⟨A8, c8, rfl, HS8.out, HB8.out⟩
  · have hpv : QyM.pv q = [] := by rw [QyM.pv, if_neg hmay]
    rw [decide_eq_false hmay, hpv]
    simp only [decide_eq_false hmay] at hwm
    unfold agQ at hwm ⊢
    unfold BxQ encQ at hX
    clear hpv hmay hr hT hbs
    obtain ⟨qp, qw, qa, qi, qf⟩ := q
    simp only at hlen hwm hX ha ⊢
    obtain ⟨n, hn⟩ : ∃ n, n = qp.length := ⟨_, rfl⟩
    simp only [← hn] at hlen hwm hX ha ⊢
    have HB := Lib.hid ha
    have HWm := Lib.hid hwm
    obtain ⟨p0, p1, p2, p3, p4⟩ := bx5 hX
    clear hn hX ha hwm
    go_enter Tryz.func9, Tryz.ntmps9
    go_wp2_with fail
    refine (HWm.out _ HB.out).mono ?_
    rintro e w2 ⟨rfl, hb2⟩
    have HB2 := Lib.hid (bt HB.out hb2)
    clear hb2 HWm
    go_wp2_with fail
    go_ret2
    exact ⟨none, 0, rfl, slB_none _, HB2.out⟩
end Go.Proofs.YtbmdkibmfkmjoaaGreat.Qy

namespace Go.Proofs.YtbmdkibmfkmjoaaGreat.Sc
open Go.RowKit Go.Proofs.YtbmdkibmfkmjoaaGreat.BM Go.Proofs.YtbmdkibmfkmjoaaGreat.VaM Go.Proofs.YtbmdkibmfkmjoaaGreat.Va Go.Proofs.YtbmdkibmfkmjoaaGreat.ScM

theorem info_f : (Tryz.prog.info? 72).map (fun i => (i.zero, i.size, i.bytes)) = some (some (.agg #[.string ⟨#[]⟩, .int .i64 0]), 2, 24) := by kernel_rfl

/-- A field's own cells, and those of several. -/
def fcs : List F → List Value
  | [] => []
  | f :: l => .string f.s :: .int .i64 f.k :: fcs l

theorem fcs_len : ∀ l : List F, (fcs l).length = l.length * 2
  | [] => rfl
  | f :: l => by rw [fcs, List.length_cons, List.length_cons, fcs_len l, List.length_cons]; omega

theorem fcs_app : ∀ l m : List F, fcs (l ++ m) = fcs l ++ fcs m
  | [], _ => rfl
  | f :: l, m => by rw [List.cons_append, fcs, fcs_app l m]; rfl

theorem fcs_at : ∀ (l : List F) (j : Nat), j < l.length → (fcs l)[j * 2]? = some (.string (l.getD j d0).s) ∧ (fcs l)[j * 2 + 1]? = some (.int .i64 (l.getD j d0).k)
  | [], _, h => absurd h (Nat.not_lt_zero _)
  | f :: l, 0, _ => ⟨rfl, rfl⟩
  | f :: l, j + 1, h => by
    have h1 := fcs_at l j (by simpa using h)
    rw [show (j + 1) * 2 = j * 2 + 1 + 1 from by omega, fcs]
    simpa using h1

theorem fcs_one : ∀ l : List F, ∀ u ∈ fcs l, u.oneCell' = true
  | [], u, h => by cases h
  | f :: l, u, h => by
    rcases List.mem_cons.1 h with rfl | h
    · rfl
    · rcases List.mem_cons.1 h with rfl | h
      · rfl
      · exact fcs_one l u h

/-- Cells at an address are a row of fields. -/
theorem isF_cells {w : World} {b o : Nat} {l : List F} (h : ∀ (j : Nat) (u : Value), (fcs l)[j]? = some u → w.cell? ⟨b, o + j, none⟩ = some u) : IsF w (some ⟨b, o, none⟩) l := by
  intro _
  refine ⟨b, o, rfl, fun j hj => ?_⟩
  obtain ⟨h1, h2⟩ := fcs_at l j hj
  exact ⟨h _ _ h1, by have := h _ _ h2; rwa [← Nat.add_assoc] at this⟩

theorem cells_isF {w : World} {b o : Nat} {l : List F} (h : IsF w (some ⟨b, o, none⟩) l) : ∀ (j : Nat) (u : Value), (fcs l)[j]? = some u → w.cell? ⟨b, o + j, none⟩ = some u := by
  intro j u hj
  have hlt := (List.getElem?_eq_some_iff.1 hj).1
  rw [fcs_len] at hlt
  obtain ⟨b', o', e, hc⟩ := h (by omega)
  injection e with e
  injection e with e1 e2
  subst e1
  subst e2
  have h1 := hc (j / 2) (by omega)
  have h2 := fcs_at l (j / 2) (by omega)
  rcases Nat.mod_two_eq_zero_or_one j with hm | hm
  · have e : j = j / 2 * 2 := by omega
    rw [e] at hj ⊢
    rw [h2.1] at hj
    rw [← hj]
    exact h1.1
  · have e : j = j / 2 * 2 + 1 := by omega
    rw [e] at hj ⊢
    rw [h2.2] at hj
    rw [← hj, ← Nat.add_assoc]
    exact h1.2

/-- What is owned reads as a slice of fields. -/
theorem own_slF {w : World} {base n : Nat} {v : Value} {l : List F} (h : w.ownsRow base 72 2 v n (fcs l)) (hs : ∀ f ∈ l, f.s.size ≤ maxLen) :
    ∃ A c, v = .slice A l.length c ∧ n = l.length ∧ SlF w A l c ∧ (∀ a, A = some a → base ≤ a.block ∧ a.block < w.heap.size) := by
  have hl : l.length = n := by have := h.1; rw [fcs_len] at this; omega
  subst hl
  rcases h.2 with ⟨hv, h0⟩ | ⟨g, cap, cur, rfl, hg, hh, hcap, hmx, hrest⟩
  · subst hv
    refine ⟨none, 0, by rw [h0], rfl, ⟨fun hx => by omega, by omega, fun _ => rfl, Nat.zero_le _, hs⟩, fun a ha => by cases ha⟩
  · refine ⟨some ⟨g, 0, none⟩, cap, rfl, rfl, ⟨isF_cells (fun j u hj => ?_), hcap, (fun h => by cases h), hmx, hs⟩, fun a ha => ?_⟩
    · have hc := h.cells (g := g) rfl j u hj
      rw [Addr.add_lit] at hc
      exact hc
    · injection ha with ha
      subst ha
      exact ⟨hg, (h.lt g rfl).2⟩

/-- A new field. -/
theorem isF_new (w : World) (s : ByteArray) (k : Int) : IsF (w.alloc (.cells #[.string s, .int .i64 k] 72)) (some ⟨w.heap.size, 0, none⟩) [⟨s, k⟩] := by
  obtain ⟨⟨y0, y1⟩, _⟩ := bx2_new w 72 (.string s) (.int .i64 k)
  refine fun _ => ⟨w.heap.size, 0, rfl, fun r hr => ?_⟩
  obtain rfl : r = 0 := by simpa using hr
  exact ⟨y0, y1⟩

theorem isF_grown {w w' : World} {b o : Nat} {l : List F} {r : Option Nat} (h : IsF w (some ⟨b, o, none⟩) l) (hg : w.grownBy w' r) (hne : ∀ k, r = some k → k ≠ b) : IsF w' (some ⟨b, o, none⟩) l := by
  intro h0
  obtain ⟨b', o', e, hc⟩ := h h0
  injection e with e
  injection e with e1 e2
  subst e1
  subst e2
  have hn : some b ≠ r := fun e => hne b e.symm rfl
  exact ⟨b, o, rfl, fun j hj => ⟨hg.cell (hc j hj).1 hn, hg.cell (hc j hj).2 hn⟩⟩

/-- What is owned is a slice. -/
theorem own_is {w : World} {base n size : Nat} {e : TypeId} {v : Value} {xs : List Value} (h : w.ownsRow base e size v n xs) : ∃ A c, v = .slice A n c := by
  rcases h.2 with ⟨rfl, rfl⟩ | ⟨g, cap, cur, rfl, _⟩
  · exact ⟨none, 0, rfl⟩
  · exact ⟨_, cap, rfl⟩

/-- append of fields onto a row of the call's own: the operation alone. -/
theorem op_append_f {w : World} {o : Oper} {a : Act} {K : Act → World → Prop} {Q : Exit → Act → World → Prop} (s x : Operand)
    (ho : o.op = .call { callee := .builtin .append, args := #[s, x], argTypes := #[38, 38] })
    (base : Nat) (v : Value) (n : Nat) (l : List F) (hs : a.eval s = v) (hown : w.ownsRow base 72 2 v n (fcs l))
    (b q m c : Nat) (r : List F) (hx : a.eval x = .slice (some ⟨b, q, none⟩) m c) (hm : r.length = m) (hB : IsF w (some ⟨b, q, none⟩) r)
    (hsz : n + m ≤ 1000000000) (hbase : base ≤ w.heap.size)
    (h : ∀ v' w', w'.ownsRow base 72 2 v' (n + m) (fcs (l ++ r)) → w.grownBy w' v.ownBlock → K (a.put o.dst v') w') : o.wp Tryz.prog a w K Q := by
  obtain ⟨i0, hi, hz0, hz1, hz2⟩ := info_parts info_f
  obtain ⟨v', w', hr, h2, h3, _⟩ := run_append_own (P := Tryz.prog) w base 38 o.type 72 i0 (.agg #[.string ⟨#[]⟩, .int .i64 0]) 2 24 Tryz.underlying38 hi hz0 hz1 hz2 rfl (by decide) v n (fcs l) hown ⟨b, q, none⟩ m c (fcs r) (by rw [fcs_len, hm])
    (fun j u hj => by rw [Addr.add_lit]; exact cells_isF hB j u hj) (fcs_one r) (by unfold maxLen; omega) (by omega) hbase
  unfold Oper.wp execOp
  simp only [ho, resolve, invoke, builtin, Sem.run_bind, Sem.run_pure, Result.andThen_ok, List.map_toArray, List.map_cons, List.map_nil, hs, hx, hr]
  exact h v' w' (by rw [fcs_app]; exact h2) h3

/-- append of fields onto a row of the call's own, whatever the source: the operation alone. -/
theorem op_append_a {w : World} {o : Oper} {a : Act} {K : Act → World → Prop} {Q : Exit → Act → World → Prop} (s x : Operand)
    (ho : o.op = .call { callee := .builtin .append, args := #[s, x], argTypes := #[38, 38] })
    (base : Nat) (v : Value) (n : Nat) (l : List F) (hs : a.eval s = v) (hown : w.ownsRow base 72 2 v n (fcs l))
    (A : Option Addr) (m c : Nat) (r : List F) (hx : a.eval x = .slice A m c) (hm : r.length = m) (hB : IsF w A r) (hnil : A = none → c = 0)
    (hsz : n + m ≤ 1000000000) (hbase : base ≤ w.heap.size)
    (h : ∀ v' w', w'.ownsRow base 72 2 v' (n + m) (fcs (l ++ r)) → w.grownBy w' v.ownBlock → K (a.put o.dst v') w') : o.wp Tryz.prog a w K Q := by
  obtain ⟨i0, hi, hz0, hz1, hz2⟩ := info_parts info_f
  have key : ∃ v' w', (Builtin.append_ #[38, 38] o.type #[v, .slice A m c]).run Tryz.prog w = .ok v' w' ∧ w'.ownsRow base 72 2 v' (n + m) (fcs (l ++ r)) ∧ w.grownBy w' v.ownBlock := by
    by_cases h0 : 0 < r.length
    · obtain ⟨b, q, rfl, hc⟩ := hB h0
      obtain ⟨v', w', hr, h2, h3, _⟩ := run_append_own (P := Tryz.prog) w base 38 o.type 72 i0 (.agg #[.string ⟨#[]⟩, .int .i64 0]) 2 24 Tryz.underlying38 hi hz0 hz1 hz2 rfl (by decide) v n (fcs l) hown ⟨b, q, none⟩ m c (fcs r) (by rw [fcs_len, hm])
        (fun j u hj => by rw [Addr.add_lit]; exact cells_isF hB j u hj) (fcs_one r) (by unfold maxLen; omega) (by omega) hbase
      exact ⟨v', w', hr, by rw [fcs_app]; exact h2, h3⟩
    · obtain rfl : r = [] := List.eq_nil_of_length_eq_zero (by omega)
      obtain rfl : m = 0 := by simpa using hm.symm
      match A, hnil with
      | none, hnil =>
        obtain rfl := hnil rfl
        exact ⟨v, w, run_append_owned_none (w := w) base 38 o.type 72 i0 2 Tryz.underlying38 hi v n (fcs l) hown, by simpa using hown, World.grownBy.refl _ _⟩
      | some ad, _ =>
        obtain ⟨v', w', hr, h2, h3, _⟩ := run_append_own (P := Tryz.prog) w base 38 o.type 72 i0 (.agg #[.string ⟨#[]⟩, .int .i64 0]) 2 24 Tryz.underlying38 hi hz0 hz1 hz2 rfl (by decide) v n (fcs l) hown ad 0 c [] rfl
          (fun j u hj => by simp at hj) (fun u hu => by cases hu) (by unfold maxLen; omega) (by omega) hbase
        exact ⟨v', w', hr, by simpa using h2, h3⟩
  obtain ⟨v', w', hr, h2, h3⟩ := key
  unfold Oper.wp execOp
  simp only [ho, resolve, invoke, builtin, Sem.run_bind, Sem.run_pure, Result.andThen_ok, List.map_toArray, List.map_cons, List.map_nil, hs, hx, hr]
  exact h v' w' h2 h3

/-- append of fields onto a row of the call's own, whatever the source. -/
theorem wp_append_f {w : World} {ops : Array Oper} {rest : List Oper} {o : Oper} {a : Act} {Q : Exit → Act → World → Prop} (hgd : o.guard = none) (s x : Operand)
    (ho : o.op = .call { callee := .builtin .append, args := #[s, x], argTypes := #[38, 38] })
    (base : Nat) (v : Value) (n : Nat) (l : List F) (hs : a.eval s = v) (hown : w.ownsRow base 72 2 v n (fcs l))
    (A : Option Addr) (m c : Nat) (r : List F) (hx : a.eval x = .slice A m c) (hm : r.length = m) (hB : IsF w A r) (hnil : A = none → c = 0)
    (hsz : n + m ≤ 1000000000) (hbase : base ≤ w.heap.size)
    (h : ∀ v' w', w'.ownsRow base 72 2 v' (n + m) (fcs (l ++ r)) → w.grownBy w' v.ownBlock → wpList Tryz.prog ops Q rest (a.put o.dst v') w') : wpList Tryz.prog ops Q (o :: rest) a w := by
  obtain ⟨i0, hi, hz0, hz1, hz2⟩ := info_parts info_f
  by_cases h0 : 0 < r.length
  · obtain ⟨b, q, rfl, hc⟩ := hB h0
    refine wpList_append_own w hgd s x 38 ho base 72 i0 (.agg #[.string ⟨#[]⟩, .int .i64 0]) 2 24 Tryz.underlying38 hi hz0 hz1 hz2 rfl (by decide) v n (fcs l) hs hown ⟨b, q, none⟩ m c (fcs r) hx (by rw [fcs_len, hm]) ?_ (fcs_one r) (by unfold maxLen; omega) (by omega) hbase ?_
    · intro j u hj
      rw [Addr.add_lit]
      exact cells_isF hB j u hj
    · intro v' w' h1 h2 _
      exact h v' w' (by rw [fcs_app]; exact h1) h2
  · obtain rfl : r = [] := List.eq_nil_of_length_eq_zero (by omega)
    obtain rfl : m = 0 := by simpa using hm.symm
    match A, hx, hnil with
    | none, hx, hnil =>
      obtain rfl := hnil rfl
      refine wpList_append_own_none hgd s x 38 ho base 72 i0 2 Tryz.underlying38 hi v n (fcs l) hs hown hx (h v w ?_ (World.grownBy.refl _ _))
      simpa using hown
    | some ad, hx, _ =>
      refine wpList_append_own w hgd s x 38 ho base 72 i0 (.agg #[.string ⟨#[]⟩, .int .i64 0]) 2 24 Tryz.underlying38 hi hz0 hz1 hz2 rfl (by decide) v n (fcs l) hs hown ad 0 c [] hx rfl (fun j u hj => by simp at hj) (fun u hu => by cases hu) (by unfold maxLen; omega) (by omega) hbase ?_
      intro v' w' h1 h2 _
      exact h v' w' (by simpa using h1) h2
/-- append of fields onto a row of the call's own, whatever the source, as many as there is memory for. -/
theorem wp_append_fb {w : World} {ops : Array Oper} {rest : List Oper} {o : Oper} {a : Act} {Q : Exit → Act → World → Prop} (hgd : o.guard = none) (s x : Operand)
    (ho : o.op = .call { callee := .builtin .append, args := #[s, x], argTypes := #[38, 38] })
    (base : Nat) (v : Value) (n : Nat) (l : List F) (hs : a.eval s = v) (hown : w.ownsRow base 72 2 v n (fcs l))
    (A : Option Addr) (m c : Nat) (r : List F) (hx : a.eval x = .slice A m c) (hm : r.length = m) (hB : IsF w A r) (hnil : A = none → c = 0)
    (hsz : (n + m) * 24 ≤ 140737488355328) (hbase : base ≤ w.heap.size)
    (h : ∀ v' w', w'.ownsRow base 72 2 v' (n + m) (fcs (l ++ r)) → w.grownBy w' v.ownBlock → wpList Tryz.prog ops Q rest (a.put o.dst v') w') : wpList Tryz.prog ops Q (o :: rest) a w := by
  obtain ⟨i0, hi, hz0, hz1, hz2⟩ := info_parts info_f
  have h63 : n + m ≤ maxLen := by unfold maxLen; omega
  by_cases h0 : 0 < r.length
  · obtain ⟨b, q, rfl, hc⟩ := hB h0
    refine wpList_append_own w hgd s x 38 ho base 72 i0 (.agg #[.string ⟨#[]⟩, .int .i64 0]) 2 24 Tryz.underlying38 hi hz0 hz1 hz2 rfl (by decide) v n (fcs l) hs hown ⟨b, q, none⟩ m c (fcs r) hx (by rw [fcs_len, hm]) ?_ (fcs_one r) h63 hsz hbase ?_
    · intro j u hj
      rw [Addr.add_lit]
      exact cells_isF hB j u hj
    · intro v' w' h1 h2 _
      exact h v' w' (by rw [fcs_app]; exact h1) h2
  · obtain rfl : r = [] := List.eq_nil_of_length_eq_zero (by omega)
    obtain rfl : m = 0 := by simpa using hm.symm
    match A, hx, hnil with
    | none, hx, hnil =>
      obtain rfl := hnil rfl
      refine wpList_append_own_none hgd s x 38 ho base 72 i0 2 Tryz.underlying38 hi v n (fcs l) hs hown hx (h v w ?_ (World.grownBy.refl _ _))
      simpa using hown
    | some ad, hx, _ =>
      refine wpList_append_own w hgd s x 38 ho base 72 i0 (.agg #[.string ⟨#[]⟩, .int .i64 0]) 2 24 Tryz.underlying38 hi hz0 hz1 hz2 rfl (by decide) v n (fcs l) hs hown ad 0 c [] hx rfl (fun j u hj => by simp at hj) (fun u hu => by cases hu) h63 hsz hbase ?_
      intro v' w' h1 h2 _
      exact h v' w' (by simpa using h1) h2
end Go.Proofs.YtbmdkibmfkmjoaaGreat.Sc

namespace Go.Proofs.YtbmdkibmfkmjoaaGreat.Sc
open Go.RowKit Go.Proofs.YtbmdkibmfkmjoaaGreat.BM Go.Proofs.YtbmdkibmfkmjoaaGreat.VaM Go.Proofs.YtbmdkibmfkmjoaaGreat.Va Go.Proofs.YtbmdkibmfkmjoaaGreat.ScM

/-- Is there memory for as many fields again? -/
def Room (l : List F) : Prop := l.length * 24 ≤ 140737488351232

/-- Fields in a block that was not there. -/
def Own (H : Nat) (w : World) (A : Option Addr) (l : List F) (c : Nat) : Prop := SlF w A l c ∧ ∀ a, A = some a → H ≤ a.block

theorem Own.kept {H : Nat} {w w' : World} {A : Option Addr} {l : List F} {c : Nat} (h : Own H w A l c) (hb : Below w.heap.size w w') : Own H w' A l c := ⟨h.1.kept hb, h.2⟩
theorem Own.low {H K : Nat} {w : World} {A : Option Addr} {l : List F} {c : Nat} (h : Own H w A l c) (hk : K ≤ H) : Own K w A l c := ⟨h.1, fun a ha => Nat.le_trans hk (h.2 a ha)⟩

set_option maxRecDepth 100000 in
set_option maxHeartbeats 1000000 in
theorem CloneF_any (l : List F) (A : Option Addr) (c : Nat) (w : World) (h : SlF w A l c) (hr : Room l) :
    Calls Tryz.prog 95 #[.slice A l.length c] w fun e w' => ∃ A' c', e = .returned (.slice A' l.length c') ∧ Own w.heap.size w' A' l c' ∧ Below w.heap.size w w' := by
  cases A with
  | none =>
    obtain rfl := h.2.2.1 rfl
    have hl0 : l.length = 0 := by have := h.2.1; omega
    obtain rfl : l = [] := List.eq_nil_of_length_eq_zero hl0
    have hq : ∀ W, (binOp .eql 38 (.slice none 0 0) (.slice none 0 0)).run Tryz.prog W = .ok (.bool true) W := fun W => by kernel_rfl
    clear h hl0 hr
    rw [List.length_nil]
    go_enter Tryz.func95, Tryz.ntmps95
    go_wp2_with fail
    go_ret
    exact ⟨none, 0, rfl, ⟨slF_none _, fun a ha => by cases ha⟩, Below.refl _ _⟩
  | some ad =>
    have hown := World.ownsRow_lit (e := 72) (base := w.heap.size) (size := 2) w #[] 0 (Nat.le_refl _) (Nat.zero_le _) rfl
    have hb1 := (Below.refl w.heap.size w).alloc (Nat.le_refl _) (.cells #[] 72)
    have HR := Lib.hid (h.kept hb1).1
    have HN := Lib.hid h.2.2.2.2
    have hz := hb1.size
    have HO := Lib.hid hown
    have HB1 := Lib.hid hb1
    unfold Room at hr
    obtain ⟨n, hn⟩ : ∃ n, n = l.length := ⟨_, rfl⟩
    rw [← hn] at hr ⊢
    have HL := Lib.hid hn
    have hq : ∀ W, (binOp .eql 38 (.slice (some ad) n c) (.slice none 0 0)).run Tryz.prog W = .ok (.bool false) W := fun W => by kernel_rfl
    clear hown hb1 h hn
    go_enter Tryz.func95, Tryz.ntmps95
    go_wp2_with (at_builtin; refine wp_append_fb rfl (.tmp 5) (.tmp 6) rfl w.heap.size _ 0 [] rfl HO.out (some ad) n c l rfl HL.out.symm HR.out (fun h => by cases h) (by omega) hz ?_; intro u4 w4 hown4 hgrow4; refine pause ?_)
    rw [Nat.zero_add, List.nil_append] at hown4
    obtain ⟨A4, c4, rfl, _, hs4, hb4⟩ := own_slF hown4 HN.out
    have HF := Lib.hid (show Own w.heap.size w4 A4 l c4 from ⟨hs4, fun a ha => (hb4 a ha).1⟩)
    have HB4 := Lib.hid (HB1.out.grown hgrow4 hz (fun q hq => by injection hq with hq; simp only at hq; omega))
    rw [← HL.out]
    clear hown4 hgrow4 hs4 hb4
    unfold Pause
    go_wp2_with fail
    go_ret
    exact ⟨A4, c4, rfl, HF.out, HB4.out⟩
end Go.Proofs.YtbmdkibmfkmjoaaGreat.Sc

namespace Go.Proofs.YtbmdkibmfkmjoaaGreat.Sc
open Go.RowKit Go.Proofs.YtbmdkibmfkmjoaaGreat.BM Go.Proofs.YtbmdkibmfkmjoaaGreat.LM Go.Proofs.YtbmdkibmfkmjoaaGreat.VaM Go.Proofs.YtbmdkibmfkmjoaaGreat.Va Go.Proofs.YtbmdkibmfkmjoaaGreat.ScM Go.Proofs.YtbmdkibmfkmjoaaGreat.RgM

/-- Of which blocks the fields of a row's schemas are: of those that were there at first, and none is the row's own. -/
def PS (H : Nat) (v : Value) (b : Nat) : Prop := b < H ∧ ne v b

/-- What came in, in whatever world comes later. -/
theorem slS_elems {w : World} {A : Option Addr} {l : List Sc} {c : Nat} (h : SlS w A l c) : ∃ us, ∀ W, Below w.heap.size w W → IsRow W A us ∧ RG.Elems KS (fun b => b < w.heap.size ∧ ne (.slice none 0 0) b) W l us := by
  obtain ⟨⟨us, h1, h2⟩, _⟩ := h
  exact ⟨us, fun W hW => ⟨h1.kept hW, (h2.map fun _ _ e => KS.mono e fun b hb _ => ⟨hb, fun e => by cases e⟩).map fun _ _ e => KS.kept e hW⟩⟩

/-- A schema that came in, as an element. -/
theorem relS_of {w : World} {A : Option Addr} {s : Sc} {c : Nat} (h : SlF w A s.f c) (hf : Fine s) {v : Value} {base : Nat} (hv : ∀ b, v.ownBlock = some b → base ≤ b) (hb : w.heap.size ≤ base) : RelS (fun b => b < w.heap.size ∧ ne v b) w s [.string s.s, .int .i64 s.v, .slice A s.f.length c] := by
  refine ⟨A, c, rfl, h, hf, fun h0 a ha => ?_⟩
  have h1 := relS_lt h h0 ha
  refine ⟨h1, fun e => ?_⟩
  have := hv _ e.symm
  omega

/-- Where a row of the call's own lies. -/
theorem own_base {w : World} {base n size : Nat} {e : TypeId} {v : Value} {xs : List Value} (h : w.ownsRow base e size v n xs) : ∀ b, v.ownBlock = some b → base ≤ b := by
  intro b hb
  rcases h.2 with ⟨rfl, _⟩ | ⟨g, cap, cur, rfl, hg, _⟩
  · cases hb
  · have e : some g = some b := hb
    injection e with e
    omega

theorem own_later {w w' : World} {base n : Nat} {e : TypeId} {size : Nat} {v : Value} {xs : List Value} (h : w.ownsRow base e size v n xs) (hb : Below w.heap.size w w') : w'.ownsRow base e size v n xs :=
  h.kept (row := none) ⟨hb.os, hb.tape, hb.output, hb.size, fun k hk _ => hb.block k hk⟩ (by cases v.ownBlock <;> simp)

theorem slS_mono {w : World} {p : Nat → Prop} {A : Option Addr} {l : List Sc} {c : Nat} (h : RG.SlG KS p w A l c) : SlS w A l c := h.mono fun _ _ _ => True.intro

/-- Three places of a row. -/
def set3 (vs : List Value) (k : Nat) (u0 u1 u2 : Value) : List Value := ((vs.set k u0).set (k + 1) u1).set (k + 2) u2

theorem elems_set {p : Nat → Prop} {w w' : World} {s : Sc} {u0 u1 u2 : Value} (hs : KS.rel p w' s [u0, u1, u2]) (hk : ∀ t cs, KS.rel p w t cs → KS.rel p w' t cs) : ∀ (l : List Sc) (vs : List Value) (i : Nat), i < l.length → RG.Elems KS p w l vs → RG.Elems KS p w' (l.set i s) (set3 vs (i * 3) u0 u1 u2)
  | [], _, i, h, _ => absurd h (Nat.not_lt_zero _)
  | t :: l, vs, 0, _, ⟨cs, rest, e, h1, h2⟩ => by
    obtain ⟨A, c, rfl, _⟩ := h1
    refine ⟨[u0, u1, u2], rest, ?_, hs, h2.map hk⟩
    rw [e]
    rfl
  | t :: l, vs, i + 1, h, ⟨cs, rest, e, h1, h2⟩ => by
    have h3 := elems_set hs hk l rest i (by simpa using h) h2
    have h1' := hk _ _ h1
    obtain ⟨A, c, rfl, _⟩ := h1
    refine ⟨_, set3 rest (i * 3) u0 u1 u2, ?_, h1', h3⟩
    rw [e, show (i + 1) * 3 = i * 3 + 1 + 1 + 1 from by omega]
    rfl

/-- Three places of a row of the call's own are stored. -/
theorem own_set3 {w : World} {base g n cap : Nat} {e : TypeId} {vs : List Value} (h : w.ownsRow base e 3 (.slice (some ⟨g, 0, none⟩) n cap) n vs) (k : Nat) (u0 u1 u2 : Value) :
    (((w.setCell ⟨g, k, none⟩ u0).setCell ⟨g, k + 1, none⟩ u1).setCell ⟨g, k + 2, none⟩ u2).ownsRow base e 3 (.slice (some ⟨g, 0, none⟩) n cap) n (set3 vs k u0 u1 u2) ∧ w.grownBy (((w.setCell ⟨g, k, none⟩ u0).setCell ⟨g, k + 1, none⟩ u1).setCell ⟨g, k + 2, none⟩ u2) (some g) := by
  obtain ⟨h1, g1⟩ := h.stored k u0
  obtain ⟨h2, g2⟩ := h1.stored (k + 1) u1
  obtain ⟨h3, g3⟩ := h2.stored (k + 2) u2
  have tr : ∀ {a b c : World}, a.grownBy b (some g) → b.grownBy c (some g) → a.grownBy c (some g) := fun h k =>
    ⟨k.os.trans h.os, k.tape.trans h.tape, k.output.trans h.output, Nat.le_trans h.size k.size, fun i hi hne => (k.block i (Nat.lt_of_lt_of_le hi h.size) hne).trans (h.block i hi hne)⟩
  exact ⟨h3, tr (tr g1 g2) g3⟩

/-- What a store at an element's place wants. -/
theorem own_at {w : World} {base n : Nat} {v : Value} {l : List Sc} {vs : List Value} {p : Nat → Prop} (h : w.ownsRow base 40 3 v n vs) (hE : RG.Elems KS p w l vs) (i : Nat) (hi : i < l.length) :
    ∃ g c q, v = .slice (some ⟨g, 0, none⟩) n c ∧ q = i * 3 ∧ base ≤ g ∧ (∀ W, (Instr.indexAt 22 (.slice (some ⟨g, 0, none⟩) n c) (.int .i64 (i : Int))).run Tryz.prog W = .ok (.pointer (some ⟨g, q, none⟩)) W) ∧
      (∃ u0 u1 u2, w.cell? ⟨g, q, none⟩ = some u0 ∧ w.cell? ⟨g, q + 1, none⟩ = some u1 ∧ w.cell? ⟨g, q + 2, none⟩ = some u2) ∧ w.frozen? ⟨g, q, none⟩ = false ∧ w.frozen? ⟨g, q + 1, none⟩ = false ∧ w.frozen? ⟨g, q + 2, none⟩ = false := by
  have hlen := hE.len
  have hn := h.1
  have hl3 : l.length * KS.size = l.length * 3 := rfl
  rw [hlen, hl3] at hn
  have hnl : l.length = n := by omega
  obtain ⟨A, c, rfl⟩ := RG.own_is h
  rcases h.2 with ⟨_, h0⟩ | ⟨g, cap, cur, hv, hg, _⟩
  · omega
  · injection hv with hv _ hc
    subst hv
    subst hc
    refine ⟨g, c, i * 3, rfl, rfl, hg, fun W => ?_, ?_, h.frozenAt _, h.frozenAt _, h.frozenAt _⟩
    · have := tyS.index W g 0 n c i (by omega)
      rw [Nat.zero_add] at this
      exact this
    · have hc : ∀ k, k < n * 3 → ∃ u, w.cell? ⟨g, k, none⟩ = some u := fun k hk => by
        rw [h.cellAt k hk]
        exact ⟨vs[k]'(by rw [hlen, hl3, hnl]; exact hk), List.getElem?_eq_getElem _⟩
      obtain ⟨u0, e0⟩ := hc (i * 3) (by omega)
      obtain ⟨u1, e1⟩ := hc (i * 3 + 1) (by omega)
      obtain ⟨u2, e2⟩ := hc (i * 3 + 2) (by omega)
      exact ⟨u0, u1, u2, e0, e1, e2⟩
end Go.Proofs.YtbmdkibmfkmjoaaGreat.Sc

namespace Go.Proofs.YtbmdkibmfkmjoaaGreat.Rg
open Go.RowKit Go.Proofs.YtbmdkibmfkmjoaaGreat.BM Go.Proofs.YtbmdkibmfkmjoaaGreat.LM Go.Proofs.YtbmdkibmfkmjoaaGreat.VaM Go.Proofs.YtbmdkibmfkmjoaaGreat.Va Go.Proofs.YtbmdkibmfkmjoaaGreat.Sc Go.Proofs.YtbmdkibmfkmjoaaGreat.RgM
open Go.Proofs.YtbmdkibmfkmjoaaGreat.ScM (Sc)

/-- Fields stay, where another block is written. -/
theorem slF_off {w : World} {A : Option Addr} {l : List ScM.F} {c : Nat} {p : Addr} (h : SlF w A l c) (hp : ∀ a, A = some a → a.block ≠ p.block) (u : Value) : SlF (w.setCell p u) A l c := by
  refine ⟨fun hx => ?_, h.2⟩
  obtain ⟨g, o, e, hc⟩ := h.1 hx
  have hne := hp _ e
  have n : ∀ q, (⟨g, q, none⟩ : Addr) ≠ p := fun q e => hne (by rw [← e])
  exact ⟨g, o, e, fun j hj => ⟨by rw [World.cell?_setCell_other (h := (n _).symm)]; exact (hc j hj).1, by rw [World.cell?_setCell_other (h := (n _).symm)]; exact (hc j hj).2⟩⟩

set_option maxRecDepth 100000 in
set_option maxHeartbeats 2000000 in
theorem own_any (s : Sc) (A : Option Addr) (c : Nat) (w : World) (hF : SlF w A s.f c) (hr : Room s.f) :
    Calls Tryz.prog 72 #[.agg #[.string s.s, .int .i64 s.v, .slice A s.f.length c]] w fun e w' => ∃ A' c', e = .returned (.agg #[.string s.s, .int .i64 s.v, .slice A' s.f.length c']) ∧ Own w.heap.size w' A' s.f c' ∧ Below w.heap.size w w' := by
  obtain ⟨nm, v, f⟩ := s
  simp only at hF hr ⊢
  have hcl := fun W (h : Below w.heap.size w W) => CloneF_any f A c W (hF.kept h) hr
  have HCl := Lib.hid hcl
  obtain ⟨n, hn⟩ : ∃ n, n = f.length := ⟨_, rfl⟩
  rw [← hn] at HCl ⊢
  clear hcl hF hr hn
  have hb1 := (Below.refl w.heap.size w).alloc (Nat.le_refl _) (.cells #[.string nm, .int .i64 v, .slice A n c] 40)
  have hx1 := bx_new_t w 40 (.string nm) (.int .i64 v) (.slice A n c)
  obtain ⟨u1, hu1⟩ : ∃ u, u = w.alloc (.cells #[.string nm, .int .i64 v, .slice A n c] 40) := ⟨_, rfl⟩
  have hs1 : u1.heap.size = w.heap.size + 1 := by rw [hu1]; simp
  rw [← hu1] at hb1 hx1
  have hb2 := (Below.refl u1.heap.size u1).alloc (Nat.le_refl _) (.cells #[.string ⟨#[]⟩, .int .i64 0, .slice none 0 0] 40)
  have hz2 := bx_new_t u1 40 (.string ⟨#[]⟩) (.int .i64 0) (.slice none 0 0)
  rw [hs1] at hz2
  have hx2 := hx1.kept hb2
  have hbb := bt hb1 hb2
  rw [hu1] at hx2 hz2 hbb
  have HX2 := Lib.hid hx2
  have HZ2 := Lib.hid hz2
  have HB2 := Lib.hid hbb
  clear hb1 hx1 hs1 hb2 hz2 hx2 hbb hu1 u1
  obtain ⟨⟨p0, p1, p2⟩, _⟩ := HX2.out
  go_enter Tryz.func72, Tryz.ntmps72
  go_wp2_with fail
  obtain ⟨w2, hw2⟩ : ∃ w2, w2 = (w.alloc (.cells #[.string nm, .int .i64 v, .slice A n c] 40)).alloc (.cells #[.string ⟨#[]⟩, .int .i64 0, .slice none 0 0] 40) := ⟨_, rfl⟩
  rw [← hw2] at HX2 HZ2 HB2 ⊢
  clear hw2 p0 p1 p2
  refine (HCl.out w2 HB2.out).mono ?_
  rintro e w3 ⟨A3, c3, rfl, hO3, hb3⟩
  have HO3 := Lib.hid hO3
  have HX3 := Lib.hid (HX2.out.kept hb3)
  have HZ3 := Lib.hid (HZ2.out.kept hb3)
  have HB3 := Lib.hid (bt HB2.out hb3)
  have hlt := HZ2.out.lt
  have HAp := Lib.hid (show ∀ a, A3 = some a → w.heap.size + 1 < a.block from fun a ha => Nat.lt_of_lt_of_le hlt (hO3.2 a ha))
  clear hO3 hb3 HX2 HZ2 HB2 HCl hlt
  have hs4 := slF_off (p := ⟨w.heap.size, 2, none⟩) HO3.out.1 (fun a ha => by have := HAp.out a ha; simp only; omega) (.slice A3 n c3)
  have hb4 := HB3.out.setCell (p := ⟨w.heap.size, 2, none⟩) (Nat.le_refl _) (.slice A3 n c3)
  have hx4 := bx_set2 HX3.out (.slice A3 n c3)
  have hz4 := HZ3.out.off (p := ⟨w.heap.size, 2, none⟩) (by simp only; omega) (.slice A3 n c3)
  have HX4 := Lib.hid hx4
  have HZ4 := Lib.hid hz4
  have HB4 := Lib.hid hb4
  have HS4 := Lib.hid hs4
  obtain ⟨⟨y0, y1, y2⟩, y3, y4, y5⟩ := HX3.out
  obtain ⟨⟨p0, p1, p2⟩, _⟩ := HX4.out
  obtain ⟨⟨q0, q1, q2⟩, q3, q4, q5⟩ := HZ4.out
  have hst := bx_store HZ4.out (.string nm) (.int .i64 v) (.slice A3 n c3)
  have HF := Lib.hid (stored3 HB4.out (Nat.le_succ _) (.string nm) (.int .i64 v) (.slice A3 n c3))
  have HSl := Lib.hid (slF_off (p := ⟨w.heap.size + 1, 2, none⟩) (slF_off (p := ⟨w.heap.size + 1, 1, none⟩) (slF_off (p := ⟨w.heap.size + 1, 0, none⟩) HS4.out (fun a ha => by have := HAp.out a ha; simp only; omega) (.string nm)) (fun a ha => by have := HAp.out a ha; simp only; omega) (.int .i64 v)) (fun a ha => by have := HAp.out a ha; simp only; omega) (.slice A3 n c3))
  obtain ⟨⟨g0, g1, g2⟩, _⟩ := hst
  have G0 := Lib.hid g0
  have G1 := Lib.hid g1
  have G2 := Lib.hid g2
  clear hs4 hb4 hx4 hz4 g0 g1 g2
  go_wp2_with fail
  obtain ⟨W2, hW2⟩ : ∃ W2, W2 = (((w3.setCell ⟨w.heap.size, 2, none⟩ (.slice A3 n c3)).setCell ⟨w.heap.size + 1, 0, none⟩ (.string nm)).setCell ⟨w.heap.size + 1, 1, none⟩ (.int .i64 v)).setCell ⟨w.heap.size + 1, 2, none⟩ (.slice A3 n c3) := ⟨_, rfl⟩
  rw [← hW2] at HF HSl G0 G1 G2 ⊢
  have g0 := G0.out
  have g1 := G1.out
  have g2 := G2.out
  clear hW2 p0 p1 p2 y0 y1 y2 y3 y4 y5 q0 q1 q2 q3 q4 q5
  exact bodyPost_ret (v := .agg #[.string nm, .int .i64 v, .slice A3 n c3]) (by simp [results, Tryz.results72, go_sem, g0, g1, g2]) rfl ⟨A3, c3, rfl, ⟨HSl.out, fun a ha => by have := HAp.out a ha; omega⟩, HF.out⟩

/-- Schemas of the call's own. -/
def OwnL (base : Nat) (l : List Sc) (us : List Value) (n : Nat) (u : Value) (w : World) : Prop :=
  w.ownsRow base 40 3 u n us ∧ RG.Elems KS (fun b => True ∧ ne u b) w l us

theorem OwnL.kept {base : Nat} {l : List Sc} {us : List Value} {n : Nat} {u : Value} {w w' : World} (h : OwnL base l us n u w) (hb : Below w.heap.size w w') : OwnL base l us n u w' :=
  ⟨own_later h.1 hb, h.2.map fun _ _ e => KS.kept e hb⟩

/-- The block of a row of the call's own is there. -/
theorem own_lt {w : World} {base n size : Nat} {e : TypeId} {v : Value} {xs : List Value} (h : w.ownsRow base e size v n xs) : ∀ b, v.ownBlock = some b → b < w.heap.size := by
  intro b hb
  rcases h.2 with ⟨rfl, _⟩ | ⟨g, cap, cur, rfl, _⟩
  · cases hb
  · have e : some g = some b := hb
    injection e with e
    subst e
    exact (h.lt g rfl).2

/-- A schema whose fields lie in a new block, as an element. -/
theorem relS_own {w : World} {A : Option Addr} {s : Sc} {c H : Nat} (h : Own H w A s.f c) (hf : Fine s) {v : Value} (hv : ∀ b, v.ownBlock = some b → b < H) : KS.rel (fun b => True ∧ ne v b) w s [.string s.s, .int .i64 s.v, .slice A s.f.length c] := by
  refine ⟨A, c, rfl, h.1, hf, fun _ a ha => ⟨True.intro, fun e => ?_⟩⟩
  have h1 := h.2 a ha
  have h2 := hv _ e.symm
  omega

/-- Is there memory for as many fields of any of them again? -/
def RoomL (l : List Sc) : Prop := ∀ i, i < l.length → Room (l.getD i s0).f

theorem take_snocS {l : List Sc} {j : Nat} (h : j < l.length) : l.take (j + 1) = l.take j ++ [l.getD j s0] := by
  rw [List.take_add_one, List.getElem?_eq_getElem h, getD_lt h]
  rfl
end Go.Proofs.YtbmdkibmfkmjoaaGreat.Rg

namespace Go.Proofs.YtbmdkibmfkmjoaaGreat.Rg
open Go.RowKit Go.Proofs.YtbmdkibmfkmjoaaGreat.BM Go.Proofs.YtbmdkibmfkmjoaaGreat.LM Go.Proofs.YtbmdkibmfkmjoaaGreat.VaM Go.Proofs.YtbmdkibmfkmjoaaGreat.Va Go.Proofs.YtbmdkibmfkmjoaaGreat.Sc Go.Proofs.YtbmdkibmfkmjoaaGreat.RgM
open Go.Proofs.YtbmdkibmfkmjoaaGreat.ScM (Sc Fit)

theorem room_may {s : Sc} (h : ScM.May s) : Room s.f := by
  have := h.2.2.2.1
  unfold Room
  omega

theorem roomL_may {l : List Sc} (h : May l) : RoomL l := fun i hi => room_may (h.1 i hi).1

end Go.Proofs.YtbmdkibmfkmjoaaGreat.Rg

namespace Go.Proofs.YtbmdkibmfkmjoaaGreat.Rg
open Go.RowKit Go.Proofs.YtbmdkibmfkmjoaaGreat.BM Go.Proofs.YtbmdkibmfkmjoaaGreat.VaM Go.Proofs.YtbmdkibmfkmjoaaGreat.Va Go.Proofs.YtbmdkibmfkmjoaaGreat.Sc Go.Proofs.YtbmdkibmfkmjoaaGreat.RgM
open Go.Proofs.YtbmdkibmfkmjoaaGreat.ScM (Sc)

/-- What is found, as an answer. -/
def Found (l : List Sc) (nm : ByteArray) (w : World) (e : Ending) (w' : World) : Prop :=
  ∃ A c, e = .returned (.tuple #[.agg #[.string (find l nm).1.s, .int .i64 (find l nm).1.v, .slice A (find l nm).1.f.length c], .bool (find l nm).2]) ∧ SlF w' A (find l nm).1.f c ∧ Fine (find l nm).1 ∧ Below w.heap.size w w'

theorem fine_s0 : Fine s0 := ⟨by unfold maxLen; decide, by decide, by decide⟩

theorem find_of {l : List Sc} {nm : ByteArray} {i : Nat} (h : At l nm = some i) : find l nm = (l.getD i s0, true) := by unfold find; rw [h]
theorem find_no {l : List Sc} {nm : ByteArray} (h : At l nm = none) : find l nm = (s0, false) := by unfold find; rw [h]

theorem eq_iff {a b : List Sc} (h : a.length = b.length) : a = b ↔ ∀ j, j < a.length → a.getD j s0 = b.getD j s0 := by
  constructor
  · intro e j _
    rw [e]
  · intro hall
    refine List.ext_getElem h (fun j h1 h2 => ?_)
    have := hall j h1
    rw [getD_lt h1, getD_lt h2] at this
    exact this
end Go.Proofs.YtbmdkibmfkmjoaaGreat.Rg

namespace Go.Proofs.YtbmdkibmfkmjoaaGreat.Rg
open Go.RowKit Go.Proofs.YtbmdkibmfkmjoaaGreat.BM Go.Proofs.YtbmdkibmfkmjoaaGreat.VaM Go.Proofs.YtbmdkibmfkmjoaaGreat.RgM
open Go.Proofs.YtbmdkibmfkmjoaaGreat.ScM (Sc)

theorem atI_some {l : List Sc} {n : ByteArray} {j : Nat} (hj : j < l.length) (h : (l.getD j s0).s = n) (hne : ∀ x, x < j → (l.getD x s0).s ≠ n) : atI l n = (j : Int) := by
  unfold atI
  rw [at_some.2 ⟨hj, h, hne⟩]

theorem atI_none {l : List Sc} {n : ByteArray} (hne : ∀ x, x < l.length → (l.getD x s0).s ≠ n) : atI l n = -1 := by
  unfold atI
  rw [at_none.2 hne]
end Go.Proofs.YtbmdkibmfkmjoaaGreat.Rg

namespace Go.Proofs.YtbmdkibmfkmjoaaGreat.Sc
open Go.RowKit Go.Proofs.YtbmdkibmfkmjoaaGreat.BM Go.Proofs.YtbmdkibmfkmjoaaGreat.VaM Go.Proofs.YtbmdkibmfkmjoaaGreat.Va Go.Proofs.YtbmdkibmfkmjoaaGreat.ScM

set_option maxRecDepth 100000 in
theorem mayField_any (s : ByteArray) (k : Int) (w : World) (hs : s.size ≤ maxLen) :
    Calls Tryz.prog 67 #[.agg #[.string s, .int .i64 k]] w fun e w' => e = .returned (.bool (decide (FOk ⟨s, k⟩))) ∧ Below w.heap.size w w' := by
  have HB := Lib.hid ((Below.refl w.heap.size w).alloc (Nat.le_refl _) (.cells #[.string s, .int .i64 k] 72))
  have HX := Lib.hid (bx2_new w 72 (.string s) (.int .i64 k))
  have HN := Lib.hid (fun W => Name_any s W hs)
  have hd : decide (FOk ⟨s, k⟩) = (decide (Nm s) && (decide (0 ≤ k) && decide (k < 4))) := by
    rw [Bool.eq_iff_iff, decide_eq_true_iff]
    simp [FOk]
  have HD := Lib.hid hd
  obtain ⟨N, hN⟩ : ∃ N, N = decide (Nm s) := ⟨_, rfl⟩
  simp only [← hN] at HN HD
  clear hd hN
  go_enter Tryz.func67, Tryz.ntmps67
  go_wp2_with fail
  refine (HN.out _).mono ?_
  rintro e w1 ⟨rfl, hb⟩
  have HB1 := Lib.hid (bt HB.out hb)
  obtain ⟨⟨p0, p1⟩, _⟩ := HX.out.kept hb
  clear hb HB HX
  cases N
  · go_wp2_with fail
    go_ret
    exact ⟨ret_v (x := .bool false) (by rw [HD.out]; rfl), HB1.out⟩
  · have hw : k < 0 ∨ (0 ≤ k ∧ k < 4) ∨ (0 ≤ k ∧ 4 ≤ k) := by omega
    rcases hw with h0 | ⟨h0, h4⟩ | ⟨h0, h4⟩
    · have d0 : decide (0 ≤ k) = false := by rw [decide_eq_false_iff_not]; omega
      go_wp2_with fail
      go_ret
      exact ⟨ret_v (x := .bool false) (by rw [HD.out]; simp [d0]), HB1.out⟩
    · go_wp2_with fail
      go_ret
      exact ⟨ret_v (x := .bool true) (by rw [HD.out]; simp [h0, h4]), HB1.out⟩
    · have d4 : decide (k < 4) = false := by rw [decide_eq_false_iff_not]; omega
      go_wp2_with fail
      go_ret
      exact ⟨ret_v (x := .bool false) (by rw [HD.out]; simp [h0, d4]), HB1.out⟩

theorem has_take {l : List F} {s : ByteArray} : ∀ {j : Nat} (_ : j ≤ l.length), (¬ Has (l.take j) s ↔ ∀ i, i < j → (l.getD i d0).s ≠ s) := by
  intro j hj
  constructor
  · intro h i hi e
    refine h ⟨l.getD i d0, ?_, e⟩
    have e2 : (l.take j).getD i d0 = l.getD i d0 := by
      rw [List.getD_eq_getElem?_getD, List.getD_eq_getElem?_getD, List.getElem?_take, if_pos hi]
    rw [← e2]
    exact getD_mem (by rw [List.length_take]; omega)
  · rintro h ⟨f, hf, e⟩
    obtain ⟨i, hi, rfl⟩ := List.getElem_of_mem hf
    rw [List.length_take] at hi
    refine h i (by omega) ?_
    rw [← e, List.getElem_take, List.getD_eq_getElem?_getD, List.getElem?_eq_getElem (by omega)]
    rfl

set_option maxRecDepth 100000 in
theorem has_any (A : Option Addr) (l : List F) (c : Nat) (s : ByteArray) (w : World) (h : SlF w A l c) :
    Calls Tryz.prog 68 #[.slice A l.length c, .string s] w fun e w' => e = .returned (.bool (decide (Has l s))) ∧ Below w.heap.size w w' := by
  have hl := slF_len h
  have hno : ¬ Has l s ↔ ∀ i, i < l.length → (l.getD i d0).s ≠ s := by
    have h1 := has_take (s := s) (Nat.le_refl l.length)
    rw [List.take_length] at h1
    exact h1
  obtain ⟨n, hn⟩ : ∃ n, n = l.length := ⟨_, rfl⟩
  rw [← hn] at hl hno ⊢
  have HNo := Lib.hid hno
  have HLen := Lib.hid hn
  have HS := Lib.hid h
  clear hno hn h
  go_enter Tryz.func68, Tryz.ntmps68
  go_wp2_with fail
  go_loopw [9] (fun i wr => ∃ j : Nat, i = .int .i64 j ∧ j ≤ n ∧ (∀ r, r < j → (l.getD r d0).s ≠ s) ∧ Below w.heap.size w wr) (fun i _ => n - (intOf i).toNat)
  case atStart => exact ⟨0, rfl, Nat.zero_le _, fun r hr => absurd hr (Nat.not_lt_zero r), Below.refl _ _⟩
  case round =>
    obtain ⟨j, rfl, hj, hne, hbel⟩ := hrel
    have HNe := Lib.hid hne
    have HBl := Lib.hid hbel
    clear hne hbel
    by_cases hjn : j < n
    · obtain ⟨b, q, hix, hc, _⟩ := HS.out.at j (by rw [← HLen.out]; exact hjn)
      obtain ⟨⟨fs, fk⟩, hf⟩ : ∃ f, f = l.getD j d0 := ⟨_, rfl⟩
      rw [← hf] at hc
      obtain ⟨c0, c1⟩ := hc wr HBl.out
      simp only at c0 c1
      have hi := fun W => hix W n c hjn
      have HF := Lib.hid hf
      obtain ⟨⟨p0, p1⟩, _⟩ := bx2_new wr 72 (.string fs) (.int .i64 fk)
      have HB2 := Lib.hid (bt HBl.out ((Below.refl wr.heap.size wr).alloc (Nat.le_refl _) (.cells #[.string fs, .int .i64 fk] 72)))
      clear hc hix hf
      by_cases he : fs = s
      · have hee : (fs.toList == s.toList) = true := by rw [he]; simp
        have HY := Lib.hid (show Has l s from Classical.byContradiction fun hh => HNo.out.1 hh j hjn (by rw [← HF.out]; exact he))
        clear he
        go_wp2_with fail
        go_ret
        exact ⟨ret_v (x := .bool true) (by rw [decide_eq_true HY.out]), HB2.out⟩
      · have hee := str_ne he
        have HX := Lib.hid he
        clear he
        go_wp2_with fail
        go_roundw
        case rel =>
          refine ⟨j + 1, by go_num, by omega, fun r hr => ?_, HB2.out⟩
          by_cases e : r = j
          · rw [e, ← HF.out]
            exact HX.out
          · exact HNe.out r (by omega)
        case measure => simp [intOf]; omega
    · obtain rfl : j = n := by omega
      have HY := Lib.hid (HNo.out.2 HNe.out)
      go_wp2_with fail
      go_ret
      exact ⟨ret_v (x := .bool false) (by rw [decide_eq_false HY.out]), HBl.out⟩

set_option maxRecDepth 100000 in
set_option maxHeartbeats 2000000 in
theorem May_any (s : Sc) (A : Option Addr) (c : Nat) (w : World) (hS : SlF w A s.f c) (hz : Fine s) :
    Calls Tryz.prog 41 #[.agg #[.string s.s, .int .i64 s.v, .slice A s.f.length c]] w fun e w' => e = .returned (.bool (decide (May s))) ∧ Below w.heap.size w w' := by
  obtain ⟨nm, v, l⟩ := s
  simp only at hS ⊢
  have hl := slF_len hS
  have hcap := hS.2.1
  have HN := Lib.hid (fun W => Name_any nm W hz.1)
  have hmay : May ⟨nm, v, l⟩ ↔ Nm nm ∧ 1 ≤ v ∧ v ≤ 1000 ∧ l.length ≤ 6 ∧ Gd l l.length := Iff.rfl
  obtain ⟨n, hn⟩ : ∃ n, n = l.length := ⟨_, rfl⟩
  rw [← hn] at hl hmay hcap ⊢
  have HLen := Lib.hid hn
  have HS := Lib.hid hS
  have HMay := Lib.hid hmay
  have HX0 := Lib.hid (bx_new_t w 40 (.string nm) (.int .i64 v) (.slice A n c))
  have HB0 := Lib.hid ((Below.refl w.heap.size w).alloc (Nat.le_refl _) (.cells #[.string nm, .int .i64 v, .slice A n c] 40))
  clear hn hS hmay hz
  go_enter Tryz.func41, Tryz.ntmps41
  go_wp2_with fail
  refine (HN.out _).mono ?_
  rintro e w1 ⟨rfl, hb1⟩
  have HX1 := Lib.hid (HX0.out.kept hb1)
  have HB1 := Lib.hid (bt HB0.out hb1)
  obtain ⟨⟨p0, p1, p2⟩, _⟩ := HX1.out
  clear hb1 HX0 HB0 HN
  have hways : ¬ Nm nm ∨ (Nm nm ∧ v < 1) ∨ (Nm nm ∧ 1 ≤ v ∧ 1000 < v) ∨ (Nm nm ∧ 1 ≤ v ∧ v ≤ 1000 ∧ 6 < n) ∨ (Nm nm ∧ 1 ≤ v ∧ v ≤ 1000 ∧ n ≤ 6) := by
    by_cases h : Nm nm
    · simp only [h, true_and, not_true, false_or]
      omega
    · exact Or.inl h
  rcases hways with m1 | ⟨m1, m2⟩ | ⟨m1, m2, m3⟩ | ⟨m1, m2, m3, m4⟩ | ⟨m1, m2, m3, m4⟩
  · rw [decide_eq_false m1]
    have HM := Lib.hid (show ¬ May ⟨nm, v, l⟩ from fun h => m1 (HMay.out.1 h).1)
    clear m1
    go_wp2_with fail
    go_ret
    exact ⟨ret_v (x := .bool false) (by rw [decide_eq_false HM.out]), HB1.out⟩
  · rw [decide_eq_true m1]
    have HM := Lib.hid (show ¬ May ⟨nm, v, l⟩ from fun h => by have := (HMay.out.1 h).2.1; omega)
    clear m1
    go_wp2_with fail
    go_ret
    exact ⟨ret_v (x := .bool false) (by rw [decide_eq_false HM.out]), HB1.out⟩
  · rw [decide_eq_true m1]
    have HM := Lib.hid (show ¬ May ⟨nm, v, l⟩ from fun h => by have := (HMay.out.1 h).2.2.1; omega)
    clear m1
    go_wp2_with fail
    go_ret
    exact ⟨ret_v (x := .bool false) (by rw [decide_eq_false HM.out]), HB1.out⟩
  · rw [decide_eq_true m1]
    have HM := Lib.hid (show ¬ May ⟨nm, v, l⟩ from fun h => by have := (HMay.out.1 h).2.2.2.1; omega)
    clear m1
    go_wp2_with fail
    go_ret
    exact ⟨ret_v (x := .bool false) (by rw [decide_eq_false HM.out]), HB1.out⟩
  · rw [decide_eq_true m1]
    have HM := Lib.hid (show May ⟨nm, v, l⟩ ↔ Gd l n from ⟨fun h => (HMay.out.1 h).2.2.2.2, fun h => HMay.out.2 ⟨m1, m2, m3, m4, h⟩⟩)
    clear m1 HMay
    go_wp2_with fail
    clear p0 p1 p2
    go_loopw [28] (fun i wr => ∃ j : Nat, i = .int .i64 j ∧ j ≤ n ∧ Gd l j ∧ Below w1.heap.size w1 wr) (fun i _ => n - (intOf i).toNat)
    case atStart => exact ⟨0, rfl, Nat.zero_le _, fun r hr => absurd hr (Nat.not_lt_zero r), Below.refl _ _⟩
    case round =>
      obtain ⟨j, rfl, hj, hgood, hbel⟩ := hrel
      have HG := Lib.hid hgood
      have HBl := Lib.hid hbel
      clear hgood hbel
      by_cases hjn : j < n
      · obtain ⟨b, q, hix, hc, hsz⟩ := HS.out.at j (by rw [← HLen.out]; exact hjn)
        have hiff : GdAt l j ↔ FOk (l.getD j d0) ∧ ¬ Has (l.take j) (l.getD j d0).s := Iff.rfl
        obtain ⟨⟨fs, fk⟩, hf⟩ : ∃ f, f = l.getD j d0 := ⟨_, rfl⟩
        rw [← hf] at hc hsz hiff
        obtain ⟨c0, c1⟩ := hc wr (bt HB1.out HBl.out)
        simp only at c0 c1 hsz hiff
        have hi := fun W => hix W n c hjn
        have HIff := Lib.hid hiff
        have HF := Lib.hid (fun W => mayField_any fs fk W hsz)
        have ha2 := (Below.refl wr.heap.size wr).alloc (Nat.le_refl _) (.cells #[.string fs, .int .i64 fk] 72)
        have HX2 := Lib.hid ((HX1.out.kept HBl.out).kept ha2)
        have HY2 := Lib.hid (bx2_new wr 72 (.string fs) (.int .i64 fk))
        have HB2 := Lib.hid (bt HBl.out ha2)
        have hlt : (l.take j).length = j := by rw [List.length_take, ← HLen.out]; omega
        have hHas := fun W (hW : Below w.heap.size w W) => has_any A (l.take j) c fs W ((HS.out.take j).kept hW)
        simp only [hlt] at hHas
        have HHas := Lib.hid hHas
        have hcut := fun W => cut_f W A n c j (by omega)
        clear hc hix hf ha2 hiff hlt hHas
        go_wp2_with fail
        obtain ⟨b2, hb2⟩ : ∃ b2, b2 = wr.heap.size := ⟨_, rfl⟩
        obtain ⟨w2, hw2⟩ : ∃ w2, w2 = wr.alloc (.cells #[.string fs, .int .i64 fk] 72) := ⟨_, rfl⟩
        rw [← hw2] at HX2 HY2 HB2 ⊢
        rw [← hb2] at HY2 ⊢
        clear hw2 hb2 c0 c1 hi
        by_cases hok : FOk ⟨fs, fk⟩
        · rw [decide_eq_true hok] at HF
          have HOk := Lib.hid hok
          clear hok
          refine Reg.G_start (by kernel_rfl) (by repeat (first | exact Reg.frameless_bodyPost | refine Reg.frameless_then ?_ | refine Reg.frameless_inBlock ?_)) (fun W hW => ?_)
          obtain ⟨⟨y0, y1⟩, _⟩ := HY2.out
          have x0 := Reg.later_cell hW y0
          have x1 := Reg.later_cell hW y1
          clear y0 y1
          first | (refine Reg.G_step (i := 0) rfl (by kernel_rfl) (by rfl) (fun K hK => ?_); go_big_quiet_op; refine hK _ ?_; clear hK K) | (refine Reg.G_skip (i := 0) rfl (by kernel_rfl) (by rfl) ?_; simp only [Act.put, List.setIfInBounds_toArray, List.set_cons_zero, List.set_cons_succ])
          refine Reg.G_event (i := 1) rfl (by kernel_rfl) (by rfl) (fun K hK => ?_)
          go_simp
          refine (HF.out _).mono ?_
          rintro e v0 ⟨rfl, hv0⟩
          refine hK _ _ hv0 ?_
          clear hK K x0 x1
          have hw0 := bt hW hv0
          obtain ⟨⟨y0, _⟩, _⟩ := HY2.out.kept hW
          obtain ⟨⟨_, _, z2⟩, _⟩ := HX2.out.kept hW
          have x0 := Reg.later_cell hv0 y0
          have x2 := Reg.later_cell hv0 z2
          clear y0 z2
          first | (refine Reg.G_step (i := 2) rfl (by kernel_rfl) (by rfl) (fun K hK => ?_); go_big_quiet_op; refine hK _ ?_; clear hK K) | (refine Reg.G_skip (i := 2) rfl (by kernel_rfl) (by rfl) ?_; simp only [Act.put, List.setIfInBounds_toArray, List.set_cons_zero, List.set_cons_succ])
          first | (refine Reg.G_step (i := 3) rfl (by kernel_rfl) (by rfl) (fun K hK => ?_); go_big_quiet_op; refine hK _ ?_; clear hK K) | (refine Reg.G_skip (i := 3) rfl (by kernel_rfl) (by rfl) ?_; simp only [Act.put, List.setIfInBounds_toArray, List.set_cons_zero, List.set_cons_succ])
          first | (refine Reg.G_step (i := 4) rfl (by kernel_rfl) (by rfl) (fun K hK => ?_); go_big_quiet_op; refine hK _ ?_; clear hK K) | (refine Reg.G_skip (i := 4) rfl (by kernel_rfl) (by rfl) ?_; simp only [Act.put, List.setIfInBounds_toArray, List.set_cons_zero, List.set_cons_succ])
          first | (refine Reg.G_step (i := 5) rfl (by kernel_rfl) (by rfl) (fun K hK => ?_); go_big_quiet_op; refine hK _ ?_; clear hK K) | (refine Reg.G_skip (i := 5) rfl (by kernel_rfl) (by rfl) ?_; simp only [Act.put, List.setIfInBounds_toArray, List.set_cons_zero, List.set_cons_succ])
          first | (refine Reg.G_step (i := 6) rfl (by kernel_rfl) (by rfl) (fun K hK => ?_); go_big_quiet_op; refine hK _ ?_; clear hK K) | (refine Reg.G_skip (i := 6) rfl (by kernel_rfl) (by rfl) ?_; simp only [Act.put, List.setIfInBounds_toArray, List.set_cons_zero, List.set_cons_succ])
          first | (refine Reg.G_step (i := 7) rfl (by kernel_rfl) (by rfl) (fun K hK => ?_); go_big_quiet_op; refine hK _ ?_; clear hK K) | (refine Reg.G_skip (i := 7) rfl (by kernel_rfl) (by rfl) ?_; simp only [Act.put, List.setIfInBounds_toArray, List.set_cons_zero, List.set_cons_succ])
          first | (refine Reg.G_step (i := 8) rfl (by kernel_rfl) (by rfl) (fun K hK => ?_); go_big_quiet_op; refine hK _ ?_; clear hK K) | (refine Reg.G_skip (i := 8) rfl (by kernel_rfl) (by rfl) ?_; simp only [Act.put, List.setIfInBounds_toArray, List.set_cons_zero, List.set_cons_succ])
          first | (refine Reg.G_step (i := 9) rfl (by kernel_rfl) (by rfl) (fun K hK => ?_); go_big_quiet_op; refine hK _ ?_; clear hK K) | (refine Reg.G_skip (i := 9) rfl (by kernel_rfl) (by rfl) ?_; simp only [Act.put, List.setIfInBounds_toArray, List.set_cons_zero, List.set_cons_succ])
          refine Reg.G_event (i := 10) rfl (by kernel_rfl) (by rfl) (fun K hK => ?_)
          go_simp
          refine (HHas.out _ (bt HB1.out (bt HB2.out hw0))).mono ?_
          rintro e v1 ⟨rfl, hv1⟩
          refine hK _ _ hv1 ?_
          clear hK K x0 x2
          have hw1 := bt hw0 hv1
          first | (refine Reg.G_step (i := 11) rfl (by kernel_rfl) (by rfl) (fun K hK => ?_); go_big_quiet_op; refine hK _ ?_; clear hK K) | (refine Reg.G_skip (i := 11) rfl (by kernel_rfl) (by rfl) ?_; simp only [Act.put, List.setIfInBounds_toArray, List.set_cons_zero, List.set_cons_succ])
          refine Reg.G_done (by kernel_rfl) ?_
          have HB3 := Lib.hid (bt HB2.out hw1)
          by_cases hh : Has (l.take j) fs
          · rw [decide_eq_true hh]
            have HNo := Lib.hid (show ¬ May ⟨nm, v, l⟩ from fun h => (HIff.out.1 (HM.out.1 h j hjn)).2 hh)
            clear hh hw0 hw1 hv0 hv1 hW
            go_wp2_with fail
            go_ret
            exact ⟨ret_v (x := .bool false) (by rw [decide_eq_false HNo.out]), bt HB1.out HB3.out⟩
          · rw [decide_eq_false hh]
            have HGo := Lib.hid (HG.out.succ (HIff.out.2 ⟨HOk.out, hh⟩))
            clear hh hw0 hw1 hv0 hv1 hW
            go_wp2_with fail
            go_roundw
            case rel => exact ⟨j + 1, by go_num, by omega, HGo.out, HB3.out⟩
            case measure => simp [intOf]; omega
        · rw [decide_eq_false hok] at HF
          have HNo := Lib.hid (show ¬ May ⟨nm, v, l⟩ from fun h => hok (HIff.out.1 (HM.out.1 h j hjn)).1)
          clear hok
          refine Reg.G_start (by kernel_rfl) (by repeat (first | exact Reg.frameless_bodyPost | refine Reg.frameless_then ?_ | refine Reg.frameless_inBlock ?_)) (fun W hW => ?_)
          obtain ⟨⟨y0, y1⟩, _⟩ := HY2.out
          have x0 := Reg.later_cell hW y0
          have x1 := Reg.later_cell hW y1
          clear y0 y1
          first | (refine Reg.G_step (i := 0) rfl (by kernel_rfl) (by rfl) (fun K hK => ?_); go_big_quiet_op; refine hK _ ?_; clear hK K) | (refine Reg.G_skip (i := 0) rfl (by kernel_rfl) (by rfl) ?_; simp only [Act.put, List.setIfInBounds_toArray, List.set_cons_zero, List.set_cons_succ])
          refine Reg.G_event (i := 1) rfl (by kernel_rfl) (by rfl) (fun K hK => ?_)
          go_simp
          refine (HF.out _).mono ?_
          rintro e v0 ⟨rfl, hv0⟩
          refine hK _ _ hv0 ?_
          clear hK K x0 x1
          have hw0 := bt hW hv0
          first | (refine Reg.G_step (i := 2) rfl (by kernel_rfl) (by rfl) (fun K hK => ?_); go_big_quiet_op; refine hK _ ?_; clear hK K) | (refine Reg.G_skip (i := 2) rfl (by kernel_rfl) (by rfl) ?_; simp only [Act.put, List.setIfInBounds_toArray, List.set_cons_zero, List.set_cons_succ])
          first | (refine Reg.G_step (i := 3) rfl (by kernel_rfl) (by rfl) (fun K hK => ?_); go_big_quiet_op; refine hK _ ?_; clear hK K) | (refine Reg.G_skip (i := 3) rfl (by kernel_rfl) (by rfl) ?_; simp only [Act.put, List.setIfInBounds_toArray, List.set_cons_zero, List.set_cons_succ])
          first | (refine Reg.G_step (i := 4) rfl (by kernel_rfl) (by rfl) (fun K hK => ?_); go_big_quiet_op; refine hK _ ?_; clear hK K) | (refine Reg.G_skip (i := 4) rfl (by kernel_rfl) (by rfl) ?_; simp only [Act.put, List.setIfInBounds_toArray, List.set_cons_zero, List.set_cons_succ])
          first | (refine Reg.G_step (i := 5) rfl (by kernel_rfl) (by rfl) (fun K hK => ?_); go_big_quiet_op; refine hK _ ?_; clear hK K) | (refine Reg.G_skip (i := 5) rfl (by kernel_rfl) (by rfl) ?_; simp only [Act.put, List.setIfInBounds_toArray, List.set_cons_zero, List.set_cons_succ])
          first | (refine Reg.G_step (i := 6) rfl (by kernel_rfl) (by rfl) (fun K hK => ?_); go_big_quiet_op; refine hK _ ?_; clear hK K) | (refine Reg.G_skip (i := 6) rfl (by kernel_rfl) (by rfl) ?_; simp only [Act.put, List.setIfInBounds_toArray, List.set_cons_zero, List.set_cons_succ])
          first | (refine Reg.G_step (i := 7) rfl (by kernel_rfl) (by rfl) (fun K hK => ?_); go_big_quiet_op; refine hK _ ?_; clear hK K) | (refine Reg.G_skip (i := 7) rfl (by kernel_rfl) (by rfl) ?_; simp only [Act.put, List.setIfInBounds_toArray, List.set_cons_zero, List.set_cons_succ])
          first | (refine Reg.G_step (i := 8) rfl (by kernel_rfl) (by rfl) (fun K hK => ?_); go_big_quiet_op; refine hK _ ?_; clear hK K) | (refine Reg.G_skip (i := 8) rfl (by kernel_rfl) (by rfl) ?_; simp only [Act.put, List.setIfInBounds_toArray, List.set_cons_zero, List.set_cons_succ])
          first | (refine Reg.G_step (i := 9) rfl (by kernel_rfl) (by rfl) (fun K hK => ?_); go_big_quiet_op; refine hK _ ?_; clear hK K) | (refine Reg.G_skip (i := 9) rfl (by kernel_rfl) (by rfl) ?_; simp only [Act.put, List.setIfInBounds_toArray, List.set_cons_zero, List.set_cons_succ])
          refine Reg.G_skip (i := 10) rfl (by kernel_rfl) (by rfl) ?_
          simp only [Act.put, List.setIfInBounds_toArray, List.set_cons_zero, List.set_cons_succ]
          first | (refine Reg.G_step (i := 11) rfl (by kernel_rfl) (by rfl) (fun K hK => ?_); go_big_quiet_op; refine hK _ ?_; clear hK K) | (refine Reg.G_skip (i := 11) rfl (by kernel_rfl) (by rfl) ?_; simp only [Act.put, List.setIfInBounds_toArray, List.set_cons_zero, List.set_cons_succ])
          refine Reg.G_done (by kernel_rfl) ?_
          have HB3 := Lib.hid (bt HB2.out hw0)
          clear hw0 hv0 hW
          go_wp2_with fail
          go_ret
          exact ⟨ret_v (x := .bool false) (by rw [decide_eq_false HNo.out]), bt HB1.out HB3.out⟩
      · obtain rfl : j = n := by omega
        have HYes := Lib.hid (HM.out.2 HG.out)
        go_wp2_with fail
        go_ret
        exact ⟨ret_v (x := .bool true) (by rw [decide_eq_true HYes.out]), bt HB1.out HBl.out⟩
end Go.Proofs.YtbmdkibmfkmjoaaGreat.Sc

namespace Go.Proofs.YtbmdkibmfkmjoaaGreat.Rg
open Go.RowKit Go.Proofs.YtbmdkibmfkmjoaaGreat.BM Go.Proofs.YtbmdkibmfkmjoaaGreat.VaM Go.Proofs.YtbmdkibmfkmjoaaGreat.Va Go.Proofs.YtbmdkibmfkmjoaaGreat.Sc Go.Proofs.YtbmdkibmfkmjoaaGreat.RgM
open Go.Proofs.YtbmdkibmfkmjoaaGreat.ScM (Sc)

/-- A name in a block of its own. -/
def Kept (w : World) (g : Nat) (nm : ByteArray) : Prop := w.cell? ⟨g, 0, none⟩ = some (.string nm)
theorem Kept.kept {w w' : World} {g : Nat} {nm : ByteArray} (h : Kept w g nm) (hb : Below w.heap.size w w') : Kept w' g nm := (hb.cell (p := ⟨g, 0, none⟩) (World.block_lt_of_cell? w _ h)).trans h

set_option maxRecDepth 100000 in
set_option maxHeartbeats 1000000 in
theorem named_any (s nm : ByteArray) (v : Int) (A : Option Addr) (k c g : Nat) (w : World) (hK : Kept w g nm) :
    Calls Tryz.prog 70 #[.agg #[.string s, .int .i64 v, .slice A k c], .pointer (some ⟨g, 0, none⟩)] w fun e w' => e = .returned (.bool (decide (s = nm))) ∧ Below w.heap.size w w' := by
  have HB := Lib.hid ((Below.refl w.heap.size w).alloc (Nat.le_refl _) (.cells #[.string s, .int .i64 v, .slice A k c] 40))
  have hk1 := hK.kept HB.out
  unfold Kept at hk1
  obtain ⟨⟨p0, p1, p2⟩, _⟩ := bx_new_t w 40 (.string s) (.int .i64 v) (.slice A k c)
  have he : (s.toList == nm.toList) = decide (s = nm) := toList_beq s nm
  obtain ⟨x, hx⟩ : ∃ x, x = decide (s = nm) := ⟨_, rfl⟩
  rw [← hx] at he ⊢
  clear hx hK
  go_enter Tryz.func70, Tryz.ntmps70
  go_wp2_with fail
  go_ret
  exact ⟨rfl, HB.out⟩

set_option maxRecDepth 100000 in
set_option maxHeartbeats 2000000 in
theorem IndexFunc_any (l : List Sc) (nm : ByteArray) (A : Option Addr) (c g : Nat) (w : World) (hS : SlS w A l c) (hK : Kept w g nm) :
    Calls Tryz.prog 69 #[.slice A l.length c, .func (.func 70) #[] #[.pointer (some ⟨g, 0, none⟩)]] w fun e w' => e = .returned (.int .i64 (atI l nm)) ∧ Below w.heap.size w w' := by
  have hl := slS_len hS
  have hyes := fun j => @atI_some l nm j
  have hno := @atI_none l nm
  obtain ⟨R, hR⟩ : ∃ R, R = atI l nm := ⟨_, rfl⟩
  rw [← hR] at hno ⊢
  simp only [← hR] at hyes
  obtain ⟨n, hn⟩ : ∃ n, n = l.length := ⟨_, rfl⟩
  rw [← hn] at hl hno ⊢
  simp only [← hn] at hyes
  have HLen := Lib.hid hn
  have HS := Lib.hid hS
  have HYes := Lib.hid hyes
  have HNo := Lib.hid hno
  have HK := Lib.hid hK
  clear hn hS hyes hno hR hK
  go_enter Tryz.func69, Tryz.ntmps69
  go_wp2_with fail
  go_loopw [8] (fun i wr => ∃ j : Nat, i = .int .i64 j ∧ j ≤ n ∧ (∀ r, r < j → (l.getD r s0).s ≠ nm) ∧ Below w.heap.size w wr) (fun i _ => n - (intOf i).toNat)
  case atStart => exact ⟨0, rfl, Nat.zero_le _, fun r hr => absurd hr (Nat.not_lt_zero r), Below.refl _ _⟩
  case round =>
    obtain ⟨j, rfl, hj, hne, hbel⟩ := hrel
    have HNe := Lib.hid hne
    have HBl := Lib.hid hbel
    clear hne hbel
    by_cases hjn : j < n
    · obtain ⟨b, q, A1, c1, hix, hc, _⟩ := HS.out.at j (by rw [← HLen.out]; exact hjn)
      obtain ⟨f, hf⟩ : ∃ f, f = l.getD j s0 := ⟨_, rfl⟩
      obtain ⟨⟨x0, x1, x2⟩, _⟩ := hc wr HBl.out
      rw [← hf] at x0 x1 x2
      have hi := fun W => hix W n c hjn
      have HF := Lib.hid hf
      clear hc hix hf
      obtain ⟨fs, fv, ff⟩ := f
      simp only at x0 x1 x2
      obtain ⟨k, hk⟩ : ∃ k, k = ff.length := ⟨_, rfl⟩
      rw [← hk] at x2
      clear hk
      have HN := Lib.hid (named_any fs nm fv A1 k c1 g wr (HK.out.kept HBl.out))
      go_wp2_with fail
      refine HN.out.mono ?_
      rintro e w2 ⟨rfl, hb2⟩
      have HB2 := Lib.hid (bt HBl.out hb2)
      clear hb2 HN x0 x1 x2
      by_cases he : fs = nm
      · rw [decide_eq_true he]
        have HR := Lib.hid (show (j : Int) = R from (HYes.out j hjn (by rw [← HF.out]; exact he) HNe.out).symm)
        clear he
        go_wp2_with fail
        go_ret
        exact ⟨ret_v (x := .int .i64 (j : Int)) (by rw [HR.out]), HB2.out⟩
      · rw [decide_eq_false he]
        have HE := Lib.hid he
        clear he
        go_wp2_with fail
        go_roundw
        case rel =>
          refine ⟨j + 1, by go_num, by omega, fun r hr => ?_, HB2.out⟩
          by_cases e : r = j
          · rw [e, ← HF.out]
            exact HE.out
          · exact HNe.out r (by omega)
        case measure => simp [intOf]; omega
    · obtain rfl : j = n := by omega
      have HR := Lib.hid (show (-1 : Int) = R from (HNo.out HNe.out).symm)
      go_wp2_with fail
      go_ret
      exact ⟨ret_v (x := .int .i64 (-1)) (by rw [HR.out]), HBl.out⟩

set_option maxRecDepth 100000 in
set_option maxHeartbeats 1000000 in
theorem place_any (l : List Sc) (nm : ByteArray) (A : Option Addr) (c : Nat) (w : World) (hS : SlS w A l c) :
    Calls Tryz.prog 42 #[.slice A l.length c, .string nm] w fun e w' => e = .returned (.int .i64 (atI l nm)) ∧ Below w.heap.size w w' := by
  have hmf : ∀ (fn : Fn) (first cap : Array Value) (w : World), (Instr.makeFunc fn first cap).run Tryz.prog w = .ok (.func fn first cap) w := fun _ _ _ _ => rfl
  have hb1 := (Below.refl w.heap.size w).alloc (Nat.le_refl _) (.cells #[.string nm] 9)
  have HI := Lib.hid (IndexFunc_any l nm A c w.heap.size _ (hS.kept hb1) (show Kept (w.alloc (.cells #[.string nm] 9)) w.heap.size nm from by unfold Kept; rw [World.cell?_alloc_at (hn := rfl)]; rfl))
  have HB1 := Lib.hid hb1
  obtain ⟨R, hR⟩ : ∃ R, R = atI l nm := ⟨_, rfl⟩
  rw [← hR] at HI ⊢
  obtain ⟨n, hn⟩ : ∃ n, n = l.length := ⟨_, rfl⟩
  rw [← hn] at HI ⊢
  clear hn hR hS hb1
  go_enter Tryz.func42, Tryz.ntmps42
  go_wp2_with fail
  refine HI.out.mono ?_
  rintro e w2 ⟨rfl, hb2⟩
  have HB2 := Lib.hid (bt HB1.out hb2)
  clear hb2 HI
  go_wp2_with fail
  go_ret
  exact ⟨rfl, HB2.out⟩
end Go.Proofs.YtbmdkibmfkmjoaaGreat.Rg

namespace Go.Proofs.YtbmdkibmfkmjoaaGreat.Rg
open Go.RowKit Go.Proofs.YtbmdkibmfkmjoaaGreat.BM Go.Proofs.YtbmdkibmfkmjoaaGreat.VaM Go.Proofs.YtbmdkibmfkmjoaaGreat.Va Go.Proofs.YtbmdkibmfkmjoaaGreat.Sc Go.Proofs.YtbmdkibmfkmjoaaGreat.RgM
open Go.Proofs.YtbmdkibmfkmjoaaGreat.ScM (Sc)

theorem getD_take {l : List Sc} {j r : Nat} (h : r < j) : (l.take j).getD r s0 = l.getD r s0 := by
  rw [List.getD_eq_getElem?_getD, List.getD_eq_getElem?_getD, List.getElem?_take, if_pos h]

/-- Of the name of the j-th one there is none ahead of it just if it is the first one of its name. -/
theorem at_take {l : List Sc} {j : Nat} (hj : j < l.length) : At (l.take j) (l.getD j s0).s = none ↔ At l (l.getD j s0).s = some j := by
  rw [at_none, at_some, List.length_take, Nat.min_eq_left (Nat.le_of_lt hj)]
  constructor
  · intro h
    exact ⟨hj, rfl, fun r hr => by rw [← getD_take hr]; exact h r hr⟩
  · rintro ⟨_, _, h⟩ r hr
    rw [getD_take hr]
    exact h r hr

theorem atI_neg {l : List Sc} {n : ByteArray} : atI l n < 0 ↔ At l n = none := by
  unfold atI
  cases At l n with
  | none => simp
  | some i => simp only [reduceCtorEq, iff_false]; omega

set_option maxRecDepth 100000 in
set_option maxHeartbeats 2000000 in
theorem May_any (l : List Sc) (A : Option Addr) (c : Nat) (w : World) (hS : SlS w A l c) :
    Calls Tryz.prog 34 #[.slice A l.length c] w fun e w' => e = .returned (.bool (decide (May l))) ∧ Below w.heap.size w w' := by
  have hl := slS_len hS
  have hcap := hS.2.1
  have hmay : May l ↔ LGd l l.length ∧ l.length ≤ 8 := Iff.rfl
  have hpl := fun W (h : Below w.heap.size w W) nm j => place_any (l.take j) nm A c W ((hS.kept h).take j)
  have htk := fun j => @at_take l j
  have hcut := fun W (k : Nat) (hk : k ≤ c) => tyS.cut W A l.length c k hk
  obtain ⟨n, hn⟩ : ∃ n, n = l.length := ⟨_, rfl⟩
  rw [← hn] at hl hmay hcap ⊢
  simp only [← hn] at htk hcut
  simp only [List.length_take, ← hn] at hpl
  have HLen := Lib.hid hn
  have HS := Lib.hid hS
  have HMay := Lib.hid hmay
  have HPl := Lib.hid hpl
  have HTk := Lib.hid htk
  have HCut := Lib.hid hcut
  clear hn hS hmay hpl htk hcut
  by_cases h8 : n ≤ 8
  · have hd8 : decide ((8 : Int) < (n : Int)) = false := by rw [decide_eq_false_iff_not]; omega
    have HM := Lib.hid (show May l ↔ LGd l n from ⟨fun h => (HMay.out.1 h).1, fun h => HMay.out.2 ⟨h, h8⟩⟩)
    clear HMay h8
    go_enter Tryz.func34, Tryz.ntmps34
    go_wp2_with fail
    go_loopw [10] (fun i wr => ∃ j : Nat, i = .int .i64 j ∧ j ≤ n ∧ LGd l j ∧ Below w.heap.size w wr) (fun i _ => n - (intOf i).toNat)
    case atStart => exact ⟨0, rfl, Nat.zero_le _, fun r hr => absurd hr (Nat.not_lt_zero r), Below.refl _ _⟩
    case round =>
      obtain ⟨j, rfl, hj, hgood, hbel⟩ := hrel
      have HG := Lib.hid hgood
      have HBl := Lib.hid hbel
      clear hgood hbel
      by_cases hjn : j < n
      · obtain ⟨b, q, A1, c1, hix, hc, hfine⟩ := HS.out.at j (by rw [← HLen.out]; exact hjn)
        have hiff : (ScM.May (l.getD j s0) ∧ At l (l.getD j s0).s = some j) ↔ ScM.May (l.getD j s0) ∧ atI (l.take j) (l.getD j s0).s < 0 := by rw [atI_neg, HTk.out j hjn]
        have hpl := fun W (h : Below w.heap.size w W) => HPl.out W h (l.getD j s0).s j
        rw [Nat.min_eq_left hj] at hpl
        have hs := fun W => HCut.out W j (by omega)
        obtain ⟨f, hf⟩ : ∃ f, f = l.getD j s0 := ⟨_, rfl⟩
        rw [← hf] at hc hfine hiff
        simp only [← hf] at hpl
        obtain ⟨R, hR⟩ : ∃ R, R = atI (l.take j) f.s := ⟨_, rfl⟩
        rw [← hR] at hiff
        simp only [← hR] at hpl
        have hi := fun W => hix W n c hjn
        obtain ⟨⟨x0, x1, x2⟩, _⟩ := hc wr HBl.out
        have hm5 := fun W (h : Below w.heap.size w W) => Go.Proofs.YtbmdkibmfkmjoaaGreat.Sc.May_any f A1 c1 W (hc W h).2 hfine
        have HF := Lib.hid hf
        have HIff := Lib.hid hiff
        clear hc hix hf hR hfine hiff
        obtain ⟨fs, fv, ff⟩ := f
        simp only at x0 x1 x2 hm5 hpl
        obtain ⟨k, hk⟩ : ∃ k, k = ff.length := ⟨_, rfl⟩
        simp only [← hk] at x2 hm5
        clear hk
        have HPj := Lib.hid hpl
        have HM5 := Lib.hid hm5
        clear hpl hm5
        have ha := (Below.refl wr.heap.size wr).alloc (Nat.le_refl _) (.cells #[.string fs, .int .i64 fv, .slice A1 k c1] 40)
        have HX2 := Lib.hid (bx_new_t wr 40 (.string fs) (.int .i64 fv) (.slice A1 k c1))
        have HB2 := Lib.hid (bt HBl.out ha)
        clear ha
        go_wp2_with fail
        obtain ⟨w2, hw2⟩ : ∃ w2, w2 = wr.alloc (.cells #[.string fs, .int .i64 fv, .slice A1 k c1] 40) := ⟨_, rfl⟩
        obtain ⟨b2, hb2⟩ : ∃ b2, b2 = wr.heap.size := ⟨_, rfl⟩
        rw [← hw2] at HX2 HB2 ⊢
        rw [← hb2] at HX2 ⊢
        clear hw2 hb2 x0 x1 x2
        by_cases hm : ScM.May ⟨fs, fv, ff⟩
        · have hm5 := HM5.out
          simp only [decide_eq_true hm] at hm5
          have HM6 := Lib.hid hm5
          have HMf := Lib.hid hm
          clear hm5 hm HM5
          refine Reg.G_start (by kernel_rfl) (by repeat (first | exact Reg.frameless_bodyPost | refine Reg.frameless_then ?_ | refine Reg.frameless_inBlock ?_)) (fun W hW => ?_)
          have hBW := bt HB2.out hW
          obtain ⟨⟨z0, z1, z2⟩, _⟩ := HX2.out.kept hW
          have x0 := Reg.later_cell (Below.refl _ W) z0
          have x1 := Reg.later_cell (Below.refl _ W) z1
          have x2 := Reg.later_cell (Below.refl _ W) z2
          clear z0 z1 z2
          first | (refine Reg.G_step (i := 0) rfl (by kernel_rfl) (by rfl) (fun K hK => ?_); go_big_quiet_op; refine hK _ ?_; clear hK K) | (refine Reg.G_skip (i := 0) rfl (by kernel_rfl) (by rfl) ?_; simp only [Act.put, List.setIfInBounds_toArray, List.set_cons_zero, List.set_cons_succ])
          refine Reg.G_event (i := 1) rfl (by kernel_rfl) (by rfl) (fun K hK => ?_)
          go_simp
          refine (HM6.out _ hBW).mono ?_
          rintro e v0 ⟨rfl, hv0⟩
          refine hK _ _ hv0 ?_
          clear hK K x0 x1 x2
          have hw0 := bt hBW hv0
          obtain ⟨⟨z0, z1, z2⟩, _⟩ := HX2.out.kept (bt hW hv0)
          have x0 := Reg.later_cell (Below.refl _ v0) z0
          have x1 := Reg.later_cell (Below.refl _ v0) z1
          have x2 := Reg.later_cell (Below.refl _ v0) z2
          clear z0 z1 z2
          first | (refine Reg.G_step (i := 2) rfl (by kernel_rfl) (by rfl) (fun K hK => ?_); go_big_quiet_op; refine hK _ ?_; clear hK K) | (refine Reg.G_skip (i := 2) rfl (by kernel_rfl) (by rfl) ?_; simp only [Act.put, List.setIfInBounds_toArray, List.set_cons_zero, List.set_cons_succ])
          first | (refine Reg.G_step (i := 3) rfl (by kernel_rfl) (by rfl) (fun K hK => ?_); go_big_quiet_op; refine hK _ ?_; clear hK K) | (refine Reg.G_skip (i := 3) rfl (by kernel_rfl) (by rfl) ?_; simp only [Act.put, List.setIfInBounds_toArray, List.set_cons_zero, List.set_cons_succ])
          first | (refine Reg.G_step (i := 4) rfl (by kernel_rfl) (by rfl) (fun K hK => ?_); go_big_quiet_op; refine hK _ ?_; clear hK K) | (refine Reg.G_skip (i := 4) rfl (by kernel_rfl) (by rfl) ?_; simp only [Act.put, List.setIfInBounds_toArray, List.set_cons_zero, List.set_cons_succ])
          first | (refine Reg.G_step (i := 5) rfl (by kernel_rfl) (by rfl) (fun K hK => ?_); go_big_quiet_op; refine hK _ ?_; clear hK K) | (refine Reg.G_skip (i := 5) rfl (by kernel_rfl) (by rfl) ?_; simp only [Act.put, List.setIfInBounds_toArray, List.set_cons_zero, List.set_cons_succ])
          first | (refine Reg.G_step (i := 6) rfl (by kernel_rfl) (by rfl) (fun K hK => ?_); go_big_quiet_op; refine hK _ ?_; clear hK K) | (refine Reg.G_skip (i := 6) rfl (by kernel_rfl) (by rfl) ?_; simp only [Act.put, List.setIfInBounds_toArray, List.set_cons_zero, List.set_cons_succ])
          first | (refine Reg.G_step (i := 7) rfl (by kernel_rfl) (by rfl) (fun K hK => ?_); go_big_quiet_op; refine hK _ ?_; clear hK K) | (refine Reg.G_skip (i := 7) rfl (by kernel_rfl) (by rfl) ?_; simp only [Act.put, List.setIfInBounds_toArray, List.set_cons_zero, List.set_cons_succ])
          first | (refine Reg.G_step (i := 8) rfl (by kernel_rfl) (by rfl) (fun K hK => ?_); go_big_quiet_op; refine hK _ ?_; clear hK K) | (refine Reg.G_skip (i := 8) rfl (by kernel_rfl) (by rfl) ?_; simp only [Act.put, List.setIfInBounds_toArray, List.set_cons_zero, List.set_cons_succ])
          refine Reg.G_event (i := 9) rfl (by kernel_rfl) (by rfl) (fun K hK => ?_)
          go_simp
          refine (HPj.out _ hw0).mono ?_
          rintro e v1 ⟨rfl, hv1⟩
          refine hK _ _ hv1 ?_
          clear hK K x0 x1 x2
          have hw1 := bt hw0 hv1
          first | (refine Reg.G_step (i := 10) rfl (by kernel_rfl) (by rfl) (fun K hK => ?_); go_big_quiet_op; refine hK _ ?_; clear hK K) | (refine Reg.G_skip (i := 10) rfl (by kernel_rfl) (by rfl) ?_; simp only [Act.put, List.setIfInBounds_toArray, List.set_cons_zero, List.set_cons_succ])
          first | (refine Reg.G_step (i := 11) rfl (by kernel_rfl) (by rfl) (fun K hK => ?_); go_big_quiet_op; refine hK _ ?_; clear hK K) | (refine Reg.G_skip (i := 11) rfl (by kernel_rfl) (by rfl) ?_; simp only [Act.put, List.setIfInBounds_toArray, List.set_cons_zero, List.set_cons_succ])
          refine Reg.G_done (by kernel_rfl) ?_
          have HB3 := Lib.hid hw1
          clear hw0 hw1 hv0 hv1 hBW hW
          by_cases hR : R < 0
          · have hd : decide ((0 : Int) ≤ R) = false := by rw [decide_eq_false_iff_not]; omega
            rw [hd]
            have HGo := Lib.hid (HG.out.succ (by rw [← HF.out]; exact HIff.out.2 ⟨HMf.out, hR⟩))
            clear hR hd
            go_wp2_with fail
            go_roundw
            case rel => exact ⟨j + 1, by go_num, by omega, HGo.out, HB3.out⟩
            case measure => simp [intOf]; omega
          · have hd : decide ((0 : Int) ≤ R) = true := by rw [decide_eq_true_iff]; omega
            rw [hd]
            have HNo := Lib.hid (show ¬ May l from fun h => hR (by
              have h1 := HM.out.1 h j hjn
              rw [← HF.out] at h1
              exact (HIff.out.1 h1).2))
            clear hR hd
            go_wp2_with fail
            go_ret
            exact ⟨ret_v (x := .bool false) (by rw [decide_eq_false HNo.out]), HB3.out⟩
        · have hm5 := HM5.out
          simp only [decide_eq_false hm] at hm5
          have HM6 := Lib.hid hm5
          have HNo := Lib.hid (show ¬ May l from fun h => hm (by
            have h1 := HM.out.1 h j hjn
            rw [← HF.out] at h1
            exact (HIff.out.1 h1).1))
          clear hm5 hm HM5 HPj HIff
          refine Reg.G_start (by kernel_rfl) (by repeat (first | exact Reg.frameless_bodyPost | refine Reg.frameless_then ?_ | refine Reg.frameless_inBlock ?_)) (fun W hW => ?_)
          have hBW := bt HB2.out hW
          obtain ⟨⟨z0, z1, z2⟩, _⟩ := HX2.out.kept hW
          have x0 := Reg.later_cell (Below.refl _ W) z0
          have x1 := Reg.later_cell (Below.refl _ W) z1
          have x2 := Reg.later_cell (Below.refl _ W) z2
          clear z0 z1 z2
          first | (refine Reg.G_step (i := 0) rfl (by kernel_rfl) (by rfl) (fun K hK => ?_); go_big_quiet_op; refine hK _ ?_; clear hK K) | (refine Reg.G_skip (i := 0) rfl (by kernel_rfl) (by rfl) ?_; simp only [Act.put, List.setIfInBounds_toArray, List.set_cons_zero, List.set_cons_succ])
          refine Reg.G_event (i := 1) rfl (by kernel_rfl) (by rfl) (fun K hK => ?_)
          go_simp
          refine (HM6.out _ hBW).mono ?_
          rintro e v0 ⟨rfl, hv0⟩
          refine hK _ _ hv0 ?_
          clear hK K x0 x1 x2
          have hw0 := bt hBW hv0
          first | (refine Reg.G_step (i := 2) rfl (by kernel_rfl) (by rfl) (fun K hK => ?_); go_big_quiet_op; refine hK _ ?_; clear hK K) | (refine Reg.G_skip (i := 2) rfl (by kernel_rfl) (by rfl) ?_; simp only [Act.put, List.setIfInBounds_toArray, List.set_cons_zero, List.set_cons_succ])
          first | (refine Reg.G_step (i := 3) rfl (by kernel_rfl) (by rfl) (fun K hK => ?_); go_big_quiet_op; refine hK _ ?_; clear hK K) | (refine Reg.G_skip (i := 3) rfl (by kernel_rfl) (by rfl) ?_; simp only [Act.put, List.setIfInBounds_toArray, List.set_cons_zero, List.set_cons_succ])
          first | (refine Reg.G_step (i := 4) rfl (by kernel_rfl) (by rfl) (fun K hK => ?_); go_big_quiet_op; refine hK _ ?_; clear hK K) | (refine Reg.G_skip (i := 4) rfl (by kernel_rfl) (by rfl) ?_; simp only [Act.put, List.setIfInBounds_toArray, List.set_cons_zero, List.set_cons_succ])
          first | (refine Reg.G_step (i := 5) rfl (by kernel_rfl) (by rfl) (fun K hK => ?_); go_big_quiet_op; refine hK _ ?_; clear hK K) | (refine Reg.G_skip (i := 5) rfl (by kernel_rfl) (by rfl) ?_; simp only [Act.put, List.setIfInBounds_toArray, List.set_cons_zero, List.set_cons_succ])
          first | (refine Reg.G_step (i := 6) rfl (by kernel_rfl) (by rfl) (fun K hK => ?_); go_big_quiet_op; refine hK _ ?_; clear hK K) | (refine Reg.G_skip (i := 6) rfl (by kernel_rfl) (by rfl) ?_; simp only [Act.put, List.setIfInBounds_toArray, List.set_cons_zero, List.set_cons_succ])
          first | (refine Reg.G_step (i := 7) rfl (by kernel_rfl) (by rfl) (fun K hK => ?_); go_big_quiet_op; refine hK _ ?_; clear hK K) | (refine Reg.G_skip (i := 7) rfl (by kernel_rfl) (by rfl) ?_; simp only [Act.put, List.setIfInBounds_toArray, List.set_cons_zero, List.set_cons_succ])
          first | (refine Reg.G_step (i := 8) rfl (by kernel_rfl) (by rfl) (fun K hK => ?_); go_big_quiet_op; refine hK _ ?_; clear hK K) | (refine Reg.G_skip (i := 8) rfl (by kernel_rfl) (by rfl) ?_; simp only [Act.put, List.setIfInBounds_toArray, List.set_cons_zero, List.set_cons_succ])
          refine Reg.G_skip (i := 9) rfl (by kernel_rfl) (by rfl) ?_
          simp only [Act.put, List.setIfInBounds_toArray, List.set_cons_zero, List.set_cons_succ]
          first | (refine Reg.G_step (i := 10) rfl (by kernel_rfl) (by rfl) (fun K hK => ?_); go_big_quiet_op; refine hK _ ?_; clear hK K) | (refine Reg.G_skip (i := 10) rfl (by kernel_rfl) (by rfl) ?_; simp only [Act.put, List.setIfInBounds_toArray, List.set_cons_zero, List.set_cons_succ])
          first | (refine Reg.G_step (i := 11) rfl (by kernel_rfl) (by rfl) (fun K hK => ?_); go_big_quiet_op; refine hK _ ?_; clear hK K) | (refine Reg.G_skip (i := 11) rfl (by kernel_rfl) (by rfl) ?_; simp only [Act.put, List.setIfInBounds_toArray, List.set_cons_zero, List.set_cons_succ])
          refine Reg.G_done (by kernel_rfl) ?_
          have HB3 := Lib.hid hw0
          clear hw0 hv0 hBW hW
          go_wp2_with fail
          go_ret
          exact ⟨ret_v (x := .bool false) (by rw [decide_eq_false HNo.out]), HB3.out⟩
      · obtain rfl : j = n := by omega
        have HYes := Lib.hid (HM.out.2 HG.out)
        go_wp2_with fail
        go_ret
        exact ⟨ret_v (x := .bool true) (by rw [decide_eq_true HYes.out]), HBl.out⟩
  · have hd8 : decide ((8 : Int) < (n : Int)) = true := by rw [decide_eq_true_iff]; omega
    have HNo := Lib.hid (show ¬ May l from fun h => h8 (HMay.out.1 h).2)
    clear h8
    go_enter Tryz.func34, Tryz.ntmps34
    go_wp2_with fail
    go_ret
    exact ⟨ret_v (x := .bool false) (by rw [decide_eq_false HNo.out]), Below.refl _ _⟩
end Go.Proofs.YtbmdkibmfkmjoaaGreat.Rg

namespace Go.Proofs.YtbmdkibmfkmjoaaGreat.Rg
open Go.RowKit Go.Proofs.YtbmdkibmfkmjoaaGreat.BM Go.Proofs.YtbmdkibmfkmjoaaGreat.VaM Go.Proofs.YtbmdkibmfkmjoaaGreat.Va Go.Proofs.YtbmdkibmfkmjoaaGreat.Sc Go.Proofs.YtbmdkibmfkmjoaaGreat.RgM
open Go.Proofs.YtbmdkibmfkmjoaaGreat.ScM (Sc)

set_option maxRecDepth 100000 in
set_option maxHeartbeats 2000000 in
theorem Find_any (l : List Sc) (nm : ByteArray) (A : Option Addr) (c : Nat) (w : World) (hS : SlS w A l c) (hr : RoomL l) :
    Calls Tryz.prog 61 #[.slice A l.length c, .string nm] w (Found l nm w) := by
  have hB1 := (Below.refl w.heap.size w).alloc (Nat.le_refl _) (.cells #[.string ⟨#[]⟩, .int .i64 0, .slice none 0 0] 40)
  have HZ1 := Lib.hid (bx_new_t w 40 (.string ⟨#[]⟩) (.int .i64 0) (.slice none 0 0))
  have hat := fun W (h : Below w.heap.size w W) => place_any l nm A c W (hS.kept h)
  have HB1 := Lib.hid hB1
  have HAt := Lib.hid hat
  obtain ⟨n, hn⟩ : ∃ n, n = l.length := ⟨_, rfl⟩
  rw [← hn] at HAt ⊢
  have HLen := Lib.hid hn
  have HS := Lib.hid hS
  have HRm := Lib.hid hr
  clear hn hS hat hB1 hr
  go_enter Tryz.func61, Tryz.ntmps61
  go_wp2_with fail
  obtain ⟨w1, hw1⟩ : ∃ w1, w1 = w.alloc (.cells #[.string ⟨#[]⟩, .int .i64 0, .slice none 0 0] 40) := ⟨_, rfl⟩
  rw [← hw1] at HB1 HZ1 ⊢
  clear hw1
  refine (HAt.out w1 HB1.out).mono ?_
  rintro e w3 ⟨rfl, hb3⟩
  have HB3 := Lib.hid (bt HB1.out hb3)
  have HZ3 := Lib.hid (HZ1.out.kept hb3)
  clear hb3 HB1 HZ1
  cases h : At l nm with
  | none =>
    have hi : atI l nm = -1 := by unfold atI; rw [h]
    rw [hi]
    have HFi := Lib.hid (find_no h)
    clear h hi
    have hst := bx_store HZ3.out (.string ⟨#[]⟩) (.int .i64 0) (.slice none 0 0)
    obtain ⟨⟨g0, g1, g2⟩, _⟩ := hst
    have G0 := Lib.hid g0
    have G1 := Lib.hid g1
    have G2 := Lib.hid g2
    have HF := Lib.hid (stored3 HB3.out (Nat.le_refl _) (.string ⟨#[]⟩) (.int .i64 0) (.slice none 0 0))
    obtain ⟨⟨p0, p1, p2⟩, p3, p4, p5⟩ := HZ3.out
    clear g0 g1 g2
    go_wp2_with fail
    obtain ⟨W2, hW2⟩ : ∃ W2, W2 = ((w3.setCell ⟨w.heap.size, 0, none⟩ (.string ⟨#[]⟩)).setCell ⟨w.heap.size, 1, none⟩ (.int .i64 0)).setCell ⟨w.heap.size, 2, none⟩ (.slice none 0 0) := ⟨_, rfl⟩
    rw [← hW2] at HF G0 G1 G2 ⊢
    have g0 := G0.out
    have g1 := G1.out
    have g2 := G2.out
    clear hW2 p0 p1 p2 p3 p4 p5
    exact bodyPost_ret (v := .tuple #[.agg #[.string ⟨#[]⟩, .int .i64 0, .slice none 0 0], .bool false]) (by simp [results, Tryz.results61, go_sem, g0, g1, g2]) rfl ⟨none, 0, ret_v (by rw [HFi.out]; rfl), (by rw [HFi.out]; exact slF_none _), (by rw [HFi.out]; exact fine_s0), HF.out⟩
  | some i =>
    have hi : atI l nm = (i : Int) := by unfold atI; rw [h]
    rw [hi]
    have HFi := Lib.hid (find_of h)
    have hlt := (at_some.1 h).1
    obtain ⟨b, q, A1, c1, hix, hc, hfine⟩ := HS.out.at i hlt
    obtain ⟨⟨x0, x1, x2⟩, _⟩ := hc w3 HB3.out
    have hrm := HRm.out i hlt
    rw [← HLen.out] at hlt
    have hi' := fun W => hix W n c hlt
    have hd : decide ((i : Int) < 0) = false := by rw [decide_eq_false_iff_not]; omega
    clear h hi hix
    obtain ⟨f, hf⟩ : ∃ f, f = l.getD i s0 := ⟨_, rfl⟩
    rw [← hf] at x0 x1 x2 hc hrm hfine HFi
    have HOw := Lib.hid (own_any f A1 c1 w3 (hc w3 HB3.out).2 hrm)
    clear hf hc hrm
    obtain ⟨fs, fv, ff⟩ := f
    simp only at x0 x1 x2 HOw
    obtain ⟨k, hk⟩ : ∃ k, k = ff.length := ⟨_, rfl⟩
    rw [← hk] at x2 HOw
    have HK := Lib.hid hk
    have HFine := Lib.hid hfine
    clear hk hfine
    go_wp2_with fail
    refine HOw.out.mono ?_
    rintro e w4 ⟨A4, c4, rfl, hO4, hb4⟩
    have HB4 := Lib.hid (bt HB3.out hb4)
    have HZ4 := Lib.hid (HZ3.out.kept hb4)
    have hlt4 := HZ3.out.lt
    have HAp := Lib.hid (show ∀ a, A4 = some a → w.heap.size < a.block from fun a ha => Nat.lt_of_lt_of_le hlt4 (hO4.2 a ha))
    have hsl := slF_off (p := ⟨w.heap.size, 2, none⟩) (slF_off (p := ⟨w.heap.size, 1, none⟩) (slF_off (p := ⟨w.heap.size, 0, none⟩) hO4.1 (fun a ha => by have := HAp.out a ha; simp only; omega) (.string fs)) (fun a ha => by have := HAp.out a ha; simp only; omega) (.int .i64 fv)) (fun a ha => by have := HAp.out a ha; simp only; omega) (.slice A4 k c4)
    have HSl := Lib.hid hsl
    have hst := bx_store HZ4.out (.string fs) (.int .i64 fv) (.slice A4 k c4)
    obtain ⟨⟨g0, g1, g2⟩, _⟩ := hst
    have G0 := Lib.hid g0
    have G1 := Lib.hid g1
    have G2 := Lib.hid g2
    have HF := Lib.hid (stored3 HB4.out (Nat.le_refl _) (.string fs) (.int .i64 fv) (.slice A4 k c4))
    obtain ⟨⟨p0, p1, p2⟩, p3, p4, p5⟩ := HZ4.out
    clear g0 g1 g2 hO4 hb4 hlt4 hsl HZ3 HB3 HOw x0 x1 x2
    go_wp2_with fail
    obtain ⟨W2, hW2⟩ : ∃ W2, W2 = ((w4.setCell ⟨w.heap.size, 0, none⟩ (.string fs)).setCell ⟨w.heap.size, 1, none⟩ (.int .i64 fv)).setCell ⟨w.heap.size, 2, none⟩ (.slice A4 k c4) := ⟨_, rfl⟩
    rw [← hW2] at HF HSl G0 G1 G2 ⊢
    have g0 := G0.out
    have g1 := G1.out
    have g2 := G2.out
    clear hW2 p0 p1 p2 p3 p4 p5
    exact bodyPost_ret (v := .tuple #[.agg #[.string fs, .int .i64 fv, .slice A4 k c4], .bool true]) (by simp [results, Tryz.results61, go_sem, g0, g1, g2]) rfl ⟨A4, c4, ret_v (by rw [HFi.out, ← HK.out]), (by rw [HFi.out]; exact HSl.out), (by rw [HFi.out]; exact HFine.out), HF.out⟩
end Go.Proofs.YtbmdkibmfkmjoaaGreat.Rg

namespace Go.Proofs.YtbmdkibmfkmjoaaGreat.Ex
open Go.RowKit Go.Proofs.YtbmdkibmfkmjoaaGreat.BM Go.Proofs.YtbmdkibmfkmjoaaGreat.VaM Go.Proofs.YtbmdkibmfkmjoaaGreat.ExM Go.Proofs.YtbmdkibmfkmjoaaGreat.EvM

theorem kval_may {k : Int} (h0 : 0 ≤ k) (h4 : k < 4) : VaM.May (kval k) ∧ Rng (kval k) := by
  refine ⟨?_, ⟨(by decide : (-9223372036854775808 : Int) ≤ 0), (by decide : (0 : Int) ≤ 9223372036854775807)⟩⟩
  have hw : k = 0 ∨ k = 1 ∨ k = 2 ∨ k = 3 := by omega
  rcases hw with rfl | rfl | rfl | rfl <;> decide

/-- The kinds' values. -/
def kvs (s : ScM.Sc) : List V := s.f.map fun f => kval f.k

theorem kvs_may {s : ScM.Sc} (h : ScM.May s) : ∀ x ∈ kvs s, VaM.May x ∧ Rng x := by
  intro x hx
  obtain ⟨f, hf, rfl⟩ := List.mem_map.1 hx
  obtain ⟨i, hi, rfl⟩ := List.getElem_of_mem hf
  have h1 := (h.2.2.2.2 i hi).1
  rw [List.getD_eq_getElem?_getD, List.getElem?_eq_getElem hi] at h1
  exact kval_may h1.2.1 h1.2.2

theorem kvs_take {s : ScM.Sc} {j : Nat} (h : j < s.f.length) : (kvs s).take (j + 1) = (kvs s).take j ++ [kval (s.f.getD j ScM.d0).k] := by
  unfold kvs
  rw [← List.map_take, ← List.map_take, List.take_add_one, List.getElem?_eq_getElem h, List.map_append, List.getD_eq_getElem?_getD, List.getElem?_eq_getElem h]
  rfl
end Go.Proofs.YtbmdkibmfkmjoaaGreat.Ex

namespace Go.Proofs.YtbmdkibmfkmjoaaGreat.Ex
open Go.RowKit Go.Proofs.YtbmdkibmfkmjoaaGreat.BM Go.Proofs.YtbmdkibmfkmjoaaGreat.LM Go.Proofs.YtbmdkibmfkmjoaaGreat.VaM Go.Proofs.YtbmdkibmfkmjoaaGreat.Va Go.Proofs.YtbmdkibmfkmjoaaGreat.ExM Go.Proofs.YtbmdkibmfkmjoaaGreat.EvM
open Go.Proofs.YtbmdkibmfkmjoaaGreat.Sc (grown_set grown_trans)

/-- A thing's own cell. -/
def encT (v : V) : List Value := [th v]
theorem th_one (v : V) : (th v).oneCell' = true := by
  unfold th
  split
  · rfl
  · split
    · rfl
    · split <;> rfl
theorem th_is (v : V) : ∃ T u, th v = .iface T u := by
  unfold th
  split
  · exact ⟨_, _, rfl⟩
  · split
    · exact ⟨_, _, rfl⟩
    · split <;> exact ⟨_, _, rfl⟩
/-- How a thing lies. -/
def KT : RG.Kind V := RG.flat 1 encT (fun _ => rfl) (fun v u hu => by
  obtain rfl := List.mem_singleton.1 hu
  exact th_one v)

theorem tyT : RG.Ty 128 132 1 16 .nilIface :=
  ⟨by kernel_rfl, by kernel_rfl, by kernel_rfl, fun _ => by kernel_rfl, rfl, by decide, by decide⟩

/-- Things: a row of the call's own, of values that may be. -/
def Things (base : Nat) (p : List V) (u : Value) (w : World) : Prop := w.ownsRow base 132 1 u p.length (p.flatMap encT) ∧ ∀ x ∈ p, VaM.May x ∧ Rng x

theorem things_nil (base : Nat) (w : World) : Things base [] (.slice none 0 0) w := ⟨World.ownsRow_nil _ _ _ _, fun x hx => by cases hx⟩
theorem Things.kept {base : Nat} {p : List V} {u : Value} {w w' : World} (h : Things base p u w) (hb : Below w.heap.size w w') : Things base p u w' :=
  ⟨h.1.kept (row := none) ⟨hb.os, hb.tape, hb.output, hb.size, fun k hk _ => hb.block k hk⟩ (by cases u.ownBlock <;> simp), h.2⟩
theorem Things.grown {base b : Nat} {p : List V} {u : Value} {w w' : World} (h : Things base p u w) (hg : w.grownBy w' (some b)) (hb : b < base) : Things base p u w' :=
  ⟨h.1.kept hg (Or.inr (fun e => by have := (h.1.lt _ e).1; omega)), h.2⟩
theorem Things.is {base : Nat} {p : List V} {u : Value} {w : World} (h : Things base p u w) : ∃ A c, u = .slice A p.length c := RG.own_is h.1

theorem flatT_len : ∀ l : List V, (l.flatMap encT).length = l.length
  | [] => rfl
  | x :: l => by rw [List.flatMap_cons, List.length_append, flatT_len l, List.length_cons]; simp only [encT, List.length_cons, List.length_nil]; omega
theorem flatT_map : ∀ l : List V, l.flatMap encT = l.map th
  | [] => rfl
  | x :: l => by rw [List.flatMap_cons, flatT_map l]; rfl

theorem Things.cut {base : Nat} {p : List V} {A : Option Addr} {c : Nat} {w : World} (h : Things base p (.slice A p.length c) w) (k : Nat) (hk : k ≤ p.length) : k ≤ c ∧ Things base (p.take k) (.slice A k c) w := by
  have hlen : (p.take k).length = k := by rw [List.length_take, Nat.min_eq_left hk]
  rcases h.1.2 with ⟨hv, h0⟩ | ⟨g, cap, cur, hv, hg, hh, hcap, hmx, hs, ht⟩
  · injection hv with h1 h2 h3
    subst h1 h3
    obtain rfl : k = 0 := by omega
    exact ⟨Nat.le_refl _, things_nil _ _⟩
  · injection hv with h1 h2 h3
    subst h1 h3
    refine ⟨by omega, ⟨⟨by rw [flatT_len, Nat.mul_one], ?_⟩, fun x hx => h.2 x (List.mem_of_mem_take hx)⟩⟩
    rw [hlen]
    refine Or.inr ⟨g, c, cur, rfl, hg, hh, by omega, hmx, hs, ?_⟩
    rw [flatT_map] at ht
    rw [flatT_map, List.map_take, ← ht, List.take_take, Nat.min_eq_left (by omega), Nat.mul_one]

/-- The i-th of them. -/
theorem Things.at {base : Nat} {p : List V} {A : Option Addr} {c : Nat} {w : World} (h : Things base p (.slice A p.length c) w) (i : Nat) (hi : i < p.length) :
    ∃ g, base ≤ g ∧ (∀ W, (Instr.indexAt 128 (.slice A p.length c) (.int .i64 (i : Int))).run Tryz.prog W = .ok (.pointer (some ⟨g, i, none⟩)) W) ∧ w.cell? ⟨g, i, none⟩ = some (th (p.getD i v0)) := by
  rcases h.1.2 with ⟨_, h0⟩ | ⟨g, cap, cur, hv, hg, _⟩
  · omega
  · injection hv with h1 h2 h3
    subst h1 h3
    refine ⟨g, hg, fun W => ?_, ?_⟩
    · have := tyT.index W g 0 p.length c i hi
      rw [Nat.zero_add, Nat.mul_one] at this
      exact this
    · rw [h.1.cellAt i (by omega), flatT_map, List.getElem?_map, List.getD_eq_getElem?_getD, List.getElem?_eq_getElem hi]
      rfl

/-- A new thing in a block of its own. -/
theorem thing_new (w : World) (x : V) : RG.SlG KT (fun _ => True) (w.alloc (.cells #[th x] 132)) (some ⟨w.heap.size, 0, none⟩) [x] 1 := by
  obtain ⟨h1, h2⟩ := RG.elem_new (K := KT) (p := fun _ => True) w 132 x (encT x) rfl
  exact ⟨⟨_, h1, h2⟩, Nat.le_refl _, (fun h => by cases h), by decide⟩

/-- append of things onto a row of the call's own. -/
theorem wp_append_t {w : World} {ops : Array Oper} {rest : List Oper} {o : Oper} {a : Act} {Q : Exit → Act → World → Prop} (hgd : o.guard = none) (s x : Operand)
    (ho : o.op = .call { callee := .builtin .append, args := #[s, x], argTypes := #[128, 128] })
    (base : Nat) (v : Value) (n : Nat) (l : List V) (hs : a.eval s = v) (hown : w.ownsRow base 132 1 v n (l.flatMap encT))
    (A : Option Addr) (m c : Nat) (r : List V) (hx : a.eval x = .slice A m c) (hm : r.length = m) (hB : RG.SlG KT (fun _ => True) w A r c)
    (hsz : n + m ≤ 1000000000) (hbase : base ≤ w.heap.size)
    (hk : ∀ v' w', w'.ownsRow base 132 1 v' (n + m) ((l ++ r).flatMap encT) → w.grownBy w' v.ownBlock → wpList Tryz.prog ops Q rest (a.put o.dst v') w') : wpList Tryz.prog ops Q (o :: rest) a w := by
  obtain ⟨⟨vs, h1, h2⟩, _, h3, _⟩ := hB
  have hv : ∀ (l : List V) (vs : List Value), RG.Elems KT (fun _ => True) w l vs → vs = l.flatMap encT := by
    intro l
    induction l with
    | nil => intro vs h; exact h
    | cons x l ih =>
      rintro vs ⟨cs, rest, rfl, hc, hr⟩
      rw [ih rest hr, show cs = encT x from hc]
      rfl
  have hE : ∀ (q : Nat → Prop) (l : List V), RG.Elems KT q w l (l.flatMap encT) := by
    intro q l
    induction l with
    | nil => rfl
    | cons x l ih => exact ⟨encT x, l.flatMap encT, rfl, rfl, ih⟩
  obtain rfl := hv r vs h2
  refine tyT.wp_append (K := KT) (fun _ => True) hgd s x ho base v n (l.flatMap encT) l hs hown (hE _ l) A m c (r.flatMap encT) r hx hm h1 (hE _ r) h3 hsz hbase fun v' w' g1 _ g3 => hk v' w' ?_ g3
  rw [List.flatMap_append]
  exact g1

/-- The pile, its block, and the values that a Load finds. -/
structure Held (b : Nat) (vs : List V) (L : Option Addr) (vc : Nat) (kb : Bool) (p : List V) (w : World) : Prop where
  box : ∃ A c, Bx w b (.slice A p.length c) (.slice L vs.length vc) (.bool kb) ∧ Things (b + 1) p (.slice A p.length c) w
  vals : ∀ W, Below b w W → SlV W L vs vc

section
variable {b vc : Nat} {vs p : List V} {L : Option Addr} {kb : Bool} {w w' : World}
theorem Held.lt (h : Held b vs L vc kb p w) : b < w.heap.size := by
  obtain ⟨A, c, hB, _⟩ := h.box
  exact hB.lt
theorem Held.kept (h : Held b vs L vc kb p w) (hb : Below w.heap.size w w') : Held b vs L vc kb p w' := by
  have hlt := h.lt
  obtain ⟨A, c, hB, hT⟩ := h.box
  exact ⟨⟨A, c, hB.kept hb, hT.kept hb⟩, fun W hW => h.vals W ((hb.mono (by omega)).trans hW)⟩

theorem below_of_grown (h : w.grownBy w' (some b)) (hb : b ≤ w.heap.size) : Below b w w' := (Below.refl b w).grown h hb (fun k e => by injection e with e; omega)
theorem grown_of_below {r : Option Nat} (h : Below w.heap.size w w') : w.grownBy w' r := ⟨h.os, h.tape, h.output, h.size, fun k hk _ => h.block k hk⟩
theorem bxG {g : Nat} {v0 v1 v2 : Value} (h : Bx w g v0 v1 v2) (hg : w.grownBy w' (some b)) (hne : g ≠ b) : Bx w' g v0 v1 v2 := h.grown hg (fun e => hne (by injection e))
end
end Go.Proofs.YtbmdkibmfkmjoaaGreat.Ex

namespace Go.Proofs.YtbmdkibmfkmjoaaGreat.Ex
open Go.RowKit Go.Proofs.YtbmdkibmfkmjoaaGreat.BM Go.Proofs.YtbmdkibmfkmjoaaGreat.LM Go.Proofs.YtbmdkibmfkmjoaaGreat.VaM Go.Proofs.YtbmdkibmfkmjoaaGreat.Va Go.Proofs.YtbmdkibmfkmjoaaGreat.ExM Go.Proofs.YtbmdkibmfkmjoaaGreat.EvM
open Go.Proofs.YtbmdkibmfkmjoaaGreat.Sc (grown_set grown_trans)

section
variable {b vc : Nat} {vs p : List V} {L : Option Addr} {kb : Bool} {w : World}

set_option maxRecDepth 100000 in
theorem take_none (h : Held b vs L vc kb [] w) : Calls Tryz.prog 128 #[.pointer (some ⟨b, 0, none⟩)] w fun e w' => e = .returned (.tuple #[.nilIface, .bool false]) ∧ w = w' := by
  obtain ⟨A, c, hB, _⟩ := h.box
  rw [List.length_nil] at hB
  obtain ⟨⟨p0, p1, p2⟩, _⟩ := hB
  clear h
  go_enter Tryz.func128, Tryz.ntmps128
  go_wp2_with fail
  go_ret2
  exact ⟨rfl, rfl⟩

set_option maxRecDepth 100000 in
theorem take_some (h : Held b vs L vc kb p w) (hp : 0 < p.length) (hn : p.length ≤ 1000) : Calls Tryz.prog 128 #[.pointer (some ⟨b, 0, none⟩)] w fun e w' =>
    e = .returned (.tuple #[th (p.getD (p.length - 1) v0), .bool true]) ∧ Held b vs L vc kb (p.take (p.length - 1)) w' ∧ w.grownBy w' (some b) := by
  have hlt := h.lt
  obtain ⟨A, c, hB, hT⟩ := h.box
  obtain ⟨g, hg, hix, hc⟩ := hT.at (p.length - 1) (by omega)
  obtain ⟨hkc, hT2⟩ := hT.cut (p.length - 1) (by omega)
  have hcut := fun W => tyT.cut W A p.length c (p.length - 1) hkc
  have hlen : (p.take (p.length - 1)).length = p.length - 1 := by rw [List.length_take]; omega
  have hset := grown_set w b 0 (.slice A (p.length - 1) c)
  have hH : Held b vs L vc kb (p.take (p.length - 1)) (w.setCell ⟨b, 0, none⟩ (.slice A (p.length - 1) c)) :=
    ⟨⟨A, c, by rw [hlen]; exact bx_set0 hB _, by rw [hlen]; exact hT2.grown hset (Nat.lt_succ_self _)⟩, fun W hW => h.vals W ((below_of_grown hset (by omega)).trans hW)⟩
  obtain ⟨x, hx⟩ : ∃ x, x = th (p.getD (p.length - 1) v0) := ⟨_, rfl⟩
  obtain ⟨q, hq⟩ : ∃ q, q = p.take (p.length - 1) := ⟨_, rfl⟩
  rw [← hx] at hc ⊢
  rw [← hq] at hH ⊢
  obtain ⟨n, hn'⟩ : ∃ n, n = p.length := ⟨_, rfl⟩
  simp only [← hn'] at hB hix hcut hp hset hH hc hn
  obtain ⟨⟨p0, p1, p2⟩, p3, _⟩ := hB
  have HH := Lib.hid hH
  have HS := Lib.hid hset
  have g1 : decide ((n : Int) - 1 < 0) = false := by rw [decide_eq_false_iff_not]; omega
  rw [show ((n - 1 : Nat) : Int) = (n : Int) - 1 from by omega] at hix hcut
  clear h hT hT2 hx hq hlen hH hset hkc hlt hn'
  go_enter Tryz.func128, Tryz.ntmps128
  go_wp2_with fail
  go_ret2
  exact ⟨rfl, HH.out, HS.out⟩

set_option maxRecDepth 100000 in
theorem load_any (h : Held b vs L vc kb p w) (hv : ∀ x ∈ vs, VaM.May x ∧ Rng x) (n : Int) (h0 : 0 ≤ n) (h6 : n ≤ 1000) : Calls Tryz.prog 126 #[.pointer (some ⟨b, 0, none⟩), .int .i64 n] w fun e w' =>
    e = .returned (laid (if n.toNat < vs.length then (vs.getD n.toNat v0, 0) else (v0, 3))) ∧ Below w.heap.size w w' := by
  obtain ⟨k, rfl⟩ := Int.eq_ofNat_of_zero_le h0
  rw [Int.toNat_natCast]
  have hlt := h.lt
  have hS := h.vals w (Below.refl _ _)
  obtain ⟨A, c, hB, hT⟩ := h.box
  have hbig := slV_len hS
  by_cases hk : k < vs.length
  · obtain ⟨b1, q1, hix, hc, _⟩ := hS.at v0 k hk
    have hof := fun W => thingOf_any (vs.getD k v0) W (hv _ (EvM.getD_mem hk)).1
    rw [if_pos hk, laid_ok]
    obtain ⟨x, hx⟩ : ∃ x, x = th (vs.getD k v0) := ⟨_, rfl⟩
    simp only [← hx] at hof
    rw [← hx]
    obtain ⟨c0, c1, c2⟩ := hc w (Below.refl _ _)
    obtain ⟨⟨vk, vn, vz⟩, hvv⟩ : ∃ v, v = vs.getD k v0 := ⟨_, rfl⟩
    rw [← hvv] at c0 c1 c2
    simp only [← hvv] at hof
    simp only at c0 c1 c2
    have HOf := Lib.hid hof
    have hi := fun W => hix W vs.length vc hk
    obtain ⟨n, hn⟩ : ∃ n, n = vs.length := ⟨_, rfl⟩
    simp only [← hn] at hB hi hbig hk
    obtain ⟨⟨p0, p1, p2⟩, _⟩ := hB
    have g1 : decide ((n : Int) ≤ (k : Int)) = false := by rw [decide_eq_false_iff_not]; omega
    have g2 : decide (n ≤ k) = false := by rw [decide_eq_false_iff_not]; omega
    clear h hT hS hix hc hx hof hvv hn hv
    go_enter Tryz.func126, Tryz.ntmps126
    go_wp2_with fail
    refine (HOf.out _).mono ?_
    rintro e w1 ⟨rfl, hb1⟩
    go_wp2_with fail
    go_ret2
    exact ⟨rfl, hb1⟩
  · rw [if_neg hk, laid_no _ (by decide)]
    obtain ⟨n, hn⟩ : ∃ n, n = vs.length := ⟨_, rfl⟩
    rw [← hn] at hB hbig hk
    obtain ⟨⟨p0, p1, p2⟩, _⟩ := hB
    have g1 : decide ((n : Int) ≤ (k : Int)) = true := by rw [decide_eq_true_iff]; omega
    have g2 : decide (n ≤ k) = true := by rw [decide_eq_true_iff]; omega
    clear h hT hS hn hv
    go_enter Tryz.func126, Tryz.ntmps126
    go_wp2_with fail
    go_ret2
    exact ⟨rfl, Below.refl _ _⟩

set_option maxRecDepth 100000 in
theorem not_none (h : Held b vs L vc kb [] w) : Calls Tryz.prog 127 #[.pointer (some ⟨b, 0, none⟩)] w fun e w' => e = .returned (laid (v0, 2)) ∧ w = w' := by
  rw [laid_no _ (by decide)]
  have HT := Lib.hid (take_none h)
  clear h
  go_enter Tryz.func127, Tryz.ntmps127
  go_wp2_with fail
  refine HT.out.mono ?_
  rintro e w1 ⟨rfl, rfl⟩
  go_wp2_with fail
  go_ret2
  exact ⟨rfl, rfl⟩

set_option maxRecDepth 100000 in
theorem not_some (h : Held b vs L vc kb p w) (hp : 0 < p.length) (hn : p.length ≤ 1000) : Calls Tryz.prog 127 #[.pointer (some ⟨b, 0, none⟩)] w fun e w' =>
    e = .returned (laid (if (p.getD (p.length - 1) v0).k ≠ 1 then (v0, 5) else (truth (decide ((p.getD (p.length - 1) v0).n = 0)), 0))) ∧ Held b vs L vc kb (p.take (p.length - 1)) w' ∧ w.grownBy w' (some b) := by
  have HT := Lib.hid (take_some h hp hn)
  have hm : VaM.May (p.getD (p.length - 1) v0) := by
    obtain ⟨A, c, _, hT⟩ := h.box
    exact (hT.2 _ (EvM.getD_mem (l := p) (i := p.length - 1) (by omega))).1
  obtain ⟨q, hq⟩ : ∃ q, q = p.take (p.length - 1) := ⟨_, rfl⟩
  rw [← hq] at HT ⊢
  obtain ⟨x, hx⟩ : ∃ x, x = p.getD (p.length - 1) v0 := ⟨_, rfl⟩
  rw [← hx] at HT hm ⊢
  clear h hx hq hp hn
  rcases may_ways hm with ⟨n, rfl⟩ | ⟨x, rfl⟩ | ⟨s, rfl⟩ | ⟨n, rfl⟩
  · rw [if_pos (show (0 : Int) ≠ 1 by decide), laid_no _ (by decide)]
    rw [th_0] at HT
    have z0 := as_0_1
    clear hm
    go_enter Tryz.func127, Tryz.ntmps127
    go_wp2_with fail
    refine HT.out.mono ?_
    rintro e w1 ⟨rfl, hh, hg⟩
    go_wp2_with fail
    go_ret2
    exact ⟨rfl, hh, hg⟩
  · rw [if_neg (show ¬ (truth x).k ≠ 1 from fun h => h rfl), laid_ok, th_1]
    rw [th_1] at HT
    have z0 := as_1_1
    clear hm
    cases x
    all_goals
      go_enter Tryz.func127, Tryz.ntmps127
      go_wp2_with fail
      refine HT.out.mono ?_
      rintro e w1 ⟨rfl, hh, hg⟩
      go_wp2_with fail
      go_ret2
      exact ⟨rfl, hh, hg⟩
  · rw [if_pos (show (2 : Int) ≠ 1 by decide), laid_no _ (by decide)]
    rw [th_2] at HT
    have z0 := as_2_1
    clear hm
    go_enter Tryz.func127, Tryz.ntmps127
    go_wp2_with fail
    refine HT.out.mono ?_
    rintro e w1 ⟨rfl, hh, hg⟩
    go_wp2_with fail
    go_ret2
    exact ⟨rfl, hh, hg⟩
  · rw [if_pos (show (3 : Int) ≠ 1 by decide), laid_no _ (by decide)]
    rw [th_3] at HT
    have z0 := as_3_1
    clear hm
    go_enter Tryz.func127, Tryz.ntmps127
    go_wp2_with fail
    refine HT.out.mono ?_
    rintro e w1 ⟨rfl, hh, hg⟩
    go_wp2_with fail
    go_ret2
    exact ⟨rfl, hh, hg⟩
end
end Go.Proofs.YtbmdkibmfkmjoaaGreat.Ex

namespace Go.Proofs.YtbmdkibmfkmjoaaGreat.Ex
open Go.RowKit Go.Proofs.YtbmdkibmfkmjoaaGreat.BM Go.Proofs.YtbmdkibmfkmjoaaGreat.LM Go.Proofs.YtbmdkibmfkmjoaaGreat.VaM Go.Proofs.YtbmdkibmfkmjoaaGreat.Va Go.Proofs.YtbmdkibmfkmjoaaGreat.ExM Go.Proofs.YtbmdkibmfkmjoaaGreat.EvM

set_option maxRecDepth 100000 in
set_option maxHeartbeats 8000000 in
theorem reckon_any (c : Int) (a b : V) (g : Nat) (u L : Value) (kb : Bool) (w : World) (hB : Bx w g u L (.bool kb)) (ha : VaM.May a) (hb : VaM.May b) (hra : Rng a) (hrb : Rng b) (hc : c = 2 ∨ c = 3 ∨ c = 4) :
    Calls Tryz.prog 132 #[.pointer (some ⟨g, 0, none⟩), .int .i64 c, th a, th b] w fun e w' => e = .returned (laid (twoW kb c a b)) ∧ Below w.heap.size w w' := by
  have hno : (a.k = 0 ∧ b.k = 0) ∨ twoW kb c a b = (v0, 5) := by
    have key : (a.k = 0 ∧ b.k = 0) ∨ two c a b = (v0, 5) := by
      by_cases h : a.k = b.k
      · by_cases h1 : a.k = 0
        · exact Or.inl ⟨h1, by omega⟩
        · exact Or.inr (two_n h (by omega) (by omega) (by omega) (by omega) h1)
      · exact Or.inr (two_k h)
    rcases key with h | h
    · exact Or.inl h
    · exact Or.inr (by rw [twoW_ok (by rw [h]; show ¬ (5 : Int) = 6; decide), h])
  obtain ⟨⟨p0, p1, p2⟩, _⟩ := hB
  rcases may_ways ha with ⟨n, rfl⟩ | ⟨x, rfl⟩ | ⟨s, rfl⟩ | ⟨n, rfl⟩
  · have z0 := as_0_0
    rcases may_ways hb with ⟨m, rfl⟩ | ⟨y, rfl⟩ | ⟨t, rfl⟩ | ⟨m, rfl⟩
    · have HR := Lib.hid (reckoned_any c n m w hra hrb hc)
      have hw : twoW kb c ⟨0, n, e0⟩ ⟨0, m, e0⟩ = if fits (arith c n m) = true ∨ kb = true then (⟨0, wrap64 (arith c n m), e0⟩, 0) else (v0, 6) := by
        unfold twoW
        rw [two_ar (a := ⟨0, n, e0⟩) (b := ⟨0, m, e0⟩) rfl (by omega) (by omega) (by omega) (by omega) rfl]
        by_cases hf : fits (arith c n m) = true
        · simp only [hf, if_true, true_or]
          rw [wrap_in (fits_iff.1 hf), if_neg (fun h => absurd h.2 (by decide))]
        · simp only [hf]
          cases kb <;> simp
      obtain ⟨R, hR⟩ : ∃ R, R = twoW kb c ⟨0, n, e0⟩ ⟨0, m, e0⟩ := ⟨_, rfl⟩
      rw [← hR]
      rw [← hR] at hw
      rw [th_0, th_0]
      unfold Reck at HR
      obtain ⟨z, hz⟩ : ∃ z, z = fits (arith c n m) := ⟨_, rfl⟩
      obtain ⟨N, hN⟩ : ∃ N, N = wrap64 (arith c n m) := ⟨_, rfl⟩
      rw [← hz, ← hN] at HR hw
      have HW := Lib.hid hw
      clear ha hb hc hno hra hrb hR hw hz hN
      cases z <;> cases kb
      all_goals
        go_enter Tryz.func132, Tryz.ntmps132
        go_wp2_with fail
        refine HR.out.mono ?_
        rintro e w1 ⟨rfl, rfl⟩
        go_wp2_with fail
        go_ret2
        exact ⟨ret_v (by rw [HW.out]; rfl), Below.refl _ _⟩
    · rw [th_0, th_1, show twoW kb c ⟨0, n, e0⟩ (truth y) = (v0, 5) from hno.resolve_left (fun h => absurd h.2 (show ¬ (1 : Int) = 0 by decide)), laid_no _ (by decide)]
      have z1 := as_1_0
      clear ha hb hc hno hra hrb
      go_enter Tryz.func132, Tryz.ntmps132
      go_wp2_with fail
      go_ret2
      exact ⟨rfl, Below.refl _ _⟩
    · rw [th_0, th_2, show twoW kb c ⟨0, n, e0⟩ (⟨2, 0, t⟩) = (v0, 5) from hno.resolve_left (fun h => absurd h.2 (show ¬ (2 : Int) = 0 by decide)), laid_no _ (by decide)]
      have z1 := as_2_0
      clear ha hb hc hno hra hrb
      go_enter Tryz.func132, Tryz.ntmps132
      go_wp2_with fail
      go_ret2
      exact ⟨rfl, Below.refl _ _⟩
    · rw [th_0, th_3, show twoW kb c ⟨0, n, e0⟩ (⟨3, m, e0⟩) = (v0, 5) from hno.resolve_left (fun h => absurd h.2 (show ¬ (3 : Int) = 0 by decide)), laid_no _ (by decide)]
      have z1 := as_3_0
      clear ha hb hc hno hra hrb
      go_enter Tryz.func132, Tryz.ntmps132
      go_wp2_with fail
      go_ret2
      exact ⟨rfl, Below.refl _ _⟩
  · rw [th_1, show twoW kb c (truth x) b = (v0, 5) from hno.resolve_left (fun h => absurd h.1 (show ¬ (1 : Int) = 0 by decide)), laid_no _ (by decide)]
    have z0 := as_1_0
    rcases may_ways hb with ⟨m, rfl⟩ | ⟨y, rfl⟩ | ⟨t, rfl⟩ | ⟨m, rfl⟩
    · rw [th_0]
      have z1 := as_0_0
      clear ha hb hc hno hra hrb
      go_enter Tryz.func132, Tryz.ntmps132
      go_wp2_with fail
      go_ret2
      exact ⟨rfl, Below.refl _ _⟩
    · rw [th_1]
      have z1 := as_1_0
      clear ha hb hc hno hra hrb
      go_enter Tryz.func132, Tryz.ntmps132
      go_wp2_with fail
      go_ret2
      exact ⟨rfl, Below.refl _ _⟩
    · rw [th_2]
      have z1 := as_2_0
      clear ha hb hc hno hra hrb
      go_enter Tryz.func132, Tryz.ntmps132
      go_wp2_with fail
      go_ret2
      exact ⟨rfl, Below.refl _ _⟩
    · rw [th_3]
      have z1 := as_3_0
      clear ha hb hc hno hra hrb
      go_enter Tryz.func132, Tryz.ntmps132
      go_wp2_with fail
      go_ret2
      exact ⟨rfl, Below.refl _ _⟩
  · rw [th_2, show twoW kb c (⟨2, 0, s⟩) b = (v0, 5) from hno.resolve_left (fun h => absurd h.1 (show ¬ (2 : Int) = 0 by decide)), laid_no _ (by decide)]
    have z0 := as_2_0
    rcases may_ways hb with ⟨m, rfl⟩ | ⟨y, rfl⟩ | ⟨t, rfl⟩ | ⟨m, rfl⟩
    · rw [th_0]
      have z1 := as_0_0
      clear ha hb hc hno hra hrb
      go_enter Tryz.func132, Tryz.ntmps132
      go_wp2_with fail
      go_ret2
      exact ⟨rfl, Below.refl _ _⟩
    · rw [th_1]
      have z1 := as_1_0
      clear ha hb hc hno hra hrb
      go_enter Tryz.func132, Tryz.ntmps132
      go_wp2_with fail
      go_ret2
      exact ⟨rfl, Below.refl _ _⟩
    · rw [th_2]
      have z1 := as_2_0
      clear ha hb hc hno hra hrb
      go_enter Tryz.func132, Tryz.ntmps132
      go_wp2_with fail
      go_ret2
      exact ⟨rfl, Below.refl _ _⟩
    · rw [th_3]
      have z1 := as_3_0
      clear ha hb hc hno hra hrb
      go_enter Tryz.func132, Tryz.ntmps132
      go_wp2_with fail
      go_ret2
      exact ⟨rfl, Below.refl _ _⟩
  · rw [th_3, show twoW kb c (⟨3, n, e0⟩) b = (v0, 5) from hno.resolve_left (fun h => absurd h.1 (show ¬ (3 : Int) = 0 by decide)), laid_no _ (by decide)]
    have z0 := as_3_0
    rcases may_ways hb with ⟨m, rfl⟩ | ⟨y, rfl⟩ | ⟨t, rfl⟩ | ⟨m, rfl⟩
    · rw [th_0]
      have z1 := as_0_0
      clear ha hb hc hno hra hrb
      go_enter Tryz.func132, Tryz.ntmps132
      go_wp2_with fail
      go_ret2
      exact ⟨rfl, Below.refl _ _⟩
    · rw [th_1]
      have z1 := as_1_0
      clear ha hb hc hno hra hrb
      go_enter Tryz.func132, Tryz.ntmps132
      go_wp2_with fail
      go_ret2
      exact ⟨rfl, Below.refl _ _⟩
    · rw [th_2]
      have z1 := as_2_0
      clear ha hb hc hno hra hrb
      go_enter Tryz.func132, Tryz.ntmps132
      go_wp2_with fail
      go_ret2
      exact ⟨rfl, Below.refl _ _⟩
    · rw [th_3]
      have z1 := as_3_0
      clear ha hb hc hno hra hrb
      go_enter Tryz.func132, Tryz.ntmps132
      go_wp2_with fail
      go_ret2
      exact ⟨rfl, Below.refl _ _⟩
end Go.Proofs.YtbmdkibmfkmjoaaGreat.Ex

namespace Go.Proofs.YtbmdkibmfkmjoaaGreat.Ex
open Go.RowKit Go.Proofs.YtbmdkibmfkmjoaaGreat.BM Go.Proofs.YtbmdkibmfkmjoaaGreat.LM Go.Proofs.YtbmdkibmfkmjoaaGreat.VaM Go.Proofs.YtbmdkibmfkmjoaaGreat.Va Go.Proofs.YtbmdkibmfkmjoaaGreat.ExM Go.Proofs.YtbmdkibmfkmjoaaGreat.EvM

theorem laid_is (r : V × Int) : ∃ x, laid r = .tuple #[x, .int .i64 r.2] := ⟨_, rfl⟩

theorem twoW_hi {kb : Bool} {c : Int} {a b : V} (h : c = 5 ∨ c = 6 ∨ c = 7 ∨ c = 8) : twoW kb c a b = two c a b := twoW_ok (fun h6 => by
  obtain ⟨_, _, h5, h6, h7, h8⟩ := two_6k h6
  omega)

section
variable {b vc : Nat} {vs p : List V} {L : Option Addr} {kb : Bool} {w : World}

set_option maxRecDepth 100000 in
theorem ofBoth_any (h : Held b vs L vc kb p w) (c : Int) (x y : V) (hx : VaM.May x) (hy : VaM.May y) (hrx : Rng x) (hry : Rng y) (hc : 2 ≤ c ∧ c ≤ 8) :
    Calls Tryz.prog 129 #[.pointer (some ⟨b, 0, none⟩), .int .i64 c, th x, th y] w fun e w' => e = .returned (laid (twoW kb c x y)) ∧ Below w.heap.size w w' := by
  obtain ⟨A, d, hB, _⟩ := h.box
  have hre := fun g => reckon_any c x y b _ _ kb w hB hx hy hrx hry g
  have hle := fun g : c = 5 => twoW_hi (kb := kb) (a := x) (b := y) (Or.inl g)
  have hal := fun g : c = 6 => twoW_hi (kb := kb) (a := x) (b := y) (Or.inr (Or.inl g))
  have hju := fun g : c = 7 ∨ c = 8 => twoW_hi (kb := kb) (a := x) (b := y) (Or.inr (Or.inr g))
  have hL := less_own x y w hx hy
  have hA := alike_any x y w hx hy
  have hJ := fun g => judge_any c x y w hx hy g
  clear h hB hx hy hrx hry
  have hway : c = 2 ∨ c = 3 ∨ c = 4 ∨ c = 5 ∨ c = 6 ∨ c = 7 ∨ c = 8 := by omega
  obtain ⟨tx, htx⟩ : ∃ t, t = th x := ⟨_, rfl⟩
  obtain ⟨ty, hty⟩ : ∃ t, t = th y := ⟨_, rfl⟩
  simp only [← htx, ← hty] at hre hL hA hJ
  rw [← htx, ← hty]
  clear htx hty hc
  obtain ⟨R, hR⟩ : ∃ R, R = twoW kb c x y := ⟨_, rfl⟩
  have hf : ∃ C : Calls Tryz.prog (if c = 5 then 133 else if c = 6 then 134 else if c = 7 ∨ c = 8 then 135 else 132) (if c = 5 ∨ c = 6 then #[tx, ty] else if c = 7 ∨ c = 8 then #[.int .i64 c, tx, ty] else #[.pointer (some ⟨b, 0, none⟩), .int .i64 c, tx, ty]) w fun e w' => e = .returned (laid R) ∧ Below w.heap.size w w', True := by
    rcases hway with rfl | rfl | rfl | rfl | rfl | rfl | rfl
    · exact ⟨by rw [hR]; exact hre (Or.inl rfl), trivial⟩
    · exact ⟨by rw [hR]; exact hre (Or.inr (Or.inl rfl)), trivial⟩
    · exact ⟨by rw [hR]; exact hre (Or.inr (Or.inr rfl)), trivial⟩
    · exact ⟨by rw [hR, hle rfl]; exact hL, trivial⟩
    · exact ⟨by rw [hR, hal rfl]; exact hA, trivial⟩
    · exact ⟨by rw [hR, hju (Or.inl rfl)]; exact hJ (Or.inl rfl), trivial⟩
    · exact ⟨by rw [hR, hju (Or.inr rfl)]; exact hJ (Or.inr rfl), trivial⟩
  obtain ⟨hf, _⟩ := hf
  rw [← hR]
  obtain ⟨X, hX⟩ := laid_is R
  rw [hX]
  rw [hX] at hf
  clear hre hle hal hju hL hA hJ hR hX
  obtain ⟨r0, r⟩ := R
  simp only at hf ⊢
  rcases hway with rfl | rfl | rfl | rfl | rfl | rfl | rfl
  all_goals
    have HF := Lib.hid hf
    clear hf
    go_enter Tryz.func129, Tryz.ntmps129
    go_wp2_with fail
    refine HF.out.mono ?_
    rintro e w1 ⟨rfl, hb1⟩
    go_wp2_with fail
    go_ret2
    exact ⟨rfl, hb1⟩
end
end Go.Proofs.YtbmdkibmfkmjoaaGreat.Ex

namespace Go.Proofs.YtbmdkibmfkmjoaaGreat.Ex
open Go.RowKit Go.Proofs.YtbmdkibmfkmjoaaGreat.BM Go.Proofs.YtbmdkibmfkmjoaaGreat.LM Go.Proofs.YtbmdkibmfkmjoaaGreat.VaM Go.Proofs.YtbmdkibmfkmjoaaGreat.Va Go.Proofs.YtbmdkibmfkmjoaaGreat.ExM Go.Proofs.YtbmdkibmfkmjoaaGreat.EvM
open Go.Proofs.YtbmdkibmfkmjoaaGreat.Sc (grown_set grown_trans)

section
variable {b vc : Nat} {vs p : List V} {L : Option Addr} {kb : Bool} {w : World}

theorem held_may (h : Held b vs L vc kb p w) {i : Nat} (hi : i < p.length) : VaM.May (p.getD i v0) ∧ Rng (p.getD i v0) := by
  obtain ⟨A, c, _, hT⟩ := h.box
  exact hT.2 _ (EvM.getD_mem (l := p) (i := i) hi)

/-- What comesOf answers. -/
def Comes (b : Nat) (vs : List V) (L : Option Addr) (vc : Nat) (kb : Bool) (w : World) (r : List V × V × Int) (e : Ending) (w' : World) : Prop := e = .returned (laid r.2) ∧ (r.2.2 = 0 → Held b vs L vc kb r.1 w') ∧ w.grownBy w' (some b)

set_option maxRecDepth 100000 in
theorem comes_push (h : Held b vs L vc kb p w) (k a : Int) (v : V) (hk : k = 0) (hv : VaM.May v) : Calls Tryz.prog 115 #[.pointer (some ⟨b, 0, none⟩), agO ⟨k, a, v⟩] w (Comes b vs L vc kb w (p, v, 0)) := by
  subst hk
  have HT := Lib.hid (fun W => thingOf_any v W hv)
  obtain ⟨x, hx⟩ : ∃ x, x = th v := ⟨_, rfl⟩
  unfold Comes
  simp only [laid_ok]
  rw [← hx] at HT ⊢
  obtain ⟨q0, q1, q2, q3, q4⟩ := (bxO_new w ⟨0, a, v⟩).cells
  have ha := (Below.refl w.heap.size w).alloc (Nat.le_refl _) (.cells #[.int .i64 0, .int .i64 a, .int .i64 v.k, .int .i64 v.n, .string v.s] 80)
  have HB := Lib.hid ha
  have HH := Lib.hid h
  obtain ⟨vk, vn, vz⟩ := v
  simp only at q0 q1 q2 q3 q4 HT HB
  unfold agO
  clear h hv hx ha
  simp only
  go_enter Tryz.func115, Tryz.ntmps115
  go_wp2_with fail
  refine (HT.out _).mono ?_
  rintro e w1 ⟨rfl, hb1⟩
  go_wp2_with fail
  go_ret2
  have hb := bt HB.out hb1
  exact ⟨rfl, fun _ => HH.out.kept hb, grown_of_below hb⟩

set_option maxRecDepth 100000 in
theorem comes_load (h : Held b vs L vc kb p w) (hvs : ∀ x ∈ vs, VaM.May x ∧ Rng x) (k a : Int) (v : V) (hk : k = 1) (h0 : 0 ≤ a) (h6 : a ≤ 1000) :
    Calls Tryz.prog 115 #[.pointer (some ⟨b, 0, none⟩), agO ⟨k, a, v⟩] w (Comes b vs L vc kb w (if a.toNat < vs.length then (p, vs.getD a.toNat v0, 0) else (p, v0, 3))) := by
  subst hk
  have ha := (Below.refl w.heap.size w).alloc (Nat.le_refl _) (.cells #[.int .i64 1, .int .i64 a, .int .i64 v.k, .int .i64 v.n, .string v.s] 80)
  have hl := load_any (h.kept ha) hvs a h0 h6
  have he : (if a.toNat < vs.length then (p, vs.getD a.toNat v0, 0) else (p, v0, 3)) = (p, if a.toNat < vs.length then (vs.getD a.toNat v0, (0 : Int)) else (v0, 3)) := by split <;> rfl
  rw [he]
  obtain ⟨R, hR⟩ : ∃ R, R = (if a.toNat < vs.length then (vs.getD a.toNat v0, (0 : Int)) else (v0, 3)) := ⟨_, rfl⟩
  rw [← hR] at hl ⊢
  obtain ⟨X, hX⟩ := laid_is R
  unfold Comes
  simp only [hX]
  rw [hX] at hl
  obtain ⟨r0, r⟩ := R
  simp only at hl ⊢
  have HL := Lib.hid hl
  obtain ⟨q0, q1, q2, q3, q4⟩ := (bxO_new w ⟨1, a, v⟩).cells
  have HB := Lib.hid ha
  have HH := Lib.hid h
  obtain ⟨vk, vn, vz⟩ := v
  simp only at q0 q1 q2 q3 q4 HB HL
  unfold agO
  clear h hvs ha hl he hX hR
  simp only
  go_enter Tryz.func115, Tryz.ntmps115
  go_wp2_with fail
  refine HL.out.mono ?_
  rintro e w1 ⟨rfl, hb1⟩
  go_wp2_with fail
  go_ret2
  have hb := bt HB.out hb1
  exact ⟨rfl, fun _ => HH.out.kept hb, grown_of_below hb⟩

set_option maxRecDepth 100000 in
theorem comes_not (h : Held b vs L vc kb p w) (hn : p.length ≤ 1000) (k a : Int) (v : V) (hk : k = 9) :
    Calls Tryz.prog 115 #[.pointer (some ⟨b, 0, none⟩), agO ⟨k, a, v⟩] w (Comes b vs L vc kb w (if p.length < 1 then (p, v0, 2) else if (p.getD (p.length - 1) v0).k ≠ 1 then (p.take (p.length - 1), v0, 5) else (p.take (p.length - 1), truth (decide ((p.getD (p.length - 1) v0).n = 0)), 0))) := by
  subst hk
  have ha := (Below.refl w.heap.size w).alloc (Nat.le_refl _) (.cells #[.int .i64 9, .int .i64 a, .int .i64 v.k, .int .i64 v.n, .string v.s] 80)
  have HB := Lib.hid ha
  obtain ⟨q0, q1, q2, q3, q4⟩ := (bxO_new w ⟨9, a, v⟩).cells
  by_cases hp : p.length < 1
  · rw [if_pos hp]
    obtain rfl : p = [] := List.length_eq_zero_iff.1 (by omega)
    have HN := Lib.hid (not_none (h.kept ha))
    unfold Comes
    simp only
    rw [laid_no _ (by decide)] at HN ⊢
    obtain ⟨vk, vn, vz⟩ := v
    simp only at q0 q1 q2 q3 q4 HB HN
    unfold agO
    clear h ha hn hp
    simp only
    go_enter Tryz.func115, Tryz.ntmps115
    go_wp2_with fail
    refine HN.out.mono ?_
    rintro e w1 ⟨rfl, rfl⟩
    go_wp2_with fail
    go_ret2
    exact ⟨rfl, fun h => absurd h (by decide), grown_of_below HB.out⟩
  · rw [if_neg hp]
    have hl := not_some (h.kept ha) (by omega) hn
    have he : (if (p.getD (p.length - 1) v0).k ≠ 1 then (p.take (p.length - 1), v0, 5) else (p.take (p.length - 1), truth (decide ((p.getD (p.length - 1) v0).n = 0)), 0)) = (p.take (p.length - 1), if (p.getD (p.length - 1) v0).k ≠ 1 then (v0, (5 : Int)) else (truth (decide ((p.getD (p.length - 1) v0).n = 0)), 0)) := by split <;> rfl
    rw [he]
    obtain ⟨R, hR⟩ : ∃ R, R = (if (p.getD (p.length - 1) v0).k ≠ 1 then (v0, (5 : Int)) else (truth (decide ((p.getD (p.length - 1) v0).n = 0)), 0)) := ⟨_, rfl⟩
    rw [← hR] at hl ⊢
    obtain ⟨X, hX⟩ := laid_is R
    unfold Comes
    simp only [hX]
    rw [hX] at hl
    obtain ⟨r0, r⟩ := R
    simp only at hl ⊢
    obtain ⟨q, hq⟩ : ∃ q, q = p.take (p.length - 1) := ⟨_, rfl⟩
    rw [← hq] at hl ⊢
    have HL := Lib.hid hl
    obtain ⟨vk, vn, vz⟩ := v
    simp only at q0 q1 q2 q3 q4 HB HL
    unfold agO
    clear h ha hl he hX hR hn hp hq
    simp only
    go_enter Tryz.func115, Tryz.ntmps115
    go_wp2_with fail
    refine HL.out.mono ?_
    rintro e w1 ⟨rfl, hh, hg⟩
    go_wp2_with fail
    go_ret2
    exact ⟨rfl, fun _ => hh, grown_trans (grown_of_below HB.out) hg⟩

set_option maxRecDepth 100000 in
theorem comes_two (h : Held b vs L vc kb p w) (hn : p.length ≤ 1000) (k a : Int) (v : V) (hk : 2 ≤ k ∧ k ≤ 8) :
    Calls Tryz.prog 115 #[.pointer (some ⟨b, 0, none⟩), agO ⟨k, a, v⟩] w (Comes b vs L vc kb w (if p.length < 2 then (p, v0, 2) else (p.take (p.length - 2), twoW kb k (p.getD (p.length - 2) v0) (p.getD (p.length - 1) v0)))) := by
  have ha := (Below.refl w.heap.size w).alloc (Nat.le_refl _) (.cells #[.int .i64 k, .int .i64 a, .int .i64 v.k, .int .i64 v.n, .string v.s] 80)
  have HB := Lib.hid ha
  have hX := bxO_new w ⟨k, a, v⟩
  obtain ⟨q0, q1, q2, q3, q4⟩ := hX.cells
  have HX := Lib.hid hX
  have hH := h.kept ha
  have hlt := h.lt
  have g0 : (k == 0) = false := by simpa using (show k ≠ 0 by omega)
  have g1 : (k == 1) = false := by simpa using (show k ≠ 1 by omega)
  have g9 : (k == 9) = false := by simpa using (show k ≠ 9 by omega)
  by_cases hp0 : p.length = 0
  · rw [if_pos (by omega)]
    obtain rfl : p = [] := List.length_eq_zero_iff.1 hp0
    have HN := Lib.hid (take_none hH)
    unfold Comes
    simp only
    rw [laid_no _ (by decide)]
    obtain ⟨vk, vn, vz⟩ := v
    simp only at q0 q1 q2 q3 q4 HB HN
    unfold agO
    clear h ha hn hp0 hX HX hH
    simp only
    go_enter Tryz.func115, Tryz.ntmps115
    go_wp2_with fail
    refine HN.out.mono ?_
    rintro e w1 ⟨rfl, rfl⟩
    go_wp2_with fail
    refine HN.out.mono ?_
    rintro e w1 ⟨rfl, rfl⟩
    go_wp2_with fail
    go_ret2
    exact ⟨rfl, fun h => absurd h (by decide), grown_of_below HB.out⟩
  · have HT := Lib.hid (take_some hH (by omega) hn)
    have hmx := held_may h (i := p.length - 1) (by omega)
    have hlq : (p.take (p.length - 1)).length = p.length - 1 := by rw [List.length_take]; omega
    by_cases hp1 : p.length = 1
    · rw [if_pos (by omega)]
      have he : p.take (p.length - 1) = [] := by rw [hp1]; rfl
      rw [he] at HT
      obtain ⟨x, hx⟩ : ∃ x, x = th (p.getD (p.length - 1) v0) := ⟨_, rfl⟩
      rw [← hx] at HT
      unfold Comes
      simp only
      rw [laid_no _ (by decide)]
      obtain ⟨vk, vn, vz⟩ := v
      simp only at q0 q1 q2 q3 q4 HB HT
      unfold agO
      clear h ha hn hp0 hX HX hH hmx hlq hp1 he hx
      simp only
      go_enter Tryz.func115, Tryz.ntmps115
      go_wp2_with fail
      refine HT.out.mono ?_
      rintro e w1 ⟨rfl, hh, hg⟩
      have HG := Lib.hid (grown_trans (grown_of_below HB.out) hg)
      have HN := Lib.hid (take_none hh)
      clear hh hg q0 q1 q2 q3 q4
      go_wp2_with fail
      refine HN.out.mono ?_
      rintro e w2 ⟨rfl, rfl⟩
      go_wp2_with fail
      go_ret2
      exact ⟨rfl, fun h => absurd h (by decide), HG.out⟩
    · rw [if_neg (by omega)]
      have hmy := held_may h (i := p.length - 2) (by omega)
      have hgq : (p.take (p.length - 1)).getD (p.length - 1 - 1) v0 = p.getD (p.length - 2) v0 := by
        rw [List.getD_eq_getElem?_getD, List.getD_eq_getElem?_getD, List.getElem?_take, if_pos (by omega), show p.length - 1 - 1 = p.length - 2 from by omega]
      have htq : (p.take (p.length - 1)).take (p.length - 1 - 1) = p.take (p.length - 2) := by rw [List.take_take]; congr 1; omega
      have HT2 := Lib.hid (fun W (hh : Held b vs L vc kb (p.take (p.length - 1)) W) => by
        have := take_some hh (by omega) (by omega)
        rw [hlq, hgq, htq] at this
        exact this)
      obtain ⟨q, hq⟩ : ∃ q, q = p.take (p.length - 1) := ⟨_, rfl⟩
      obtain ⟨q2', hq2⟩ : ∃ q, q = p.take (p.length - 2) := ⟨_, rfl⟩
      obtain ⟨y, hy⟩ : ∃ x, x = p.getD (p.length - 1) v0 := ⟨_, rfl⟩
      obtain ⟨x, hx⟩ : ∃ x, x = p.getD (p.length - 2) v0 := ⟨_, rfl⟩
      rw [← hq, ← hy] at HT
      rw [← hq, ← hq2, ← hx] at HT2
      rw [← hy] at hmx
      rw [← hx] at hmy
      rw [← hq2, ← hx, ← hy]
      have HOf := Lib.hid (fun W (hh : Held b vs L vc kb q2' W) => ofBoth_any hh k x y hmy.1 hmx.1 hmy.2 hmx.2 hk)
      obtain ⟨R, hR⟩ : ∃ R, R = twoW kb k x y := ⟨_, rfl⟩
      rw [← hR] at HOf ⊢
      obtain ⟨X, hXl⟩ := laid_is R
      unfold Comes
      simp only [hXl]
      rw [hXl] at HOf
      obtain ⟨r0, r⟩ := R
      simp only at HOf ⊢
      obtain ⟨tx, htx⟩ : ∃ t, t = th x := ⟨_, rfl⟩
      obtain ⟨ty, hty⟩ : ∃ t, t = th y := ⟨_, rfl⟩
      rw [← hty] at HT
      rw [← htx] at HT2
      rw [← htx, ← hty] at HOf
      obtain ⟨vk, vn, vz⟩ := v
      simp only at q0 q1 q2 q3 q4 HB HT HX
      unfold agO
      clear h ha hn hp0 hX hH hmx hmy hlq hp1 hgq htq hq hq2 hx hy hR hXl htx hty
      simp only
      go_enter Tryz.func115, Tryz.ntmps115
      go_wp2_with fail
      refine HT.out.mono ?_
      rintro e w1 ⟨rfl, hh, hg⟩
      have HG := Lib.hid (grown_trans (grown_of_below HB.out) hg)
      have hx1 := RG.BxN.grown HX.out hg (fun e => by injection e with e; omega)
      have HX1 := Lib.hid hx1
      have HN := Lib.hid (HT2.out w1 hh)
      clear hh hg q0 q1 q2 q3 q4 hx1 HT2 HX HT HB
      go_wp2_with fail
      refine HN.out.mono ?_
      rintro e w2 ⟨rfl, hh, hg⟩
      have HG2 := Lib.hid (grown_trans HG.out hg)
      have hx1 := RG.BxN.grown HX1.out hg (fun e => by injection e with e; omega)
      obtain ⟨q0, q1, q2, q3, q4⟩ := (show BxO w2 w.heap.size ⟨k, a, ⟨vk, vn, vz⟩⟩ from hx1).cells
      simp only at q0 q1 q2 q3 q4
      have HO := Lib.hid (HOf.out w2 hh)
      have HH := Lib.hid hh
      clear hh hg hx1 HX1 HN HG HOf
      go_wp2_with fail
      refine HO.out.mono ?_
      rintro e w3 ⟨rfl, hb3⟩
      go_wp2_with fail
      go_ret2
      exact ⟨rfl, fun _ => HH.out.kept hb3, grown_trans HG2.out (grown_of_below hb3)⟩

/-- What a part lays on the pile. -/
theorem comes_any (h : Held b vs L vc kb p w) (hvs : ∀ x ∈ vs, VaM.May x ∧ Rng x) (hn : p.length ≤ 1000) (o : O) (ho : Ok o) : Calls Tryz.prog 115 #[.pointer (some ⟨b, 0, none⟩), agO o] w (Comes b vs L vc kb w (goes vs kb o p)) := by
  obtain ⟨c, a, v⟩ := o
  obtain ⟨h1, h2, h3, h4, _, h6, _⟩ := ho
  simp only at h1 h2 h3 h4 h6
  unfold goes
  simp only
  by_cases c0 : c = 0
  · rw [if_pos c0]
    exact comes_push h c a v c0 h6
  · rw [if_neg c0]
    by_cases c1 : c = 1
    · rw [if_pos c1]
      exact comes_load h hvs c a v c1 h3 (by omega)
    · rw [if_neg c1]
      by_cases c9 : c = 9
      · rw [if_pos c9]
        exact comes_not h hn c a v c9
      · rw [if_neg c9]
        exact comes_two h hn c a v (by omega)
end
end Go.Proofs.YtbmdkibmfkmjoaaGreat.Ex

namespace Go.Proofs.YtbmdkibmfkmjoaaGreat.Ex
open Go.RowKit Go.Proofs.YtbmdkibmfkmjoaaGreat.BM Go.Proofs.YtbmdkibmfkmjoaaGreat.LM Go.Proofs.YtbmdkibmfkmjoaaGreat.VaM Go.Proofs.YtbmdkibmfkmjoaaGreat.Va Go.Proofs.YtbmdkibmfkmjoaaGreat.ExM Go.Proofs.YtbmdkibmfkmjoaaGreat.EvM
open Go.Proofs.YtbmdkibmfkmjoaaGreat.Sc (grown_set grown_trans)

/-- What the loop carries. -/
structure Go8 (b : Nat) (vs : List V) (L : Option Addr) (vc : Nat) (kb : Bool) (l : List O) (R : V × Int) (w : World) (j : Nat) (p : List V) (wr : World) : Prop where
  few : p.length ≤ j
  held : Held b vs L vc kb p wr
  run : runW vs kb (l.drop j) p = R
  bel : Below b w wr

set_option maxRecDepth 100000 in
set_option maxHeartbeats 8000000 in
theorem through_own {b vc : Nat} {vs : List V} {L : Option Addr} {kb : Bool} {w : World} (h : Held b vs L vc kb [] w) (hvs : ∀ x ∈ vs, VaM.May x ∧ Rng x) (l : List O) (B : Option Addr) (d : Nat) (hO : ∀ W, Below b w W → SlO W B l d) (hom : ∀ x ∈ l, Ok x) (hlen : l.length ≤ 12) :
    Calls Tryz.prog 106 #[.pointer (some ⟨b, 0, none⟩), .slice B l.length d] w fun e w' => e = .returned (laid (runW vs kb l [])) ∧ Below b w w' := by
  have hcm := fun (j : Nat) (hj : j < l.length) (p : List V) (hp : p.length ≤ 1000) W (hW : Held b vs L vc kb p W) => comes_any hW hvs hp _ (hom _ (ExM.getD_mem (l := l) (i := j) hj))
  have hmy := fun (j : Nat) (hj : j < l.length) (p : List V) => goes_may (wr := kb) (p := p) hvs ⟨(hom _ (ExM.getD_mem (l := l) (i := j) hj)).2.2.2.2.2.1, (hO w (Below.refl _ _)).rngs _ (ExM.getD_mem (l := l) (i := j) hj)⟩
  have hdr := fun (j : Nat) (hj : j < l.length) (p : List V) => runW_drop vs kb l j p hj
  have hat := fun (j : Nat) (hj : j < l.length) W (hW : Below b w W) => (hO W hW).at j hj
  have hgl := fun (o : O) (p : List V) => @goes_len vs kb o p
  have hend : ∀ p, runW vs kb (l.drop l.length) p = if p.length = 1 then (p.getD 0 v0, 0) else (v0, 2) := fun p => by rw [List.drop_length, runW]
  obtain ⟨R, hR⟩ : ∃ R, R = runW vs kb l [] := ⟨_, rfl⟩
  have hst : Go8 b vs L vc kb l R w 0 [] w := ⟨Nat.le_refl _, h, by rw [hR]; rfl, Below.refl _ _⟩
  rw [← hR]
  obtain ⟨n, hn⟩ : ∃ n, n = l.length := ⟨_, rfl⟩
  simp only [← hn] at hcm hmy hdr hat hend hlen
  rw [← hn]
  have HCm := Lib.hid hcm
  have HMy := Lib.hid hmy
  have HDr := Lib.hid hdr
  have HAt := Lib.hid hat
  have HGl := Lib.hid hgl
  have HEnd := Lib.hid hend
  have HSt := Lib.hid hst
  clear hcm hmy hdr hat hgl hend hst hR hn h hvs hO hom
  go_enter Tryz.func106, Tryz.ntmps106
  go_wp2_with fail
  go_loopw [12] (fun i wr => ∃ (j : Nat) (p : List V), i = .int .i64 j ∧ j ≤ n ∧ Go8 b vs L vc kb l R w j p wr) (fun i _ => n - (intOf i).toNat)
  case atStart => exact ⟨0, [], rfl, Nat.zero_le _, HSt.out⟩
  case round =>
    obtain ⟨j, p, rfl, hj, hst⟩ := hrel
    have hfew := hst.few
    have HHd := Lib.hid hst.held
    have HRun := Lib.hid hst.run
    have HBl := Lib.hid hst.bel
    clear hst HSt
    by_cases hjn : j < n
    · obtain ⟨b1, q1, hix, hc, _⟩ := HAt.out j hjn wr HBl.out
      obtain ⟨c0, c1, c2, c3, c4⟩ := hc wr (Below.refl _ _)
      have hi := fun W => hix W n d hjn
      have hX := bxO_new wr (l.getD j o0)
      obtain ⟨r0, r1, r2, r3, r4⟩ := hX.cells
      have ha := (Below.refl wr.heap.size wr).alloc (Nat.le_refl _) (.cells #[.int .i64 (l.getD j o0).c, .int .i64 (l.getD j o0).a, .int .i64 (l.getD j o0).v.k, .int .i64 (l.getD j o0).v.n, .string (l.getD j o0).v.s] 80)
      have hcm := HCm.out j hjn p (by omega) _ (HHd.out.kept ha)
      have hdr := HDr.out j hjn p
      have hmy := HMy.out j hjn p
      have hgl := HGl.out (l.getD j o0) p
      obtain ⟨G, hG⟩ : ∃ G, G = goes vs kb (l.getD j o0) p := ⟨_, rfl⟩
      rw [← hG] at hcm hdr hmy hgl
      rw [HRun.out] at hdr
      have hlb := HHd.out.lt
      have HBa := Lib.hid (HBl.out.trans (ha.mono (by omega)))
      unfold agO at hcm
      obtain ⟨⟨oc, oa, ⟨ok, on, os⟩⟩, ho⟩ : ∃ o, o = l.getD j o0 := ⟨_, rfl⟩
      rw [← ho] at c0 c1 c2 c3 c4 r0 r1 r2 r3 r4 hcm HBa
      simp only at c0 c1 c2 c3 c4 r0 r1 r2 r3 r4 hcm HBa
      obtain ⟨q, x, r⟩ := G
      simp only at hdr hmy hgl
      have HCo := Lib.hid hcm
      have HDj := Lib.hid hdr
      have HMx := Lib.hid hmy
      clear hix hc hX ha hcm hdr hmy ho hG HRun HHd HCm HMy HDr HAt HGl
      go_wp2_with fail
      refine HCo.out.mono ?_
      rintro e w3 ⟨rfl, hh3, hg3⟩
      have HB3 := Lib.hid (HBa.out.trans (below_of_grown hg3 (by simp; omega)))
      have HH3 := Lib.hid hh3
      clear hh3 hg3 HCo c0 c1 c2 c3 c4 r0 r1 r2 r3 r4 hi
      by_cases hr : r = 0
      · subst hr
        rw [laid_ok]
        have hdj := HDj.out
        rw [if_pos rfl] at hdj
        have HDk := Lib.hid hdj
        have hh3 := HH3.out rfl
        obtain ⟨A3, d3, hB3, hT3⟩ := hh3.box
        have hb3lt := hB3.lt
        have ha4 := (Below.refl w3.heap.size w3).alloc (Nat.le_refl _) (.cells #[th x] 132)
        have HT4 := Lib.hid (hT3.kept ha4)
        have HX4 := Lib.hid (hB3.kept ha4)
        have HB4 := Lib.hid (HB3.out.trans (ha4.mono (by omega)))
        have HN4 := Lib.hid (thing_new w3 x)
        have hV3 := hh3.vals
        have HV3 := Lib.hid hV3
        have hsz4 := ha4.size
        obtain ⟨tT, tx, htx⟩ := th_is x
        rw [htx] at HT4 HX4 HB4 HN4 hsz4 ha4 ⊢
        obtain ⟨qn, hqn⟩ : ∃ n, n = q.length := ⟨_, rfl⟩
        rw [← hqn] at hB3 HX4 HT4 hgl
        have HQn := Lib.hid hqn
        have HTx := Lib.hid htx
        have HA4 := Lib.hid ha4
        obtain ⟨⟨p0, p1, p2⟩, _⟩ := hB3
        have hT4 := HT4.out.1
        rw [← hqn] at hT4
        have HO4 := Lib.hid hT4
        clear hdj hh3 hT3 ha4 hV3 HH3 HDj hqn htx hT4
        go_wp2_with (at_builtin; refine wp_append_t rfl (.tmp 29) (.tmp 31) rfl (b + 1) _ qn q rfl HO4.out (some ⟨w3.heap.size, 0, none⟩) 1 1 [x] rfl rfl HN4.out (by omega) (by omega) ?_; intro u5 w5 hown5 hgrow5; refine pause ?_)
        have hne : ∀ k, k < b + 1 → some k ≠ (Value.slice A3 qn d3).ownBlock := fun k hk e => by have := (HO4.out.lt _ e.symm).1; omega
        have hx5 := HX4.out.grown hgrow5 (hne b (by omega))
        obtain ⟨A5, d5, rfl⟩ := RG.own_is hown5
        have HX5 := Lib.hid hx5
        have hx6 := bx_set0 hx5 (.slice A5 (qn + 1) d5)
        have hset := grown_set w5 b 0 (.slice A5 (qn + 1) d5)
        have hbl5 : Below b w w5 := HB4.out.grown hgrow5 (by omega) (fun k hk => by have := (HO4.out.lt k hk).1; omega)
        have hbl6 := hbl5.trans (below_of_grown hset (by have := hx5.lt; omega))
        have hql : (q ++ [x]).length = qn + 1 := by rw [List.length_append, HQn.out]; rfl
        have hh6 : Held b vs L vc kb (q ++ [x]) (w5.setCell ⟨b, 0, none⟩ (.slice A5 (qn + 1) d5)) := by
          refine ⟨⟨A5, d5, by rw [hql]; exact hx6, ?_⟩, fun W hW => HV3.out W ?_⟩
          · rw [hql]
            refine Things.grown (w := w5) ⟨by rw [hql]; exact hown5, fun y hy => ?_⟩ hset (Nat.lt_succ_self _)
            rcases List.mem_append.1 hy with hy | hy
            · exact HT4.out.2 y hy
            · rw [List.mem_singleton.1 hy]
              exact HMx.out
          · exact (((HA4.out.mono (by omega : b ≤ w3.heap.size)).grown hgrow5 (by omega) (fun k hk => by have := (HO4.out.lt k hk).1; omega)).trans (below_of_grown hset (by have := hx5.lt; omega))).trans hW
        have HH6 := Lib.hid hh6
        have HB6 := Lib.hid hbl6
        obtain ⟨⟨p0, p1, p2⟩, p3, _⟩ := HX5.out
        clear hown5 hgrow5 hx5 hx6 hset hbl5 hbl6 hql hh6 hne
        unfold Pause
        go_wp2_with fail
        go_roundw
        case rel => exact ⟨j + 1, q ++ [x], by go_num, by omega, by rw [List.length_append, ← HQn.out]; simp only [List.length_cons, List.length_nil]; omega, HH6.out, HDk.out.symm, HB6.out⟩
        case measure => simp [intOf]; omega
      · have hr' : (r != 0) = true := by simpa using hr
        have hdj := HDj.out
        rw [if_neg hr] at hdj
        have HRe := Lib.hid (show laid R = .tuple #[.nilIface, .int .i64 r] from by rw [hdj, laid_no _ hr])
        rw [laid_no _ hr]
        clear hdj HDj hr
        go_wp2_with fail
        go_ret2
        exact ⟨ret_v (x := .tuple #[.nilIface, .int .i64 r]) (by rw [HRe.out]), HB3.out⟩
    · obtain rfl : j = n := by omega
      have hrun := HRun.out
      rw [HEnd.out] at hrun
      obtain ⟨A3, d3, hB3, hT3⟩ := HHd.out.box
      obtain ⟨m, hm⟩ : ∃ m, m = p.length := ⟨_, rfl⟩
      by_cases h1 : p.length = 1
      · rw [if_pos h1] at hrun
        obtain ⟨g, _, hix, hc⟩ := hT3.at 0 (by omega)
        rw [h1] at hB3 hix
        obtain ⟨x, hx⟩ : ∃ x, x = th (p.getD 0 v0) := ⟨_, rfl⟩
        have HRe := Lib.hid (show laid R = .tuple #[x, .int .i64 0] from by rw [← hrun, laid_ok, hx])
        rw [← hx] at hc
        have hi : ∀ W, (Instr.indexAt 128 (.slice A3 1 d3) (.int .i64 0)).run Tryz.prog W = .ok (.pointer (some ⟨g, 0, none⟩)) W := hix
        obtain ⟨⟨p0, p1, p2⟩, _⟩ := hB3
        clear hrun hT3 hx hm h1 hix HRun HHd
        go_wp2_with fail
        go_ret2
        exact ⟨ret_v (x := .tuple #[x, .int .i64 0]) (by rw [HRe.out]), HBl.out⟩
      · rw [if_neg h1] at hrun
        have HRe := Lib.hid (show laid R = .tuple #[.nilIface, .int .i64 2] from by rw [← hrun, laid_no _ (by decide)])
        rw [← hm] at hB3 h1
        have hm1 : ((m : Int) != 1) = true := by simp only [bne_iff_ne, ne_eq]; omega
        have hm2 : (m != 1) = true := by simp only [bne_iff_ne, ne_eq]; omega
        obtain ⟨⟨p0, p1, p2⟩, _⟩ := hB3
        clear hrun hT3 hm HRun HHd
        go_wp2_with fail
        go_ret2
        exact ⟨ret_v (x := .tuple #[.nilIface, .int .i64 2]) (by rw [HRe.out]), HBl.out⟩
end Go.Proofs.YtbmdkibmfkmjoaaGreat.Ex

namespace Go.Proofs.YtbmdkibmfkmjoaaGreat.ExM
open Go.RowKit Go.Proofs.YtbmdkibmfkmjoaaGreat.BM Go.Proofs.YtbmdkibmfkmjoaaGreat.VaM Go.Proofs.YtbmdkibmfkmjoaaGreat.EvM
open Go.Proofs.YtbmdkibmfkmjoaaGreat.Va (same same_iff)

theorem v0_good : VaM.May v0 ∧ Rng v0 := ⟨by decide, by decide, by decide⟩

theorem runW_may {vs : List V} {wr : Bool} (hv : ∀ x ∈ vs, VaM.May x ∧ Rng x) : ∀ (l : List O) (p : List V), (∀ o ∈ l, VaM.May o.v ∧ Rng o.v) → (∀ x ∈ p, VaM.May x ∧ Rng x) → VaM.May (runW vs wr l p).1 ∧ Rng (runW vs wr l p).1
  | [], p, _, hp => by
    rw [runW]
    split
    · rename_i h
      exact hp _ (EvM.getD_mem (l := p) (i := 0) (by omega))
    · exact v0_good
  | o :: l, p, hl, hp => by
    rw [runW]
    split
    · refine runW_may hv l _ (fun x hx => hl x (List.mem_cons_of_mem _ hx)) (fun x hx => ?_)
      rcases List.mem_append.1 hx with hx | hx
      · exact hp x (goes_mem x hx)
      · rw [List.mem_singleton.1 hx]
        exact goes_may hv (hl o (List.mem_cons_self ..))
    · exact v0_good

theorem eval_good {e : Ev} {l : List O} (hr : ∀ x ∈ e.v, Rng x) (hl : Rngs l) : VaM.May (eval e l).1 ∧ Rng (eval e l).1 ∧ ((eval e l).2 ≠ 0 → (eval e l).1 = v0) := by
  unfold eval
  by_cases h : ExM.May l ∧ EvM.May e
  · rw [if_neg (fun k => k h)]
    have hvm : ∀ x ∈ e.v, VaM.May x ∧ Rng x := fun x hx => ⟨h.2.vok hx, hr x hx⟩
    rw [← through_is]
    have hm := runW_may (wr := false) hvm l [] (fun o ho => ⟨(h.1.ok ho).2.2.2.2.2.1, hl o ho⟩) (fun x hx => by cases hx)
    exact ⟨hm.1, hm.2, runW_err _ _ _ _⟩
  · rw [if_pos h]
    exact ⟨by decide, ⟨by decide, by decide⟩, fun _ => rfl⟩

theorem holds_own {e : Ev} {l : List O} (hr : ∀ x ∈ e.v, Rng x) (hl : Rngs l) : holds e l = (decide (l.length = 0) || same (eval e l).1 (truth true)) := by
  obtain ⟨hm, _, he⟩ := eval_good hr hl
  have h0 : decide (l = []) = decide (l.length = 0) := by
    rw [Bool.eq_iff_iff, decide_eq_true_iff, decide_eq_true_iff, List.length_eq_zero_iff]
  unfold holds
  rw [h0]
  congr 1
  rw [Bool.eq_iff_iff, decide_eq_true_iff, same_iff]
  generalize eval e l = r at hm he
  obtain ⟨⟨k, n, s⟩, z⟩ := r
  simp only at hm he ⊢
  constructor
  · rintro ⟨h1, h2, h3⟩
    subst h2 h3
    rcases hm with ⟨h4, _⟩ | ⟨h4, _⟩
    · cases h4
    · obtain rfl : s = e0 := by
        cases s with
        | mk d => rw [show d = #[] from Array.eq_empty_of_size_eq_zero h4]; rfl
      rfl
  · intro h
    injection h with h1 h2 h3
    refine ⟨?_, h1, h2⟩
    by_cases hz : z = 0
    · exact hz
    · have h4 := he hz
      injection h4 with h5
      omega
end Go.Proofs.YtbmdkibmfkmjoaaGreat.ExM

namespace Go.Proofs.YtbmdkibmfkmjoaaGreat.Ex
open Go.RowKit Go.Proofs.YtbmdkibmfkmjoaaGreat.BM Go.Proofs.YtbmdkibmfkmjoaaGreat.VaM Go.Proofs.YtbmdkibmfkmjoaaGreat.Va Go.Proofs.YtbmdkibmfkmjoaaGreat.ExM Go.Proofs.YtbmdkibmfkmjoaaGreat.EvM
open Go.Proofs.YtbmdkibmfkmjoaaGreat.Sc (SlF slF_len)

/-- A value's kind. -/
theorem field_k (k n : Int) (s : ByteArray) (w : World) : (Instr.field 78 (.agg #[.int .i64 k, .int .i64 n, .string s]) 0).run Tryz.prog w = .ok (.int .i64 k) w := by kernel_rfl

/-- A new pile. -/
theorem held_new {vs : List V} {L : Option Addr} {vc : Nat} {w : World} (kb : Bool) (hV : SlV w L vs vc) : Held w.heap.size vs L vc kb [] (w.alloc (.cells #[.slice none 0 0, .slice L vs.length vc, .bool kb] 130)) :=
  ⟨⟨none, 0, bx_new_t w _ _ _ _, things_nil _ _⟩, fun _ hW => hV.kept (((Below.refl w.heap.size w).alloc (Nat.le_refl _) _).trans hW)⟩

set_option maxRecDepth 100000 in
set_option maxHeartbeats 4000000 in
theorem anyOf_any (s : ScM.Sc) (A : Option Addr) (c : Nat) (w : World) (hF : SlF w A s.f c) (hs : ScM.May s) :
    Calls Tryz.prog 105 #[.slice A s.f.length c] w fun e w' => ∃ K k, e = .returned (.slice K s.f.length k) ∧ SlV w' K (kvs s) k ∧ Below w.heap.size w w' := by
  have hfat := fun j (hj : j < s.f.length) => hF.at j hj
  have hkm := kvs_may hs
  have hkt := fun j => @kvs_take s j
  have hkl : (kvs s).length = s.f.length := by unfold kvs; rw [List.length_map]
  have h6 : s.f.length ≤ 6 := hs.2.2.2.1
  obtain ⟨KV', hKV⟩ : ∃ K, K = kvs s := ⟨_, rfl⟩
  rw [← hKV] at hkm hkl
  simp only [← hKV] at hkt
  rw [← hKV]
  obtain ⟨f, hf⟩ : ∃ f, f = s.f := ⟨_, rfl⟩
  simp only [← hf] at hfat hkt hkl h6
  rw [← hf]
  obtain ⟨n, hn⟩ : ∃ n, n = f.length := ⟨_, rfl⟩
  simp only [← hn] at hfat hkt hkl h6
  rw [← hn]
  have HFat := Lib.hid hfat
  have HKm := Lib.hid hkm
  have HKt := Lib.hid hkt
  have HKl := Lib.hid hkl
  obtain ⟨i0, hi0, hz0, hz1, hz2⟩ := info_parts tyV.info
  obtain ⟨w1, hmk, hown1, hg1⟩ := run_make_own (P := Tryz.prog) w w.heap.size 117 78 i0 _ 3 tyV.und hi0 hz0 hz1 .i64 .i64 n (by rw [hz2]; omega) (by unfold maxLen; omega) (Nat.le_refl _)
  have HB1 := Lib.hid ((Below.refl w.heap.size w).grown hg1 (Nat.le_refl _) (fun _ h => by cases h))
  obtain ⟨u1, hu1⟩ : ∃ u, u = (Value.slice (some ⟨w.heap.size, 0, none⟩) 0 n) := ⟨_, rfl⟩
  rw [← hu1] at hmk hown1
  have HP1 := Lib.hid (show Pile w.heap.size (KV'.take 0) u1 w1 from ⟨by rw [List.take_zero]; exact hown1, fun x hx => by rw [List.take_zero] at hx; cases hx⟩)
  clear hfat hkm hkt hkl hF hs hKV hf hn hi0 hz0 hz1 hz2 hown1 hg1 hu1
  go_enter Tryz.func105, Tryz.ntmps105
  go_wp2_with fail
  clear hmk
  go_loopw [3, 11] (fun u i wr => ∃ j : Nat, i = .int .i64 j ∧ j ≤ n ∧ Pile w.heap.size (KV'.take j) u wr ∧ Below w.heap.size w wr) (fun _ i _ => n - (intOf i).toNat)
  case atStart => exact ⟨0, rfl, Nat.zero_le _, HP1.out, HB1.out⟩
  case round =>
    obtain ⟨j, rfl, hj, hpile, hbel⟩ := hrel
    have HP := Lib.hid hpile
    have HBl := Lib.hid hbel
    clear hpile hbel
    by_cases hjn : j < n
    · obtain ⟨b, q, hix, hc, _⟩ := HFat.out j hjn
      have hkt := HKt.out j hjn
      obtain ⟨⟨fs, fk⟩, hf⟩ : ∃ e, e = f.getD j ScM.d0 := ⟨_, rfl⟩
      rw [← hf] at hc hkt
      obtain ⟨y0, y1⟩ := hc wr HBl.out
      simp only at y0 y1
      have hi := fun W => hix W n c hjn
      have HKj := Lib.hid hkt
      have HTl := Lib.hid (show (KV'.take j).length = j from by rw [List.length_take, HKl.out]; omega)
      have ha1 := (Below.refl wr.heap.size wr).alloc (Nat.le_refl _) (.cells #[.string fs, .int .i64 fk] 72)
      obtain ⟨⟨z0, z1⟩, _⟩ := bx2_new wr 72 (.string fs) (.int .i64 fk)
      obtain ⟨w2, hw2⟩ : ∃ w2, w2 = wr.alloc (.cells #[.string fs, .int .i64 fk] 72) := ⟨_, rfl⟩
      rw [← hw2] at ha1
      have ha2 := (Below.refl w2.heap.size w2).alloc (Nat.le_refl _) (.cells #[.int .i64 fk, .int .i64 0, .string ⟨#[]⟩] 78)
      have hn2 := one_new w2 (kval fk)
      have hp2 := HP.out.kept (bt ha1 ha2)
      have hb2 := bt HBl.out (bt ha1 ha2)
      rw [hw2] at hn2 hp2 hb2
      have hsz : (wr.alloc (.cells #[.string fs, .int .i64 fk] 72)).heap.size = wr.heap.size + 1 := by simp
      rw [hsz] at hn2
      have HN2 := Lib.hid hn2
      have HP2 := Lib.hid hp2
      have HB2 := Lib.hid hb2
      have hz2 := HB2.out.size
      have hp3 := HP2.out.1
      rw [HTl.out] at hp3
      have HPo := Lib.hid hp3
      clear hc hix hf hkt ha1 ha2 hp2 hp3 hn2 hb2 hsz hw2 w2
      go_wp2_with (at_builtin; refine wp_append_v rfl (.tmp 15) (.tmp 19) rfl w.heap.size _ j (KV'.take j) rfl HPo.out (some ⟨wr.heap.size + 1, 0, none⟩) 1 1 [kval fk] rfl rfl HN2.out (by omega) hz2 ?_; intro u4 w4 hown4 hgrow4; refine pause ?_)
      have HB4 := Lib.hid (HB2.out.grown hgrow4 hz2 (fun q hq => (HP2.out.1.lt q hq).1))
      rw [← HKj.out] at hown4
      have HP4 := Lib.hid (show Pile w.heap.size (KV'.take (j + 1)) u4 w4 from ⟨by rw [show (KV'.take (j + 1)).length = j + 1 from by rw [List.length_take, HKl.out]; omega]; exact hown4, fun y hy => HKm.out y (List.mem_of_mem_take hy)⟩)
      clear hown4 hgrow4
      unfold Pause
      go_wp2_with fail
      go_roundw
      case rel => exact ⟨j + 1, by go_num, by omega, HP4.out, HB4.out⟩
      case measure => simp [intOf]; omega
    · obtain rfl : j = n := by omega
      have hp := HP.out
      rw [show KV'.take j = KV' from by rw [← HKl.out]; exact List.take_length] at hp
      obtain ⟨K, k, rfl, hsl, _⟩ := hp.sl
      rw [HKl.out] at *
      have HSl := Lib.hid hsl
      clear hp hsl
      go_wp2_with fail
      go_ret
      exact ⟨K, k, rfl, HSl.out, HBl.out⟩

set_option maxRecDepth 100000 in
set_option maxHeartbeats 8000000 in
theorem Kind_any (s : ScM.Sc) (l : List O) (A : Option Addr) (c : Nat) (B : Option Addr) (d : Nat) (w : World) (hF : SlF w A s.f c) (hz : Sc.Fine s) (hO : SlO w B l d) :
    Calls Tryz.prog 90 #[.agg #[.string s.s, .int .i64 s.v, .slice A s.f.length c], .slice B l.length d] w fun e w' => e = .returned (.tuple #[.int .i64 (kind s l).1, .int .i64 (kind s l).2]) ∧ Below w.heap.size w w' := by
  have hml := fun W (h : Below w.heap.size w W) => may_own l B d W (hO.kept h)
  have hms := fun W (h : Below w.heap.size w W) => Sc.May_any s A c W (hF.kept h) hz
  have hao := fun W (h : Below w.heap.size w W) (g : ScM.May s) => anyOf_any s A c W (hF.kept h) g
  have hth := fun (g : ScM.May s ∧ ExM.May l) K k W (h : Below w.heap.size w W) (hk : SlV W K (kvs s) k) => through_own (held_new true hk) (kvs_may g.1) l B d (fun _ h' => hO.kept ((h.mono (Nat.le_refl _)).trans (((Below.refl w.heap.size W).alloc h.size _).trans (h'.mono h.size)))) (fun x hx => g.2.ok hx) g.2.2
  have hno : ¬ (ScM.May s ∧ ExM.May l) → kind s l = (0, 1) := fun h => by rw [kind, if_pos h]
  have hyes : (ScM.May s ∧ ExM.May l) → kind s l = ((runW (kvs s) true l []).1.k, (runW (kvs s) true l []).2) := fun h => by
    obtain ⟨h1, h2⟩ := through_kind (kvs s) l
    rw [kind, if_neg (fun k => k h), h1, h2]
    rfl
  have hrm : ScM.May s → ExM.May l → VaM.May (runW (kvs s) true l []).1 := fun g1 g2 => (runW_may (kvs_may g1) l [] (fun o ho => ⟨(g2.ok ho).2.2.2.2.2.1, hO.rngs o ho⟩) (fun x hx => by cases hx)).1
  have hre := runW_err (kvs s) true l []
  have hkl : (kvs s).length = s.f.length := by unfold kvs; rw [List.length_map]
  obtain ⟨⟨rk, re⟩, hR⟩ : ∃ R, R = kind s l := ⟨_, rfl⟩
  rw [← hR] at hno hyes ⊢
  obtain ⟨Y, hY⟩ : ∃ Y, Y = runW (kvs s) true l [] := ⟨_, rfl⟩
  rw [← hY] at hyes hrm hre
  simp only [← hY, hkl] at hth
  obtain ⟨KV', hKV⟩ : ∃ K, K = kvs s := ⟨_, rfl⟩
  simp only [← hKV] at hth hao
  clear hY hKV hR hkl
  obtain ⟨y, yr⟩ := Y
  simp only at hyes hrm hre
  obtain ⟨nm, v, f⟩ := s
  simp only at hms hao hth
  simp only
  obtain ⟨n, hn⟩ : ∃ n, n = f.length := ⟨_, rfl⟩
  obtain ⟨m, hm⟩ : ∃ n, n = l.length := ⟨_, rfl⟩
  simp only [← hn] at hms hao hth
  simp only [← hm] at hml hth
  rw [← hn, ← hm]
  have HMl := Lib.hid hml
  have HMs := Lib.hid hms
  have HAo := Lib.hid hao
  have HTh := Lib.hid hth
  have HNo := Lib.hid hno
  have HYes := Lib.hid hyes
  have HRm := Lib.hid hrm
  have HRe := Lib.hid hre
  have HX1 := Lib.hid (bx_new_t w 40 (.string nm) (.int .i64 v) (.slice A n c))
  have HB1 := Lib.hid ((Below.refl w.heap.size w).alloc (Nat.le_refl _) (.cells #[.string nm, .int .i64 v, .slice A n c] 40))
  clear hml hms hao hth hno hyes hrm hre hF hz hO hn hm
  obtain ⟨⟨p0, p1, p2⟩, _⟩ := HX1.out
  go_enter Tryz.func90, Tryz.ntmps90
  go_wp2_with fail
  obtain ⟨w1, hw1⟩ : ∃ w1, w1 = w.alloc (.cells #[.string nm, .int .i64 v, .slice A n c] 40) := ⟨_, rfl⟩
  rw [← hw1] at HX1 HB1 ⊢
  clear hw1 p0 p1 p2
  refine (HMs.out w1 HB1.out).mono ?_
  rintro e w2 ⟨rfl, hb2⟩
  have HB2 := Lib.hid (bt HB1.out hb2)
  have HX2 := Lib.hid (HX1.out.kept hb2)
  clear hb2 HB1 HX1 HMs
  by_cases hms : ScM.May ⟨nm, v, f⟩
  · rw [decide_eq_true hms]
    have HS := Lib.hid hms
    clear hms
    go_wp2_with fail
    refine (HMl.out w2 HB2.out).mono ?_
    rintro e w3 ⟨rfl, hb3⟩
    have HB3 := Lib.hid (bt HB2.out hb3)
    have HX3 := Lib.hid (HX2.out.kept hb3)
    clear hb3 HB2 HX2 HMl
    by_cases hml : ExM.May l
    · rw [decide_eq_true hml]
      have HTw := Lib.hid (HTh.out ⟨HS.out, hml⟩)
      have HY := Lib.hid (HYes.out ⟨HS.out, hml⟩)
      have HYm := Lib.hid (HRm.out HS.out hml)
      obtain ⟨⟨p0, p1, p2⟩, _⟩ := HX3.out
      clear hml HNo HYes HTh HRm
      go_wp2_with fail
      refine (HAo.out w3 HB3.out HS.out).mono ?_
      rintro e w4 ⟨K, k, rfl, hsl, hb4⟩
      have HB4 := Lib.hid (bt HB3.out hb4)
      have HC := Lib.hid (HTw.out K k w4 HB4.out hsl)
      have HB5 := Lib.hid (bt HB4.out ((Below.refl w4.heap.size w4).alloc (Nat.le_refl _) (.cells #[.slice none 0 0, .slice K n k, .bool true] 130)))
      have hsz := HB4.out.size
      clear hsl hb4 p0 p1 p2 HAo HTw
      go_wp2_with fail
      obtain ⟨w5, hw5⟩ : ∃ w5, w5 = w4.alloc (.cells #[.slice none 0 0, .slice K n k, .bool true] 130) := ⟨_, rfl⟩
      rw [← hw5] at HC HB5 ⊢
      clear hw5
      refine HC.out.mono ?_
      rintro e w6 ⟨rfl, hb6⟩
      have HB6 := Lib.hid (HB5.out.trans (hb6.mono hsz))
      clear hb6 HC HB5 HB4 HB3
      by_cases hyr : yr = 0
      · subst hyr
        rw [laid_ok]
        clear HRe
        rcases may_ways HYm.out with ⟨a, rfl⟩ | ⟨a, rfl⟩ | ⟨a, rfl⟩ | ⟨a, rfl⟩
        · rw [th_0]
          have z0 := meth_v0
          have z1 := field_k
          have HV := Lib.hid (value_number a)
          unfold ValueV at HV
          simp only at HV
          clear HYm
          go_wp2_with fail
          refine (HV.out _).mono ?_
          rintro e w7 ⟨rfl, hb7⟩
          have HB7 := Lib.hid (bt HB6.out hb7)
          clear hb7
          go_wp2_with fail
          go_ret2
          exact ⟨ret_v (x := .tuple #[.int .i64 0, .int .i64 0]) (by have h := HY.out; injection h with h1 h2; rw [h1, h2]), HB7.out⟩
        · rw [th_1]
          have z0 := meth_v1
          have z1 := field_k
          have HV := Lib.hid (value_truth a)
          unfold ValueV at HV
          clear HYm
          go_wp2_with fail
          refine (HV.out _).mono ?_
          rintro e w7 ⟨rfl, hb7⟩
          have HB7 := Lib.hid (bt HB6.out hb7)
          clear hb7
          go_wp2_with fail
          go_ret2
          exact ⟨ret_v (x := .tuple #[.int .i64 1, .int .i64 0]) (by have h := HY.out; injection h with h1 h2; rw [h1, h2]; rfl), HB7.out⟩
        · rw [th_2]
          have z0 := meth_v2
          have z1 := field_k
          have HV := Lib.hid (value_text a)
          unfold ValueV at HV
          simp only at HV
          clear HYm
          go_wp2_with fail
          refine (HV.out _).mono ?_
          rintro e w7 ⟨rfl, hb7⟩
          have HB7 := Lib.hid (bt HB6.out hb7)
          clear hb7
          go_wp2_with fail
          go_ret2
          exact ⟨ret_v (x := .tuple #[.int .i64 2, .int .i64 0]) (by have h := HY.out; injection h with h1 h2; rw [h1, h2]), HB7.out⟩
        · rw [th_3]
          have z0 := meth_v3
          have z1 := field_k
          have HV := Lib.hid (value_moment a)
          unfold ValueV at HV
          simp only at HV
          clear HYm
          go_wp2_with fail
          refine (HV.out _).mono ?_
          rintro e w7 ⟨rfl, hb7⟩
          have HB7 := Lib.hid (bt HB6.out hb7)
          clear hb7
          go_wp2_with fail
          go_ret2
          exact ⟨ret_v (x := .tuple #[.int .i64 3, .int .i64 0]) (by have h := HY.out; injection h with h1 h2; rw [h1, h2]), HB7.out⟩
      · rw [laid_no _ hyr]
        have g1 : (yr != 0) = true := by simpa using hyr
        have HY0 := Lib.hid (HRe.out hyr)
        clear hyr HRe
        go_wp2_with fail
        go_ret2
        exact ⟨ret_v (x := .tuple #[.int .i64 0, .int .i64 yr]) (by have h := HY.out; injection h with h1 h2; rw [h1, h2, HY0.out]; rfl), HB6.out⟩
    · rw [decide_eq_false hml]
      have HR := Lib.hid (HNo.out (fun h => hml h.2))
      clear hml
      go_wp2_with fail
      go_ret2
      exact ⟨ret_v (x := .tuple #[.int .i64 0, .int .i64 1]) (by have h := HR.out; injection h with h1 h2; rw [h1, h2]), HB3.out⟩
  · rw [decide_eq_false hms]
    have HR := Lib.hid (HNo.out (fun h => hms h.1))
    clear hms
    go_wp2_with fail
    go_ret2
    exact ⟨ret_v (x := .tuple #[.int .i64 0, .int .i64 1]) (by have h := HR.out; injection h with h1 h2; rw [h1, h2]), HB2.out⟩
end Go.Proofs.YtbmdkibmfkmjoaaGreat.Ex
