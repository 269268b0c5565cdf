/- Several texts in one: what this layer has; what each asks is said at each theorem. -/
import Derived.Test.YtochpomddfjkoaaChA
import Derived.Test.YtochpomddfjkoaaRegion
import Derived.Test.YtochpomddfjkoaaPredRow
import Derived.Test.YtochpomddfjkoaaStrCore
import Derived.Test.YtochpomddfjkoaaExprRefSame
import Derived.BigQuiet
import Derived.Test.YtochpomddfjkoaaOpRow
import Derived.Test.YtochpomddfjkoaaStepRow
import Derived.Test.YtochpomddfjkoaaEventMath
import Derived.Test.YtochpomddfjkoaaValueRow
import Derived.Test.YtochpomddfjkoaaBx
import Derived.Test.YtochpomddfjkoaaRows
import Derived.Lib.SmallJoins
import Derived.Deep.Slices
import Derived.ShutString
import Derived.OpenShut

namespace Go.Proofs.Ytochpomddfjkoaa.Ex
open Go.RowKit Go.Proofs.Ytochpomddfjkoaa.BM Go.Proofs.Ytochpomddfjkoaa.VaM Go.Proofs.Ytochpomddfjkoaa.Va Go.Proofs.Ytochpomddfjkoaa.ExM Go.Proofs.Ytochpomddfjkoaa.EvM

set_option maxRecDepth 100000 in
set_option maxHeartbeats 8000000 in
theorem Eval_any (e : Ev) (l : List O) (A : Option Addr) (c : Nat) (B : Option Addr) (d : Nat) (w : World) (hS : SlV w A e.v c) (hz : Ev.Fine e) (hO : SlO w B l d) :
    Calls Try.prog 34 #[.agg #[.string e.s, .int .i64 e.t, .slice A e.v.length c], .slice B l.length d] w (TwoV (eval e l) w) := by
  have hml := fun W (h : Below w.heap.size w W) => may_own l B d W (hO.kept h)
  have hme := fun W (h : Below w.heap.size w W) => Ev.May_any e A c W (hS.kept h) hz
  have hvm : EvM.May e → ∀ x ∈ e.v, VaM.May x ∧ Rng x := fun h x hx => ⟨h.vok hx, (hS.2 x hx).2⟩
  have hth := fun (g : ExM.May l ∧ EvM.May e) W (h : Below w.heap.size w W) => through_own (held_new false (hS.kept h)) (hvm g.2) l B d (fun _ h' => hO.kept (h.trans (((Below.refl w.heap.size W).alloc h.size _).trans (h'.mono h.size)))) (fun x hx => g.1.ok hx) g.1.2
  have hno : ¬ (ExM.May l ∧ EvM.May e) → eval e l = (v0, 1) := fun h => by rw [eval, if_pos h]
  have hyes : (ExM.May l ∧ EvM.May e) → runW e.v false l [] = eval e l := fun h => by rw [eval, if_neg (fun k => k h), through_is]
  obtain ⟨hrm, _, hre⟩ := eval_good (e := e) (l := l) (fun x hx => (hS.2 x hx).2) hO.rngs
  have hth2 := fun (g : ExM.May l ∧ EvM.May e) W (h : Below w.heap.size w W) => by
    have := hth g W h
    rw [hyes g] at this
    exact this
  obtain ⟨R, hR⟩ : ∃ R, R = eval e l := ⟨_, rfl⟩
  rw [← hR] at hno hrm hre ⊢
  simp only [← hR] at hth2
  obtain ⟨nm, t, vs⟩ := e
  simp only at hml hme hth2 hno ⊢
  obtain ⟨n, hn⟩ : ∃ n, n = vs.length := ⟨_, rfl⟩
  obtain ⟨m, hm⟩ : ∃ n, n = l.length := ⟨_, rfl⟩
  simp only [← hn, ← hm] at hml hme hth2
  rw [← hn, ← hm]
  obtain ⟨y, r⟩ := R
  unfold TwoV
  simp only at hrm hre ⊢
  have HMl := Lib.hid hml
  have HMe := Lib.hid hme
  have HTh := Lib.hid hth2
  have HNo := Lib.hid hno
  have HRm := Lib.hid hrm
  have HRe := Lib.hid hre
  have hb1 := (Below.refl w.heap.size w).alloc (Nat.le_refl _) (.cells #[.string nm, .int .i64 t, .slice A n c] 29)
  have hx1 := bx_new_t w 29 (.string nm) (.int .i64 t) (.slice A n c)
  obtain ⟨u1, hu1⟩ : ∃ u, u = w.alloc (.cells #[.string nm, .int .i64 t, .slice A n c] 29) := ⟨_, rfl⟩
  have hs1 : u1.heap.size = w.heap.size + 1 := by rw [hu1]; simp
  rw [← hu1] at hb1 hx1
  have hb2 := (Below.refl u1.heap.size u1).alloc (Nat.le_refl _) (.cells #[.int .i64 0, .int .i64 0, .string ⟨#[]⟩] 52)
  have hz2 := bx_new_t u1 52 (.int .i64 0) (.int .i64 0) (.string ⟨#[]⟩)
  rw [hs1] at hz2
  have hx2 := hx1.kept hb2
  have hbb := bt hb1 hb2
  rw [hu1] at hx2 hz2 hbb
  have HX2 := Lib.hid hx2
  have HZ2 := Lib.hid hz2
  have HB2 := Lib.hid hbb
  clear hb1 hx1 hs1 hb2 hz2 hx2 hbb hu1 u1 hml hme hth hth2 hno hyes hR hS hz hO hn hm hvm hrm hre
  obtain ⟨⟨p0, p1, p2⟩, _⟩ := HX2.out
  go_enter Try.func34, Try.ntmps34
  go_wp2_with fail
  obtain ⟨w2, hw2⟩ : ∃ w2, w2 = (w.alloc (.cells #[.string nm, .int .i64 t, .slice A n c] 29)).alloc (.cells #[.int .i64 0, .int .i64 0, .string ⟨#[]⟩] 52) := ⟨_, rfl⟩
  rw [← hw2] at HX2 HZ2 HB2 ⊢
  clear hw2 p0 p1 p2
  refine (HMl.out w2 HB2.out).mono ?_
  rintro e w3 ⟨rfl, hb3⟩
  have HB3 := Lib.hid (bt HB2.out hb3)
  have HX3 := Lib.hid (HX2.out.kept hb3)
  have HZ3 := Lib.hid (HZ2.out.kept hb3)
  clear hb3 HB2 HX2 HZ2 HMl
  by_cases hml : ExM.May l
  · rw [decide_eq_true hml]
    have HL := Lib.hid hml
    clear hml
    obtain ⟨⟨p0, p1, p2⟩, _⟩ := HX3.out
    go_wp2_with fail
    refine (HMe.out w3 HB3.out).mono ?_
    rintro e w4 ⟨rfl, hb4⟩
    have HB4 := Lib.hid (bt HB3.out hb4)
    have HX4 := Lib.hid (HX3.out.kept hb4)
    have HZ4 := Lib.hid (HZ3.out.kept hb4)
    clear hb4 HB3 HX3 HZ3 p0 p1 p2 HMe
    by_cases hme : EvM.May ⟨nm, t, vs⟩
    · rw [decide_eq_true hme]
      have HC := Lib.hid (HTh.out ⟨HL.out, hme⟩ w4 HB4.out)
      clear hme HNo HTh
      have ha5 := (Below.refl w4.heap.size w4).alloc (Nat.le_refl _) (.cells #[.slice none 0 0, .slice A n c, .bool false] 73)
      have HZ5 := Lib.hid (HZ4.out.kept ha5)
      have HB5 := Lib.hid (bt HB4.out ha5)
      have hsz := HB4.out.size
      have hlt := HZ4.out.lt
      obtain ⟨⟨p0, p1, p2⟩, _⟩ := HX4.out
      clear ha5 HX4 HB4
      go_wp2_with fail
      obtain ⟨w5, hw5⟩ : ∃ w5, w5 = w4.alloc (.cells #[.slice none 0 0, .slice A n c, .bool false] 73) := ⟨_, rfl⟩
      rw [← hw5] at HC HB5 HZ5 ⊢
      clear hw5 p0 p1 p2
      refine HC.out.mono ?_
      rintro e w6 ⟨rfl, hb6⟩
      have HB6 := Lib.hid (HB5.out.trans (hb6.mono hsz))
      have HZ6 := Lib.hid (HZ5.out.below hb6 hlt)
      clear hb6 HC HB5 HZ5 HZ4
      by_cases hr : r = 0
      · subst hr
        rw [laid_ok]
        clear HRe
        rcases may_ways HRm.out with ⟨a, rfl⟩ | ⟨a, rfl⟩ | ⟨a, rfl⟩ | ⟨a, rfl⟩
        · rw [th_0]
          have z9 := meth_v0
          have HV := Lib.hid (value_number a)
          obtain ⟨⟨k, j, s⟩, hy⟩ : ∃ y : V, y = ⟨0, a, e0⟩ := ⟨_, rfl⟩
          rw [← hy] at HV
          have HY := Lib.hid hy
          unfold ValueV at HV
          simp only at HV
          clear hy HRm
          go_wp2_with fail
          refine (HV.out _).mono ?_
          rintro e w7 ⟨rfl, hb7⟩
          have HZ7 := Lib.hid (HZ6.out.kept hb7)
          have HB7 := Lib.hid (bt HB6.out hb7)
          have hst := bx_store HZ7.out (.int .i64 k) (.int .i64 j) (.string s)
          obtain ⟨⟨g0, g1, g2⟩, _⟩ := hst
          have G0 := Lib.hid g0
          have G1 := Lib.hid g1
          have G2 := Lib.hid g2
          have HF := Lib.hid (stored3 HB7.out (Nat.le_succ _) (.int .i64 k) (.int .i64 j) (.string s))
          obtain ⟨⟨z0, z1, z2⟩, z3, z4, z5⟩ := HZ7.out
          clear g0 g1 g2 hb7 z9
          go_wp2_with fail
          obtain ⟨W2, hW2⟩ : ∃ W2, W2 = ((w7.setCell ⟨w.heap.size + 1, 0, none⟩ (.int .i64 k)).setCell ⟨w.heap.size + 1, 1, none⟩ (.int .i64 j)).setCell ⟨w.heap.size + 1, 2, none⟩ (.string s) := ⟨_, rfl⟩
          rw [← hW2] at HF G0 G1 G2 ⊢
          have g0 := G0.out
          have g1 := G1.out
          have g2 := G2.out
          clear hW2 z0 z1 z2 z3 z4 z5
          exact bodyPost_ret (v := .tuple #[.agg #[.int .i64 k, .int .i64 j, .string s], .int .i64 0]) (by simp [results, Try.results34, go_sem, g0, g1, g2]) rfl ⟨ret_v (by have h := HY.out; first | (rw [← h]; done) | (injection h with h1 h2 h3; rw [h1, h2, h3])), HF.out⟩
        · rw [th_1]
          have z9 := meth_v1
          have HV := Lib.hid (value_truth a)
          obtain ⟨⟨k, j, s⟩, hy⟩ : ∃ y : V, y = truth a := ⟨_, rfl⟩
          rw [← hy] at HV
          have HY := Lib.hid hy
          unfold ValueV at HV
          simp only at HV
          clear hy HRm
          go_wp2_with fail
          refine (HV.out _).mono ?_
          rintro e w7 ⟨rfl, hb7⟩
          have HZ7 := Lib.hid (HZ6.out.kept hb7)
          have HB7 := Lib.hid (bt HB6.out hb7)
          have hst := bx_store HZ7.out (.int .i64 k) (.int .i64 j) (.string s)
          obtain ⟨⟨g0, g1, g2⟩, _⟩ := hst
          have G0 := Lib.hid g0
          have G1 := Lib.hid g1
          have G2 := Lib.hid g2
          have HF := Lib.hid (stored3 HB7.out (Nat.le_succ _) (.int .i64 k) (.int .i64 j) (.string s))
          obtain ⟨⟨z0, z1, z2⟩, z3, z4, z5⟩ := HZ7.out
          clear g0 g1 g2 hb7 z9
          go_wp2_with fail
          obtain ⟨W2, hW2⟩ : ∃ W2, W2 = ((w7.setCell ⟨w.heap.size + 1, 0, none⟩ (.int .i64 k)).setCell ⟨w.heap.size + 1, 1, none⟩ (.int .i64 j)).setCell ⟨w.heap.size + 1, 2, none⟩ (.string s) := ⟨_, rfl⟩
          rw [← hW2] at HF G0 G1 G2 ⊢
          have g0 := G0.out
          have g1 := G1.out
          have g2 := G2.out
          clear hW2 z0 z1 z2 z3 z4 z5
          exact bodyPost_ret (v := .tuple #[.agg #[.int .i64 k, .int .i64 j, .string s], .int .i64 0]) (by simp [results, Try.results34, go_sem, g0, g1, g2]) rfl ⟨ret_v (by have h := HY.out; first | (rw [← h]; done) | (injection h with h1 h2 h3; rw [h1, h2, h3])), HF.out⟩
        · rw [th_2]
          have z9 := meth_v2
          have HV := Lib.hid (value_text a)
          obtain ⟨⟨k, j, s⟩, hy⟩ : ∃ y : V, y = ⟨2, 0, a⟩ := ⟨_, rfl⟩
          rw [← hy] at HV
          have HY := Lib.hid hy
          unfold ValueV at HV
          simp only at HV
          clear hy HRm
          go_wp2_with fail
          refine (HV.out _).mono ?_
          rintro e w7 ⟨rfl, hb7⟩
          have HZ7 := Lib.hid (HZ6.out.kept hb7)
          have HB7 := Lib.hid (bt HB6.out hb7)
          have hst := bx_store HZ7.out (.int .i64 k) (.int .i64 j) (.string s)
          obtain ⟨⟨g0, g1, g2⟩, _⟩ := hst
          have G0 := Lib.hid g0
          have G1 := Lib.hid g1
          have G2 := Lib.hid g2
          have HF := Lib.hid (stored3 HB7.out (Nat.le_succ _) (.int .i64 k) (.int .i64 j) (.string s))
          obtain ⟨⟨z0, z1, z2⟩, z3, z4, z5⟩ := HZ7.out
          clear g0 g1 g2 hb7 z9
          go_wp2_with fail
          obtain ⟨W2, hW2⟩ : ∃ W2, W2 = ((w7.setCell ⟨w.heap.size + 1, 0, none⟩ (.int .i64 k)).setCell ⟨w.heap.size + 1, 1, none⟩ (.int .i64 j)).setCell ⟨w.heap.size + 1, 2, none⟩ (.string s) := ⟨_, rfl⟩
          rw [← hW2] at HF G0 G1 G2 ⊢
          have g0 := G0.out
          have g1 := G1.out
          have g2 := G2.out
          clear hW2 z0 z1 z2 z3 z4 z5
          exact bodyPost_ret (v := .tuple #[.agg #[.int .i64 k, .int .i64 j, .string s], .int .i64 0]) (by simp [results, Try.results34, go_sem, g0, g1, g2]) rfl ⟨ret_v (by have h := HY.out; first | (rw [← h]; done) | (injection h with h1 h2 h3; rw [h1, h2, h3])), HF.out⟩
        · rw [th_3]
          have z9 := meth_v3
          have HV := Lib.hid (value_moment a)
          obtain ⟨⟨k, j, s⟩, hy⟩ : ∃ y : V, y = ⟨3, a, e0⟩ := ⟨_, rfl⟩
          rw [← hy] at HV
          have HY := Lib.hid hy
          unfold ValueV at HV
          simp only at HV
          clear hy HRm
          go_wp2_with fail
          refine (HV.out _).mono ?_
          rintro e w7 ⟨rfl, hb7⟩
          have HZ7 := Lib.hid (HZ6.out.kept hb7)
          have HB7 := Lib.hid (bt HB6.out hb7)
          have hst := bx_store HZ7.out (.int .i64 k) (.int .i64 j) (.string s)
          obtain ⟨⟨g0, g1, g2⟩, _⟩ := hst
          have G0 := Lib.hid g0
          have G1 := Lib.hid g1
          have G2 := Lib.hid g2
          have HF := Lib.hid (stored3 HB7.out (Nat.le_succ _) (.int .i64 k) (.int .i64 j) (.string s))
          obtain ⟨⟨z0, z1, z2⟩, z3, z4, z5⟩ := HZ7.out
          clear g0 g1 g2 hb7 z9
          go_wp2_with fail
          obtain ⟨W2, hW2⟩ : ∃ W2, W2 = ((w7.setCell ⟨w.heap.size + 1, 0, none⟩ (.int .i64 k)).setCell ⟨w.heap.size + 1, 1, none⟩ (.int .i64 j)).setCell ⟨w.heap.size + 1, 2, none⟩ (.string s) := ⟨_, rfl⟩
          rw [← hW2] at HF G0 G1 G2 ⊢
          have g0 := G0.out
          have g1 := G1.out
          have g2 := G2.out
          clear hW2 z0 z1 z2 z3 z4 z5
          exact bodyPost_ret (v := .tuple #[.agg #[.int .i64 k, .int .i64 j, .string s], .int .i64 0]) (by simp [results, Try.results34, go_sem, g0, g1, g2]) rfl ⟨ret_v (by have h := HY.out; first | (rw [← h]; done) | (injection h with h1 h2 h3; rw [h1, h2, h3])), HF.out⟩
      · rw [laid_no _ hr]
        have g1 : (r != 0) = true := by simpa using hr
        have HY0 := Lib.hid (HRe.out hr)
        have hst := bx_store HZ6.out (.int .i64 0) (.int .i64 0) (.string ⟨#[]⟩)
        obtain ⟨⟨g0', g1', g2'⟩, _⟩ := hst
        have G0 := Lib.hid g0'
        have G1 := Lib.hid g1'
        have G2 := Lib.hid g2'
        have HF := Lib.hid (stored3 HB6.out (Nat.le_succ _) (.int .i64 0) (.int .i64 0) (.string ⟨#[]⟩))
        obtain ⟨⟨z0, z1, z2⟩, z3, z4, z5⟩ := HZ6.out
        clear g0' g1' g2' hr HRe
        go_wp2_with fail
        obtain ⟨W2, hW2⟩ : ∃ W2, W2 = ((w6.setCell ⟨w.heap.size + 1, 0, none⟩ (.int .i64 0)).setCell ⟨w.heap.size + 1, 1, none⟩ (.int .i64 0)).setCell ⟨w.heap.size + 1, 2, none⟩ (.string ⟨#[]⟩) := ⟨_, rfl⟩
        rw [← hW2] at HF G0 G1 G2 ⊢
        have g0 := G0.out
        have g1 := G1.out
        have g2 := G2.out
        clear hW2 z0 z1 z2 z3 z4 z5
        exact bodyPost_ret (v := .tuple #[.agg #[.int .i64 0, .int .i64 0, .string ⟨#[]⟩], .int .i64 r]) (by simp [results, Try.results34, go_sem, g0, g1, g2]) rfl ⟨ret_v (by rw [HY0.out]; rfl), HF.out⟩
    · rw [decide_eq_false hme]
      have HR := Lib.hid (HNo.out (fun h => hme h.2))
      clear hme
      have hst := bx_store HZ4.out (.int .i64 0) (.int .i64 0) (.string ⟨#[]⟩)
      obtain ⟨⟨g0, g1, g2⟩, _⟩ := hst
      have G0 := Lib.hid g0
      have G1 := Lib.hid g1
      have G2 := Lib.hid g2
      have HF := Lib.hid (stored3 HB4.out (Nat.le_succ _) (.int .i64 0) (.int .i64 0) (.string ⟨#[]⟩))
      obtain ⟨⟨z0, z1, z2⟩, z3, z4, z5⟩ := HZ4.out
      clear g0 g1 g2
      go_wp2_with fail
      obtain ⟨W2, hW2⟩ : ∃ W2, W2 = ((w4.setCell ⟨w.heap.size + 1, 0, none⟩ (.int .i64 0)).setCell ⟨w.heap.size + 1, 1, none⟩ (.int .i64 0)).setCell ⟨w.heap.size + 1, 2, none⟩ (.string ⟨#[]⟩) := ⟨_, rfl⟩
      rw [← hW2] at HF G0 G1 G2 ⊢
      have g0 := G0.out
      have g1 := G1.out
      have g2 := G2.out
      clear hW2 z0 z1 z2 z3 z4 z5
      exact bodyPost_ret (v := .tuple #[.agg #[.int .i64 0, .int .i64 0, .string ⟨#[]⟩], .int .i64 1]) (by simp [results, Try.results34, go_sem, g0, g1, g2]) rfl ⟨ret_v (by have h := HR.out; injection h with h1 h2; rw [h1, h2]; rfl), HF.out⟩
  · rw [decide_eq_false hml]
    have HR := Lib.hid (HNo.out (fun h => hml h.1))
    clear hml
    have hst := bx_store HZ3.out (.int .i64 0) (.int .i64 0) (.string ⟨#[]⟩)
    obtain ⟨⟨g0, g1, g2⟩, _⟩ := hst
    have G0 := Lib.hid g0
    have G1 := Lib.hid g1
    have G2 := Lib.hid g2
    have HF := Lib.hid (stored3 HB3.out (Nat.le_succ _) (.int .i64 0) (.int .i64 0) (.string ⟨#[]⟩))
    obtain ⟨⟨z0, z1, z2⟩, z3, z4, z5⟩ := HZ3.out
    clear g0 g1 g2
    go_wp2_with fail
    obtain ⟨W2, hW2⟩ : ∃ W2, W2 = ((w3.setCell ⟨w.heap.size + 1, 0, none⟩ (.int .i64 0)).setCell ⟨w.heap.size + 1, 1, none⟩ (.int .i64 0)).setCell ⟨w.heap.size + 1, 2, none⟩ (.string ⟨#[]⟩) := ⟨_, rfl⟩
    rw [← hW2] at HF G0 G1 G2 ⊢
    have g0 := G0.out
    have g1 := G1.out
    have g2 := G2.out
    clear hW2 z0 z1 z2 z3 z4 z5
    exact bodyPost_ret (v := .tuple #[.agg #[.int .i64 0, .int .i64 0, .string ⟨#[]⟩], .int .i64 1]) (by simp [results, Try.results34, go_sem, g0, g1, g2]) rfl ⟨ret_v (by have h := HR.out; injection h with h1 h2; rw [h1, h2]; rfl), HF.out⟩

set_option maxRecDepth 100000 in
set_option maxHeartbeats 4000000 in
theorem Holds_any (e : Ev) (l : List O) (A : Option Addr) (c : Nat) (B : Option Addr) (d : Nat) (w : World) (hS : SlV w A e.v c) (hz : Ev.Fine e) (hO : SlO w B l d) :
    Calls Try.prog 24 #[.agg #[.string e.s, .int .i64 e.t, .slice A e.v.length c], .slice B l.length d] w fun r w' => r = .returned (.bool (holds e l)) ∧ Below w.heap.size w w' := by
  have hev := fun W (h : Below w.heap.size w W) => Eval_any e l A c B d W (hS.kept h) hz (hO.kept h)
  have hh := holds_own (e := e) (l := l) (fun x hx => (hS.2 x hx).2) hO.rngs
  obtain ⟨H, hH⟩ : ∃ H, H = holds e l := ⟨_, rfl⟩
  rw [← hH] at hh ⊢
  obtain ⟨R, hR⟩ : ∃ R, R = eval e l := ⟨_, rfl⟩
  rw [← hR] at hh
  simp only [← hR] at hev
  obtain ⟨⟨k, j, s⟩, r⟩ := R
  unfold TwoV at hev
  simp only at hev hh
  obtain ⟨nm, t, vs⟩ := e
  simp only at hev ⊢
  obtain ⟨n, hn⟩ : ∃ n, n = vs.length := ⟨_, rfl⟩
  obtain ⟨m, hm⟩ : ∃ n, n = l.length := ⟨_, rfl⟩
  simp only [← hn, ← hm] at hev
  rw [← hm] at hh
  rw [← hn, ← hm]
  have HEv := Lib.hid hev
  have HH := Lib.hid hh
  have HX1 := Lib.hid (bx_new_t w 29 (.string nm) (.int .i64 t) (.slice A n c))
  have HB1 := Lib.hid ((Below.refl w.heap.size w).alloc (Nat.le_refl _) (.cells #[.string nm, .int .i64 t, .slice A n c] 29))
  clear hev hh hH hR hn hm hS hz hO
  obtain ⟨⟨p0, p1, p2⟩, _⟩ := HX1.out
  by_cases h0 : m = 0
  · subst h0
    go_enter Try.func24, Try.ntmps24
    go_wp2_with fail
    go_ret
    exact ⟨ret_v (x := .bool true) (by rw [HH.out]; rfl), HB1.out⟩
  · have g1 : (m == 0) = false := by simpa using h0
    have g2 : ((m : Int) == 0) = false := by simpa using (show (m : Int) ≠ 0 by omega)
    have HHm := Lib.hid (show H = same ⟨k, j, s⟩ (truth true) from by rw [HH.out, decide_eq_false h0, Bool.false_or])
    have hq := eql_v k j 1 1 s ⟨#[]⟩
    rw [show same ⟨k, j, s⟩ ⟨1, 1, ⟨#[]⟩⟩ = same ⟨k, j, s⟩ (truth true) from rfl] at hq
    rw [← HHm.out] at hq
    have HV := Lib.hid (value_truth true)
    unfold ValueV at HV
    rw [show (truth true).k = 1 from rfl, show (truth true).n = 1 from rfl, show (truth true).s = ⟨#[]⟩ from rfl] at HV
    clear HH h0
    go_enter Try.func24, Try.ntmps24
    go_wp2_with fail
    refine (HEv.out _ HB1.out).mono ?_
    rintro e w2 ⟨rfl, hb2⟩
    have ha3 := (Below.refl w2.heap.size w2).alloc (Nat.le_refl _) (.cells #[.int .i64 k, .int .i64 j, .string s] 52)
    have HB3 := Lib.hid (bt HB1.out (bt hb2 ha3))
    obtain ⟨⟨y0, y1, y2⟩, _⟩ := bx_new_t w2 52 (.int .i64 k) (.int .i64 j) (.string s)
    obtain ⟨g, hg⟩ : ∃ g, g = w2.heap.size := ⟨_, rfl⟩
    clear hb2 ha3 HB1 HX1 HEv p0 p1 p2
    go_wp2_with fail
    obtain ⟨w3, hw3⟩ : ∃ w3, w3 = w2.alloc (.cells #[.int .i64 k, .int .i64 j, .string s] 52) := ⟨_, rfl⟩
    rw [← hw3, ← hg] at y0 y1 y2 ⊢
    rw [← hw3] at HB3
    clear hw3 hg
    refine Reg.G_start (by kernel_rfl) (by repeat (first | exact Reg.frameless_bodyPost | refine Reg.frameless_then ?_ | refine Reg.frameless_inBlock ?_)) (fun W hW => ?_)
    have hbw := Reg.below_trans HB3.out hW
    have x0 := Reg.later_cell hW y0
    have x1 := Reg.later_cell hW y1
    have x2 := Reg.later_cell hW y2
    clear y0 y1 y2
    first | (refine Reg.G_step (i := 0) rfl (by kernel_rfl) (by rfl) (fun K hK => ?_); go_big_quiet_op; refine hK _ ?_; clear hK K) | (refine Reg.G_skip (i := 0) rfl (by kernel_rfl) (by rfl) ?_; simp only [Act.put, List.setIfInBounds_toArray, List.set_cons_zero, List.set_cons_succ])
    refine Reg.G_event (i := 1) rfl (by kernel_rfl) (by rfl) (fun K hK => ?_)
    go_simp
    refine (HV.out _).mono ?_
    rintro e v0' ⟨rfl, hv0⟩
    refine hK _ _ hv0 ?_
    clear hK K
    have hw0 := bt hbw hv0
    first | (refine Reg.G_step (i := 2) rfl (by kernel_rfl) (by rfl) (fun K hK => ?_); go_big_quiet_op; refine hK _ ?_; clear hK K) | (refine Reg.G_skip (i := 2) rfl (by kernel_rfl) (by rfl) ?_; simp only [Act.put, List.setIfInBounds_toArray, List.set_cons_zero, List.set_cons_succ])
    first | (refine Reg.G_step (i := 3) rfl (by kernel_rfl) (by rfl) (fun K hK => ?_); go_big_quiet_op; refine hK _ ?_; clear hK K) | (refine Reg.G_skip (i := 3) rfl (by kernel_rfl) (by rfl) ?_; simp only [Act.put, List.setIfInBounds_toArray, List.set_cons_zero, List.set_cons_succ])
    refine Reg.G_done rfl ?_
    go_wp2_with fail
    go_ret
    exact ⟨rfl, hw0⟩
end Go.Proofs.Ytochpomddfjkoaa.Ex

namespace Go.Proofs.Ytochpomddfjkoaa.Ix
open Go.RowKit Go.Proofs.Ytochpomddfjkoaa.BM Go.Proofs.Ytochpomddfjkoaa.LM Go.Proofs.Ytochpomddfjkoaa.VaM Go.Proofs.Ytochpomddfjkoaa.ExM Go.Proofs.Ytochpomddfjkoaa.QyM Go.Proofs.Ytochpomddfjkoaa.IxM
open Go.Proofs.Ytochpomddfjkoaa.Ex (SlO slO_none)
open Go.Proofs.Ytochpomddfjkoaa.Va (Bx bx_new_t SlV ret_v toList_beq)
open Go.Proofs.Ytochpomddfjkoaa.EvM (Ev)

set_option maxRecDepth 100000 in
set_option maxHeartbeats 4000000 in
theorem Holds_any (p : Pr) (e : Ev) (A : Option Addr) (c : Nat) (B : Option Addr) (d : Nat) (w : World) (hO : SlO w A p.f c) (hV : SlV w B e.v d) (hz : Go.Proofs.Ytochpomddfjkoaa.Ev.Fine e) :
    Calls Try.prog 23 #[agPr p A c, .agg #[.string e.s, .int .i64 e.t, .slice B e.v.length d]] w fun r w' => r = .returned (.bool (holdsP p e)) ∧ Below w.heap.size w w' := by
  have hh := fun W (h : Below w.heap.size w W) => Ex.Holds_any e p.f B d A c W (hV.kept h) hz (hO.kept h)
  unfold agPr
  have hhp : holdsP p e = (decide (p.s = e.s) && holds e p.f) := rfl
  rw [hhp]
  obtain ⟨H, hH⟩ : ∃ H, H = holds e p.f := ⟨_, rfl⟩
  simp only [← hH] at hh ⊢
  obtain ⟨ps, pf⟩ := p
  obtain ⟨es, et, ev⟩ := e
  simp only at hh ⊢
  obtain ⟨n, hn⟩ : ∃ n, n = pf.length := ⟨_, rfl⟩
  obtain ⟨m, hm⟩ : ∃ n, n = ev.length := ⟨_, rfl⟩
  simp only [← hn, ← hm] at hh ⊢
  obtain ⟨b2, hb2⟩ : ∃ z, (ps.toList == es.toList) = z := ⟨_, rfl⟩
  have hb2' : decide (ps = es) = b2 := by rw [← hb2, toList_beq]
  rw [hb2']
  have HH := Lib.hid hh
  obtain ⟨u1, hu1⟩ : ∃ u, u = w.alloc (.cells #[.string ps, .slice A n c] 26) := ⟨_, rfl⟩
  have hs1 : u1.heap.size = w.heap.size + 1 := by rw [hu1]; simp
  have hb1 := below_pr w ps A n c
  have hx1 := bxPr_new w ps A n c
  rw [← hu1] at hb1 hx1
  have hb3 := (Below.refl u1.heap.size u1).alloc (Nat.le_refl _) (.cells #[.string es, .int .i64 et, .slice B m d] 29)
  have hx2 := bx_new_t u1 29 (.string es) (.int .i64 et) (.slice B m d)
  rw [hs1] at hx2
  have hk1 := hx1.kept hb3
  have hbb := bt hb1 hb3
  rw [hu1] at hx2 hk1 hbb
  have HX := Lib.hid hk1
  have HY := Lib.hid hx2
  have HB := Lib.hid hbb
  obtain ⟨p0, p1⟩ := hk1.cells
  obtain ⟨⟨q0, q1, q2⟩, _⟩ := hx2
  clear hb1 hx1 hb3 hk1 hbb hs1 hu1 u1 hh hH hn hm hb2' hhp hO hV hz
  go_enter Try.func23, Try.ntmps23
  cases b2
  case false =>
    go_wp2_with fail
    go_ret
    exact ⟨ret_v (by first | rfl | simp), HB.out⟩
  case true =>
    go_wp2_with fail
    refine (HH.out _ HB.out).mono ?_
    rintro r w1 ⟨rfl, hb⟩
    have HB1 := Lib.hid (bt HB.out hb)
    clear hb p0 p1 q0 q1 q2
    go_wp2_with fail
    go_ret
    exact ⟨ret_v (by first | rfl | simp), HB1.out⟩
end Go.Proofs.Ytochpomddfjkoaa.Ix

namespace Go.Proofs.Ytochpomddfjkoaa.Ix
open Go.RowKit Go.Proofs.Ytochpomddfjkoaa.BM Go.Proofs.Ytochpomddfjkoaa.LM Go.Proofs.Ytochpomddfjkoaa.VaM Go.Proofs.Ytochpomddfjkoaa.ExM Go.Proofs.Ytochpomddfjkoaa.QyM Go.Proofs.Ytochpomddfjkoaa.IxM
open Go.Proofs.Ytochpomddfjkoaa.Ex (SlO slO_none)
open Go.Proofs.Ytochpomddfjkoaa.Va (Bx bx_new_t SlV ret_v)
open Go.Proofs.Ytochpomddfjkoaa.EvM (Ev)
open Go.Proofs.Ytochpomddfjkoaa.Bo (SlBo slBo_len slBo_none KBo tyBo)

set_option maxRecDepth 100000 in
set_option maxHeartbeats 8000000 in
theorem Told_any (l : List Pr) (e : Ev) (A : Option Addr) (c : Nat) (B : Option Addr) (d : Nat) (w : World) (hS : SlPr w A l c) (hV : SlV w B e.v d) (hz : Go.Proofs.Ytochpomddfjkoaa.Ev.Fine e) (hl9 : l.length ≤ 100000000) :
    Calls Try.prog 18 #[.slice A l.length c, .agg #[.string e.s, .int .i64 e.t, .slice B e.v.length d]] w (ToldB l e w) := by
  have hh := fun x K k W (h : Below w.heap.size w W) (hx : SlO W K x.f k) => Holds_any x e K k B d W hx (hV.kept h) hz
  have htk := fun j => @take_told l e j
  unfold ToldB
  obtain ⟨T, hT⟩ : ∃ T, T = told l e := ⟨_, rfl⟩
  have htl : T.length = l.length := by rw [hT, told_len]
  simp only [← hT] at htk ⊢
  obtain ⟨n, hn⟩ : ∃ n, n = l.length := ⟨_, rfl⟩
  simp only [← hn] at htk
  rw [← hn] at htl hl9 ⊢
  obtain ⟨hp, hhp⟩ : ∃ f : Pr → Bool, f = fun x => holdsP x e := ⟨_, rfl⟩
  have hhp' : ∀ x, holdsP x e = hp x := fun x => by rw [hhp]
  simp only [hhp'] at hh htk
  obtain ⟨es, et, ev⟩ := e
  simp only at hh ⊢
  obtain ⟨m, hm⟩ : ∃ n, n = ev.length := ⟨_, rfl⟩
  simp only [← hm] at hh ⊢
  have HH := Lib.hid hh
  have HTk := Lib.hid htk
  have HS := Lib.hid hS
  have HLen := Lib.hid hn
  have HTl := Lib.hid htl
  have HX := Lib.hid (bx_new_t w 29 (.string es) (.int .i64 et) (.slice B m d))
  have HB := Lib.hid ((Below.refl w.heap.size w).alloc (Nat.le_refl _) (.cells #[.string es, .int .i64 et, .slice B m d] 29))
  have hb1 := (Below.refl w.heap.size w).alloc (Nat.le_refl _) (.cells #[.string es, .int .i64 et, .slice B m d] 29)
  obtain ⟨i0, hi, hz0, hz1, hz2⟩ := info_parts tyBo.info
  clear hh htk hS hV hz hn hm htl hT hhp hhp'
  have hle := Nat.le_refl (w.alloc (.cells #[.string es, .int .i64 et, .slice B m d] 29)).heap.size
  have Hle := Lib.hid hle
  clear hle
  go_enter Try.func18, Try.ntmps18
  go_wp2_with (at_make; refine wpList_make_own _ rfl _ _ 38 rfl (w.alloc (.cells #[.string es, .int .i64 et, .slice B m d] 29)).heap.size 4 i0 (.bool false) 1 tyBo.und hi hz0 hz1 .i64 .i64 _ n rfl rfl (by omega) (by rw [hz2]; omega) (by unfold maxLen; omega) Hle.out ?_; intro w1 hown1 hgrow1; refine pause ?_)
  obtain ⟨w0, hw0⟩ : ∃ w0, w0 = w.alloc (.cells #[.string es, .int .i64 et, .slice B m d] 29) := ⟨_, rfl⟩
  rw [← hw0] at HX HB hb1 hown1 hgrow1
  have HSz := Lib.hid (show w0.heap.size = w.heap.size + 1 from by rw [hw0]; simp)
  clear hw0
  have HO1 := Lib.hid hown1
  have HB1 := Lib.hid ((Below.refl w0.heap.size w0).grown hgrow1 (Nat.le_refl _) (fun _ h => by cases h))
  clear hown1 hgrow1 hi hz0 hz1 hz2 hb1
  unfold Pause
  go_wp2_with fail
  go_loopw [5, 13] (fun u i wr => ∃ (j : Nat) (vs : List Value), i = .int .i64 (j : Int) ∧ j ≤ n ∧ wr.ownsRow w0.heap.size 4 1 u j vs ∧ RG.Elems KBo (fun k => w0.heap.size ≤ k ∧ ne u k) wr (T.take j) vs ∧ Below w0.heap.size w0 wr) (fun _ i _ => n - (intOf i).toNat)
  case atStart => exact ⟨0, [], rfl, Nat.zero_le _, by rw [← HSz.out]; exact HO1.out, by rw [List.take_zero]; rfl, HB1.out⟩
  case round =>
    obtain ⟨j, vs, rfl, hj, hown, hel, hbel⟩ := hrel
    have HO := Lib.hid hown
    have HE := Lib.hid hel
    have HBl := Lib.hid hbel
    clear hown hel hbel HO1 HB1
    by_cases hjn : j < n
    · obtain ⟨b1, q1, A1, c1, hix, hc, _⟩ := HS.out.at j (by rw [← HLen.out]; exact hjn)
      have hi := fun W => hix W n c hjn
      obtain ⟨x, hx⟩ : ∃ x, x = l.getD j p0 := ⟨_, rfl⟩
      have hcw := fun W (h : Below w0.heap.size w0 W) => hc W (bt HB.out h)
      simp only [← hx] at hcw
      have htk := HTk.out j hjn
      rw [← hx] at htk
      have hho := HH.out x
      obtain ⟨V, hV⟩ : ∃ V, V = hp x := ⟨_, rfl⟩
      rw [← hV] at htk
      simp only [← hV] at hho
      unfold agPr at hho
      obtain ⟨xs, xf⟩ := x
      simp only at hcw hho
      obtain ⟨k1, hk1⟩ : ∃ k, k = xf.length := ⟨_, rfl⟩
      unfold CellPr at hcw
      simp only [← hk1] at hcw hho
      obtain ⟨⟨y0, y1⟩, hso⟩ := hcw wr HBl.out
      have hbx := bxPr_new wr xs A1 k1 c1
      have hb1 := below_pr wr xs A1 k1 c1
      obtain ⟨W1, hW1⟩ : ∃ W, W = wr.alloc (.cells #[.string xs, .slice A1 k1 c1] 26) := ⟨_, rfl⟩
      rw [← hW1] at hbx hb1
      have hcall := hho A1 c1 W1 (bt HB.out (bt HBl.out hb1)) (hso.kept hb1)
      obtain ⟨z0, z1⟩ := hbx.cells
      obtain ⟨⟨x0, x1, x2⟩, hfz⟩ := HX.out.kept (bt HBl.out hb1)
      clear hfz
      rw [hW1] at z0 z1 x0 x1 x2
      have HTk2 := Lib.hid htk
      have HCall := Lib.hid hcall
      have HBw := Lib.hid hb1
      have HW := Lib.hid hW1
      clear hix hc hx hcw htk hho hV hk1 hso hbx hb1 hcall hW1
      go_wp2_with fail
      rw [← HW.out]
      refine HCall.out.mono ?_
      rintro e u1 ⟨rfl, hu1⟩
      have HU := Lib.hid (bt HBw.out hu1)
      clear hu1 HCall HBw HW W1 x0 x1 x2 y0 y1 z0 z1
      have ha := (Below.refl u1.heap.size u1).alloc (Nat.le_refl _) (.cells #[.bool V] 4)
      have hnew := RG.elem_new (K := KBo) (p := fun k => w0.heap.size ≤ k ∧ ne u5 k) u1 4 V [.bool V] rfl
      have HRow := Lib.hid hnew.1
      have HNew := Lib.hid hnew.2
      have HO4 := Lib.hid (RegA.own_below HO.out (bt HU.out ha))
      have HE4 := Lib.hid (RG.Elems.map (K := KBo) (w := wr) (w' := u1.alloc (.cells #[.bool V] 4)) (p := fun k => w0.heap.size ≤ k ∧ ne u5 k) (q := fun k => w0.heap.size ≤ k ∧ ne u5 k) (fun _ _ h => h) HE.out)
      have HB4 := Lib.hid (bt HBl.out (bt HU.out ha))
      have hz4 := (bt HBl.out (bt HU.out ha)).size
      have htl2 : (T.take j).length = j := by rw [List.length_take, HTl.out]; omega
      clear hnew ha HO HE
      go_wp2_with (at_builtin; refine RG.Ty.wp_append (K := KBo) tyBo (fun k => w0.heap.size ≤ k) rfl (.tmp 17) (.tmp 21) rfl w0.heap.size _ j vs (T.take j) rfl HO4.out HE4.out (some ⟨u1.heap.size, 0, none⟩) 1 1 _ [V] rfl rfl HRow.out HNew.out (fun h => by cases h) (by omega) hz4 ?_; intro u9 w9 hown9 hel9 hgrow9; refine pause ?_)
      have hb9 := HB4.out.grown hgrow9 hz4 (fun q hq => (HO4.out.lt q hq).1)
      rw [← HTk2.out] at hel9
      have HO9 := Lib.hid hown9
      have HE9 := Lib.hid hel9
      have HB9 := Lib.hid hb9
      clear hown9 hel9 hgrow9 hb9 htl2
      unfold Pause
      go_wp2_with fail
      go_roundw
      case rel => exact ⟨j + 1, _, by go_num, by omega, HO9.out, HE9.out, HB9.out⟩
      case measure => simp [intOf]; omega
    · obtain rfl : j = n := by omega
      obtain ⟨A1, c1, hu, hl1, hsl, _⟩ := RG.own_slG (K := KBo) HO.out HE.out (by decide)
      rw [← hl1] at hu
      subst hu
      have HSl := Lib.hid (show SlBo wr A1 T c1 from by
        have h := RG.SlG.mono (q := fun _ => True) hsl fun _ _ _ => trivial
        rw [List.take_of_length_le (by rw [HTl.out]; exact Nat.le_refl _)] at h
        exact h)
      clear hl1 hsl
      go_wp2_with fail
      go_ret
      exact ⟨A1, c1, rfl, HSl.out, bt HB.out HBl.out⟩
end Go.Proofs.Ytochpomddfjkoaa.Ix

namespace Go.Proofs.Ytochpomddfjkoaa.Ix
open Go.RowKit Go.Proofs.Ytochpomddfjkoaa.BM Go.Proofs.Ytochpomddfjkoaa.LM Go.Proofs.Ytochpomddfjkoaa.VaM Go.Proofs.Ytochpomddfjkoaa.ExM Go.Proofs.Ytochpomddfjkoaa.QyM Go.Proofs.Ytochpomddfjkoaa.IxM
open Go.Proofs.Ytochpomddfjkoaa.Ex (SlO slO_none)
open Go.Proofs.Ytochpomddfjkoaa.Va (SlV slV_none ret_v bx_new_t)
open Go.Proofs.Ytochpomddfjkoaa.Qy (SlQ SlSt KQ KSt exQ exX encQ)
open Go.Proofs.Ytochpomddfjkoaa.EvM (Ev)

def exP : Pr := ⟨⟨#[97]⟩, []⟩
theorem ex_all : all [exQ, exQ] = [exP] := by
  have h : [exQ, exQ].flatMap askQ = [exP, exP] := rfl
  unfold all
  rw [h, pushes_cons, pushes_cons, push_new (List.not_mem_nil), List.nil_append, push_in (List.mem_singleton.2 rfl), pushes_nil]
theorem ex_told : told [exP] ⟨⟨#[97]⟩, 0, []⟩ = [true] := by
  unfold told
  rw [List.map_singleton]
  have h1 : holdsP exP ⟨⟨#[97]⟩, 0, []⟩ = true := by
    show (decide (exP.s = exP.s) && holds ⟨⟨#[97]⟩, 0, []⟩ exP.f) = true
    rw [decide_eq_true rfl, Bool.true_and]
    rfl
  rw [h1]
theorem ex_find : find [exP] exP = 0 := find_some (i := 0) (by decide) rfl (fun j hj => absurd hj (Nat.not_lt_zero _))
theorem ex_no : holdsP exP ⟨⟨#[98]⟩, 0, []⟩ = false := by
  unfold holdsP
  rw [decide_eq_false (fun h => by have h2 := congrArg (fun x : ByteArray => x.data.toList) h; revert h2; decide), Bool.false_and]

theorem slQ_two (w : World) (A1 A2 : Option Addr) (h1 : SlSt w A1 exQ.p 1) (h2 : SlSt w A2 exQ.p 1) :
    SlQ (w.alloc (.cells #[.slice A1 1 1, .int .i64 0, .int .i64 0, .int .i64 0, .int .i64 0, .slice A2 1 1, .int .i64 0, .int .i64 0, .int .i64 0, .int .i64 0] 45)) (some ⟨w.heap.size, 0, none⟩) [exQ, exQ] 2 := by
  have hfine : Qy.FineQ exQ := ⟨by decide, by decide, by decide, by decide⟩
  have hb := (Below.refl w.heap.size w).alloc (Nat.le_refl _) (.cells #[.slice A1 1 1, .int .i64 0, .int .i64 0, .int .i64 0, .int .i64 0, .slice A2 1 1, .int .i64 0, .int .i64 0, .int .i64 0, .int .i64 0] 45)
  refine ⟨⟨encQ exQ A1 1 ++ encQ exQ A2 1, fun _ => ⟨w.heap.size, 0, rfl, fun j u hj => ?_⟩, encQ exQ A1 1, encQ exQ A2 1, rfl, ⟨A1, 1, rfl, SlSt.kept h1 hb, hfine, fun _ _ _ => trivial⟩, encQ exQ A2 1, [], (List.append_nil _).symm, ⟨A2, 1, rfl, SlSt.kept h2 hb, hfine, fun _ _ _ => trivial⟩, rfl⟩, Nat.le_refl _, (fun e => by cases e), by unfold maxLen; decide⟩
  rw [World.cell?_alloc_at (hn := rfl), Nat.zero_add]
  show (List.toArray (encQ exQ A1 1 ++ encQ exQ A2 1))[j]? = some u
  rw [List.getElem?_toArray]
  exact hj

set_option maxRecDepth 100000 in
set_option maxHeartbeats 4000000 in
theorem awake_any (w : World) : Calls Try.prog 9 #[] w fun e w' => e = .returned (.bool true) ∧ Below w.heap.size w w' := by
  have hone := fun W => Qy.One_any W
  have hAll := fun A c W h => All_any [exQ, exQ] A c W h (by decide) (fun p hp => by
    have h : p = exP := by
      have h1 : p ∈ [exP, exP] := hp
      simpa using h1
    rw [h]
    decide)
  have hTold := fun A c B d W h h' => Told_any [exP] ⟨⟨#[97]⟩, 0, []⟩ A c B d W h h' ⟨by unfold maxLen; decide, by decide, by decide⟩ (by decide)
  have hFind := fun A c B d W h h' => Find_any [exP] exP A c B d W h h'
  have hHolds := fun A c B d W h h' => Holds_any exP ⟨⟨#[98]⟩, 0, []⟩ A c B d W h h' ⟨by unfold maxLen; decide, by decide, by decide⟩
  unfold AllB at hAll
  unfold ToldB at hTold
  simp only [ex_all] at hAll
  simp only [ex_told] at hTold
  simp only [ex_find] at hFind
  simp only [ex_no] at hHolds
  unfold agPr exP at hFind hHolds
  simp only [List.length_cons, List.length_nil, Nat.zero_add, Nat.reduceAdd] at hAll hTold hFind hHolds
  have HOne := Lib.hid hone
  have HAll := Lib.hid hAll
  have HTold := Lib.hid hTold
  have HFind := Lib.hid hFind
  have HHolds := Lib.hid hHolds
  clear hone hAll hTold hFind hHolds
  go_enter Try.func9, Try.ntmps9
  go_wp2_with fail
  refine (HOne.out _).mono ?_
  rintro e w1 ⟨A1, rfl, hs1, hb1⟩
  go_wp2_with fail
  refine (HOne.out _).mono ?_
  rintro e w2 ⟨A2, rfl, hs2, hb2⟩
  have hq := slQ_two w2 A1 A2 (Qy.SlSt.kept hs1 hb2) hs2
  have ha := (Below.refl w2.heap.size w2).alloc (Nat.le_refl _) (.cells #[.slice A1 1 1, .int .i64 0, .int .i64 0, .int .i64 0, .int .i64 0, .slice A2 1 1, .int .i64 0, .int .i64 0, .int .i64 0, .int .i64 0] 45)
  have HB := Lib.hid (bt hb1 (bt hb2 ha))
  have HCall := Lib.hid (HAll.out _ _ _ hq)
  clear hs1 hb1 hs2 hb2 hq ha HOne HAll
  go_wp2_with fail
  refine HCall.out.mono ?_
  rintro e w4 ⟨A4, c4, rfl, hs4, hb⟩
  have HB4 := Lib.hid (bt HB.out hb)
  have HS4 := Lib.hid hs4
  clear hb hs4 HCall HB
  have hev := (Below.refl w4.heap.size w4).alloc (Nat.le_refl _) (.cells #[.string ⟨#[97]⟩, .int .i64 0, .slice none 0 0] 29)
  have HTo := Lib.hid (HTold.out A4 c4 none 0 w4 HS4.out (slV_none _))
  clear hev HTold
  go_wp2_with fail
  refine HTo.out.mono ?_
  rintro e w5 ⟨A5, c5, rfl, hs5, hb⟩
  have HB5 := Lib.hid (bt HB4.out hb)
  have hs4 := HS4.out.kept hb
  obtain ⟨b1, q1, B1, d1, hix, hc, _⟩ := hs4.at 0 (by decide)
  obtain ⟨b2, q2, hix2, hc2⟩ := hs5.at 0 (by decide)
  have hi1 : ∀ W, (Instr.indexAt 23 (.slice A4 1 c4) (.int .i64 0)).run Try.prog W = .ok (.pointer (some ⟨b1, q1, none⟩)) W := fun W => hix W 1 c4 (by decide)
  have hi2 : ∀ W, (Instr.indexAt 38 (.slice A5 1 c5) (.int .i64 0)).run Try.prog W = .ok (.pointer (some ⟨b2, q2, none⟩)) W := fun W => hix2 W 1 c5 (by decide)
  obtain ⟨⟨x0, x1⟩, hso⟩ := hc w5 (Below.refl _ _)
  have x2 := hc2 w5 (Below.refl _ _)
  have x0' : w5.cell? ⟨b1, q1, none⟩ = some (.string ⟨#[97]⟩) := x0
  have x1' : w5.cell? ⟨b1, q1 + 1, none⟩ = some (.slice B1 0 d1) := x1
  have x2' : w5.cell? ⟨b2, q2, none⟩ = some (.bool true) := x2
  have HF := Lib.hid (HFind.out A4 c4 B1 d1 w5 hs4 hso)
  have HC := Lib.hid hc
  have HSo := Lib.hid hso
  clear hb HB4 HS4 HTo hs4 hs5 hix hix2 hc hc2 x0 x1 x2 hso HFind
  go_wp2_with fail
  refine HF.out.mono ?_
  rintro e w6 ⟨rfl, hb⟩
  have HB6 := Lib.hid (bt HB5.out hb)
  obtain ⟨⟨x0, x1⟩, hso⟩ := HC.out w6 hb
  have x0' : w6.cell? ⟨b1, q1, none⟩ = some (.string ⟨#[97]⟩) := x0
  have x1' : w6.cell? ⟨b1, q1 + 1, none⟩ = some (.slice B1 0 d1) := x1
  have HH := Lib.hid (HHolds.out B1 d1 none 0 w6 hso (slV_none _))
  clear hb HB5 HF HC HSo x0 x1 hso HHolds
  go_wp2_with fail
  refine HH.out.mono ?_
  rintro e w7 ⟨rfl, hb⟩
  have HB7 := Lib.hid (bt HB6.out hb)
  clear hb HB6 HH
  go_wp2_with fail
  go_ret
  exact ⟨ret_v (x := .bool true) (by first | rfl | simp), HB7.out⟩
end Go.Proofs.Ytochpomddfjkoaa.Ix

namespace Go.Proofs.Ytochpomddfjkoaa.Ix
open Go.RowKit Go.Proofs.Ytochpomddfjkoaa.BM Go.Proofs.Ytochpomddfjkoaa.LM Go.Proofs.Ytochpomddfjkoaa.VaM Go.Proofs.Ytochpomddfjkoaa.ExM Go.Proofs.Ytochpomddfjkoaa.QyM Go.Proofs.Ytochpomddfjkoaa.IxM
open Go.Proofs.Ytochpomddfjkoaa.Ex (SlO slO_none)
open Go.Proofs.Ytochpomddfjkoaa.Va (ret_v toList_beq)
open Go.Proofs.Ytochpomddfjkoaa.Bo (SlBo slBo_len)

theorem list_iff {α : Type} (d : α) {a b : List α} (h : a.length = b.length) : a = b ↔ ∀ j, j < a.length → a.getD j d = b.getD j d := by
  constructor
  · rintro rfl j _
    rfl
  · intro k
    refine List.ext_getElem h fun j h1 h2 => ?_
    have h3 := k j h1
    rw [List.getD_eq_getElem?_getD, List.getElem?_eq_getElem h1, List.getD_eq_getElem?_getD, List.getElem?_eq_getElem h2] at h3
    exact h3

set_option maxRecDepth 100000 in
set_option maxHeartbeats 8000000 in
theorem refSame_any (a b : List Pr) (A : Option Addr) (c : Nat) (B : Option Addr) (d : Nat) (w : World) (h : SlPr w A a c) (k : SlPr w B b d) :
    Calls Try.prog 14 #[.slice A a.length c, .slice B b.length d] w fun e w' => e = .returned (.bool (decide (a = b))) ∧ Below w.heap.size w w' := by
  have hl := slPr_len h
  have hm := slPr_len k
  have hq := @list_iff Pr p0 a b
  have hne : a.length ≠ b.length → a ≠ b := fun h e => h (by rw [e])
  obtain ⟨D, hD⟩ : ∃ D, D = decide (a = b) := ⟨_, rfl⟩
  rw [← hD]
  obtain ⟨n, hn⟩ : ∃ n, n = a.length := ⟨_, rfl⟩
  obtain ⟨r, hr⟩ : ∃ r, r = b.length := ⟨_, rfl⟩
  rw [← hn] at hl ⊢
  rw [← hr] at hm ⊢
  rw [← hn, ← hr] at hq hne
  have HD := Lib.hid hD
  have HN := Lib.hid hn
  have HR := Lib.hid hr
  have HS := Lib.hid h
  have HT := Lib.hid k
  have HQ := Lib.hid hq
  have HNe := Lib.hid hne
  clear hn hr h k hq hne hD
  by_cases g : n = r
  · subst g
    have HQ2 := Lib.hid (HQ.out rfl)
    have ee : ((n : Int) != n) = false := by simp
    clear HQ HNe
    go_enter Try.func14, Try.ntmps14
    go_wp2_with fail
    go_loopw [5] (fun i wr => ∃ j : Nat, i = .int .i64 j ∧ j ≤ n ∧ (∀ x, x < j → a.getD x p0 = b.getD x p0) ∧ Below w.heap.size w wr) (fun i _ => n - (intOf i).toNat)
    case atStart => exact ⟨0, rfl, Nat.zero_le _, fun x hx => absurd hx (Nat.not_lt_zero x), Below.refl _ _⟩
    case round =>
      obtain ⟨j, rfl, hj, hsame, hbel⟩ := hrel
      have HSm := Lib.hid hsame
      have HBl := Lib.hid hbel
      clear hsame hbel
      by_cases hjn : j < n
      · obtain ⟨b1, q1, A1, c1, hix1, hc1, _⟩ := HS.out.at j (by rw [← HN.out]; exact hjn)
        obtain ⟨b2, q2, A2, c2, hix2, hc2, _⟩ := HT.out.at j (by rw [← HR.out]; exact hjn)
        obtain ⟨f1, hf1⟩ : ∃ f, f = a.getD j p0 := ⟨_, rfl⟩
        obtain ⟨f2, hf2⟩ : ∃ f, f = b.getD j p0 := ⟨_, rfl⟩
        rw [← hf1] at hc1
        rw [← hf2] at hc2
        have hi1 := fun W => hix1 W n c hjn
        have hi2 := fun W => hix2 W n d hjn
        have hm5 := fun W (hW : Below w.heap.size w W) => Ex.refSame_any f1.f f2.f A1 c1 A2 c2 W (hc1 W hW).2 (hc2 W hW).2
        have hk1 := fun W (hW : Below w.heap.size w W) => (hc1 W hW).1
        have hk2 := fun W (hW : Below w.heap.size w W) => (hc2 W hW).1
        unfold CellPr at hk1 hk2
        obtain ⟨s1, l1⟩ := f1
        obtain ⟨s2, l2⟩ := f2
        simp only at hm5 hk1 hk2
        obtain ⟨n1, hn1⟩ : ∃ n1, n1 = l1.length := ⟨_, rfl⟩
        obtain ⟨n2, hn2⟩ : ∃ n2, n2 = l2.length := ⟨_, rfl⟩
        simp only [← hn1] at hm5 hk1
        simp only [← hn2] at hm5 hk2
        obtain ⟨E, hE⟩ : ∃ E, E = decide (l1 = l2) := ⟨_, rfl⟩
        simp only [← hE] at hm5
        obtain ⟨b2', hb2⟩ : ∃ z, (s1.toList == s2.toList) = z := ⟨_, rfl⟩
        have hb2' : b2' = decide (s1 = s2) := by rw [← hb2, toList_beq]
        have hb3 : (s1.toList != s2.toList) = !b2' := by rw [← hb2]; rfl
        have HE := Lib.hid hE
        have HB2 := Lib.hid hb2'
        have HM5 := Lib.hid hm5
        have HC1 := Lib.hid hk1
        have HC2 := Lib.hid hk2
        have HF1 := Lib.hid hf1
        have HF2 := Lib.hid hf2
        clear hc1 hc2 hix1 hix2 hf1 hf2 hn1 hn2 hk1 hk2 hm5 hE hb2'
        go_wp2_with fail
        refine Reg.G_start (by kernel_rfl) (by repeat (first | with_reducible exact Reg.frameless_bodyPost | with_reducible refine Reg.frameless_then ?_ | with_reducible refine Reg.frameless_inBlock ?_ | refine Reg.frameless_then ?_ | refine Reg.frameless_inBlock ?_)) (fun W hW => ?_)
        have x0 := Reg.later_cell (Below.refl _ W) (HC1.out W (bt HBl.out hW)).2
        have x1 := Reg.later_cell (Below.refl _ W) (HC2.out W (bt HBl.out hW)).2
        first | (refine Reg.G_step (i := 0) rfl (by kernel_rfl) (by rfl) (fun K hK => ?_); go_big_quiet_op; refine hK _ ?_; clear hK K) | (refine Reg.G_skip (i := 0) rfl (by kernel_rfl) (by rfl) ?_; simp only [Act.put, List.setIfInBounds_toArray, List.set_cons_zero, List.set_cons_succ])
        first | (refine Reg.G_step (i := 1) rfl (by kernel_rfl) (by rfl) (fun K hK => ?_); go_big_quiet_op; refine hK _ ?_; clear hK K) | (refine Reg.G_skip (i := 1) rfl (by kernel_rfl) (by rfl) ?_; simp only [Act.put, List.setIfInBounds_toArray, List.set_cons_zero, List.set_cons_succ])
        first | (refine Reg.G_step (i := 2) rfl (by kernel_rfl) (by rfl) (fun K hK => ?_); go_big_quiet_op; refine hK _ ?_; clear hK K) | (refine Reg.G_skip (i := 2) rfl (by kernel_rfl) (by rfl) ?_; simp only [Act.put, List.setIfInBounds_toArray, List.set_cons_zero, List.set_cons_succ])
        first | (refine Reg.G_step (i := 3) rfl (by kernel_rfl) (by rfl) (fun K hK => ?_); go_big_quiet_op; refine hK _ ?_; clear hK K) | (refine Reg.G_skip (i := 3) rfl (by kernel_rfl) (by rfl) ?_; simp only [Act.put, List.setIfInBounds_toArray, List.set_cons_zero, List.set_cons_succ])
        first | (refine Reg.G_step (i := 4) rfl (by kernel_rfl) (by rfl) (fun K hK => ?_); go_big_quiet_op; refine hK _ ?_; clear hK K) | (refine Reg.G_skip (i := 4) rfl (by kernel_rfl) (by rfl) ?_; simp only [Act.put, List.setIfInBounds_toArray, List.set_cons_zero, List.set_cons_succ])
        first | (refine Reg.G_step (i := 5) rfl (by kernel_rfl) (by rfl) (fun K hK => ?_); go_big_quiet_op; refine hK _ ?_; clear hK K) | (refine Reg.G_skip (i := 5) rfl (by kernel_rfl) (by rfl) ?_; simp only [Act.put, List.setIfInBounds_toArray, List.set_cons_zero, List.set_cons_succ])
        first | (refine Reg.G_step (i := 6) rfl (by kernel_rfl) (by rfl) (fun K hK => ?_); go_big_quiet_op; refine hK _ ?_; clear hK K) | (refine Reg.G_skip (i := 6) rfl (by kernel_rfl) (by rfl) ?_; simp only [Act.put, List.setIfInBounds_toArray, List.set_cons_zero, List.set_cons_succ])
        first | (refine Reg.G_step (i := 7) rfl (by kernel_rfl) (by rfl) (fun K hK => ?_); go_big_quiet_op; refine hK _ ?_; clear hK K) | (refine Reg.G_skip (i := 7) rfl (by kernel_rfl) (by rfl) ?_; simp only [Act.put, List.setIfInBounds_toArray, List.set_cons_zero, List.set_cons_succ])
        first | (refine Reg.G_step (i := 8) rfl (by kernel_rfl) (by rfl) (fun K hK => ?_); go_big_quiet_op; refine hK _ ?_; clear hK K) | (refine Reg.G_skip (i := 8) rfl (by kernel_rfl) (by rfl) ?_; simp only [Act.put, List.setIfInBounds_toArray, List.set_cons_zero, List.set_cons_succ])
        first | (refine Reg.G_step (i := 9) rfl (by kernel_rfl) (by rfl) (fun K hK => ?_); go_big_quiet_op; refine hK _ ?_; clear hK K) | (refine Reg.G_skip (i := 9) rfl (by kernel_rfl) (by rfl) ?_; simp only [Act.put, List.setIfInBounds_toArray, List.set_cons_zero, List.set_cons_succ])
        refine Reg.G_event (i := 10) rfl (by kernel_rfl) (by rfl) (fun K hK => ?_)
        go_simp
        refine (HM5.out W (bt HBl.out hW)).mono ?_
        rintro e u1 ⟨rfl, hu1⟩
        refine hK _ _ hu1 ?_
        clear hK K x0 x1
        have HU := Lib.hid (bt HBl.out (bt hW hu1))
        first | (refine Reg.G_step (i := 11) rfl (by kernel_rfl) (by rfl) (fun K hK => ?_); go_big_quiet_op; refine hK _ ?_; clear hK K) | (refine Reg.G_skip (i := 11) rfl (by kernel_rfl) (by rfl) ?_; simp only [Act.put, List.setIfInBounds_toArray, List.set_cons_zero, List.set_cons_succ])
        refine Reg.G_done rfl ?_
        clear hW hu1
        by_cases hboth : E = true ∧ b2' = true
        · obtain ⟨rfl, rfl⟩ := hboth
          have hmore : ∀ x, x < j + 1 → a.getD x p0 = b.getD x p0 := by
            intro x hx
            rcases Nat.lt_or_eq_of_le (Nat.le_of_lt_succ hx) with hx | rfl
            · exact HSm.out x hx
            · rw [← HF1.out, ← HF2.out]
              exact Pr.same (of_decide_eq_true HB2.out.symm) (of_decide_eq_true HE.out.symm)
          have HMore := Lib.hid hmore
          clear hmore
          simp only [Bool.not_true] at hb3
          go_wp2_with fail
          refine Reg.G_start (by kernel_rfl) (by repeat (first | with_reducible exact Reg.frameless_bodyPost | with_reducible refine Reg.frameless_then ?_ | with_reducible refine Reg.frameless_inBlock ?_ | refine Reg.frameless_then ?_ | refine Reg.frameless_inBlock ?_)) (fun V hV => ?_)
          have y0 := Reg.later_cell (Below.refl _ V) (HC1.out V (bt HU.out hV)).1
          have y1 := Reg.later_cell (Below.refl _ V) (HC2.out V (bt HU.out hV)).1
          first | (refine Reg.G_step (i := 0) rfl (by kernel_rfl) (by rfl) (fun K hK => ?_); go_big_quiet_op; refine hK _ ?_; clear hK K) | (refine Reg.G_skip (i := 0) rfl (by kernel_rfl) (by rfl) ?_; simp only [Act.put, List.setIfInBounds_toArray, List.set_cons_zero, List.set_cons_succ])
          first | (refine Reg.G_step (i := 1) rfl (by kernel_rfl) (by rfl) (fun K hK => ?_); go_big_quiet_op; refine hK _ ?_; clear hK K) | (refine Reg.G_skip (i := 1) rfl (by kernel_rfl) (by rfl) ?_; simp only [Act.put, List.setIfInBounds_toArray, List.set_cons_zero, List.set_cons_succ])
          first | (refine Reg.G_step (i := 2) rfl (by kernel_rfl) (by rfl) (fun K hK => ?_); go_big_quiet_op; refine hK _ ?_; clear hK K) | (refine Reg.G_skip (i := 2) rfl (by kernel_rfl) (by rfl) ?_; simp only [Act.put, List.setIfInBounds_toArray, List.set_cons_zero, List.set_cons_succ])
          first | (refine Reg.G_step (i := 3) rfl (by kernel_rfl) (by rfl) (fun K hK => ?_); go_big_quiet_op; refine hK _ ?_; clear hK K) | (refine Reg.G_skip (i := 3) rfl (by kernel_rfl) (by rfl) ?_; simp only [Act.put, List.setIfInBounds_toArray, List.set_cons_zero, List.set_cons_succ])
          first | (refine Reg.G_step (i := 4) rfl (by kernel_rfl) (by rfl) (fun K hK => ?_); go_big_quiet_op; refine hK _ ?_; clear hK K) | (refine Reg.G_skip (i := 4) rfl (by kernel_rfl) (by rfl) ?_; simp only [Act.put, List.setIfInBounds_toArray, List.set_cons_zero, List.set_cons_succ])
          first | (refine Reg.G_step (i := 5) rfl (by kernel_rfl) (by rfl) (fun K hK => ?_); go_big_quiet_op; refine hK _ ?_; clear hK K) | (refine Reg.G_skip (i := 5) rfl (by kernel_rfl) (by rfl) ?_; simp only [Act.put, List.setIfInBounds_toArray, List.set_cons_zero, List.set_cons_succ])
          first | (refine Reg.G_step (i := 6) rfl (by kernel_rfl) (by rfl) (fun K hK => ?_); go_big_quiet_op; refine hK _ ?_; clear hK K) | (refine Reg.G_skip (i := 6) rfl (by kernel_rfl) (by rfl) ?_; simp only [Act.put, List.setIfInBounds_toArray, List.set_cons_zero, List.set_cons_succ])
          first | (refine Reg.G_step (i := 7) rfl (by kernel_rfl) (by rfl) (fun K hK => ?_); go_big_quiet_op; refine hK _ ?_; clear hK K) | (refine Reg.G_skip (i := 7) rfl (by kernel_rfl) (by rfl) ?_; simp only [Act.put, List.setIfInBounds_toArray, List.set_cons_zero, List.set_cons_succ])
          first | (refine Reg.G_step (i := 8) rfl (by kernel_rfl) (by rfl) (fun K hK => ?_); go_big_quiet_op; refine hK _ ?_; clear hK K) | (refine Reg.G_skip (i := 8) rfl (by kernel_rfl) (by rfl) ?_; simp only [Act.put, List.setIfInBounds_toArray, List.set_cons_zero, List.set_cons_succ])
          first | (refine Reg.G_step (i := 9) rfl (by kernel_rfl) (by rfl) (fun K hK => ?_); go_big_quiet_op; refine hK _ ?_; clear hK K) | (refine Reg.G_skip (i := 9) rfl (by kernel_rfl) (by rfl) ?_; simp only [Act.put, List.setIfInBounds_toArray, List.set_cons_zero, List.set_cons_succ])
          first | (refine Reg.G_step (i := 10) rfl (by kernel_rfl) (by rfl) (fun K hK => ?_); go_big_quiet_op; refine hK _ ?_; clear hK K) | (refine Reg.G_skip (i := 10) rfl (by kernel_rfl) (by rfl) ?_; simp only [Act.put, List.setIfInBounds_toArray, List.set_cons_zero, List.set_cons_succ])
          first | (refine Reg.G_step (i := 11) rfl (by kernel_rfl) (by rfl) (fun K hK => ?_); go_big_quiet_op; refine hK _ ?_; clear hK K) | (refine Reg.G_skip (i := 11) rfl (by kernel_rfl) (by rfl) ?_; simp only [Act.put, List.setIfInBounds_toArray, List.set_cons_zero, List.set_cons_succ])
          first | (refine Reg.G_step (i := 12) rfl (by kernel_rfl) (by rfl) (fun K hK => ?_); go_big_quiet_op; refine hK _ ?_; clear hK K) | (refine Reg.G_skip (i := 12) rfl (by kernel_rfl) (by rfl) ?_; simp only [Act.put, List.setIfInBounds_toArray, List.set_cons_zero, List.set_cons_succ])
          first | (refine Reg.G_step (i := 13) rfl (by kernel_rfl) (by rfl) (fun K hK => ?_); go_big_quiet_op; refine hK _ ?_; clear hK K) | (refine Reg.G_skip (i := 13) rfl (by kernel_rfl) (by rfl) ?_; simp only [Act.put, List.setIfInBounds_toArray, List.set_cons_zero, List.set_cons_succ])
          first | (refine Reg.G_step (i := 14) rfl (by kernel_rfl) (by rfl) (fun K hK => ?_); go_big_quiet_op; refine hK _ ?_; clear hK K) | (refine Reg.G_skip (i := 14) rfl (by kernel_rfl) (by rfl) ?_; simp only [Act.put, List.setIfInBounds_toArray, List.set_cons_zero, List.set_cons_succ])
          refine Reg.G_done rfl ?_
          have HV := Lib.hid (bt HU.out hV)
          clear y0 y1 hV
          go_wp2_with fail
          go_roundw
          case rel => exact ⟨j + 1, by go_num, by omega, HMore.out, HV.out⟩
          case measure => simp [intOf]; omega
        · have hdf : D = false := by
            rw [HD.out, decide_eq_false_iff_not]
            intro e
            have h1 := HQ2.out.1 e j hjn
            rw [← HF1.out, ← HF2.out] at h1
            injection h1 with e1 e2
            exact hboth ⟨HE.out.trans (decide_eq_true e2), HB2.out.trans (decide_eq_true e1)⟩
          have hw : E = false ∨ (E = true ∧ b2' = false) := by cases E <;> cases b2' <;> simp_all
          subst hdf
          clear hboth HD
          rcases hw with rfl | ⟨rfl, rfl⟩
          all_goals
            try simp only [Bool.not_false] at hb3
            go_wp2_with fail
            refine Reg.G_start (by kernel_rfl) (by repeat (first | with_reducible exact Reg.frameless_bodyPost | with_reducible refine Reg.frameless_then ?_ | with_reducible refine Reg.frameless_inBlock ?_ | refine Reg.frameless_then ?_ | refine Reg.frameless_inBlock ?_)) (fun V hV => ?_)
            have y0 := Reg.later_cell (Below.refl _ V) (HC1.out V (bt HU.out hV)).1
            have y1 := Reg.later_cell (Below.refl _ V) (HC2.out V (bt HU.out hV)).1
            first | (refine Reg.G_step (i := 0) rfl (by kernel_rfl) (by rfl) (fun K hK => ?_); go_big_quiet_op; refine hK _ ?_; clear hK K) | (refine Reg.G_skip (i := 0) rfl (by kernel_rfl) (by rfl) ?_; simp only [Act.put, List.setIfInBounds_toArray, List.set_cons_zero, List.set_cons_succ])
            first | (refine Reg.G_step (i := 1) rfl (by kernel_rfl) (by rfl) (fun K hK => ?_); go_big_quiet_op; refine hK _ ?_; clear hK K) | (refine Reg.G_skip (i := 1) rfl (by kernel_rfl) (by rfl) ?_; simp only [Act.put, List.setIfInBounds_toArray, List.set_cons_zero, List.set_cons_succ])
            first | (refine Reg.G_step (i := 2) rfl (by kernel_rfl) (by rfl) (fun K hK => ?_); go_big_quiet_op; refine hK _ ?_; clear hK K) | (refine Reg.G_skip (i := 2) rfl (by kernel_rfl) (by rfl) ?_; simp only [Act.put, List.setIfInBounds_toArray, List.set_cons_zero, List.set_cons_succ])
            first | (refine Reg.G_step (i := 3) rfl (by kernel_rfl) (by rfl) (fun K hK => ?_); go_big_quiet_op; refine hK _ ?_; clear hK K) | (refine Reg.G_skip (i := 3) rfl (by kernel_rfl) (by rfl) ?_; simp only [Act.put, List.setIfInBounds_toArray, List.set_cons_zero, List.set_cons_succ])
            first | (refine Reg.G_step (i := 4) rfl (by kernel_rfl) (by rfl) (fun K hK => ?_); go_big_quiet_op; refine hK _ ?_; clear hK K) | (refine Reg.G_skip (i := 4) rfl (by kernel_rfl) (by rfl) ?_; simp only [Act.put, List.setIfInBounds_toArray, List.set_cons_zero, List.set_cons_succ])
            first | (refine Reg.G_step (i := 5) rfl (by kernel_rfl) (by rfl) (fun K hK => ?_); go_big_quiet_op; refine hK _ ?_; clear hK K) | (refine Reg.G_skip (i := 5) rfl (by kernel_rfl) (by rfl) ?_; simp only [Act.put, List.setIfInBounds_toArray, List.set_cons_zero, List.set_cons_succ])
            first | (refine Reg.G_step (i := 6) rfl (by kernel_rfl) (by rfl) (fun K hK => ?_); go_big_quiet_op; refine hK _ ?_; clear hK K) | (refine Reg.G_skip (i := 6) rfl (by kernel_rfl) (by rfl) ?_; simp only [Act.put, List.setIfInBounds_toArray, List.set_cons_zero, List.set_cons_succ])
            first | (refine Reg.G_step (i := 7) rfl (by kernel_rfl) (by rfl) (fun K hK => ?_); go_big_quiet_op; refine hK _ ?_; clear hK K) | (refine Reg.G_skip (i := 7) rfl (by kernel_rfl) (by rfl) ?_; simp only [Act.put, List.setIfInBounds_toArray, List.set_cons_zero, List.set_cons_succ])
            first | (refine Reg.G_step (i := 8) rfl (by kernel_rfl) (by rfl) (fun K hK => ?_); go_big_quiet_op; refine hK _ ?_; clear hK K) | (refine Reg.G_skip (i := 8) rfl (by kernel_rfl) (by rfl) ?_; simp only [Act.put, List.setIfInBounds_toArray, List.set_cons_zero, List.set_cons_succ])
            first | (refine Reg.G_step (i := 9) rfl (by kernel_rfl) (by rfl) (fun K hK => ?_); go_big_quiet_op; refine hK _ ?_; clear hK K) | (refine Reg.G_skip (i := 9) rfl (by kernel_rfl) (by rfl) ?_; simp only [Act.put, List.setIfInBounds_toArray, List.set_cons_zero, List.set_cons_succ])
            first | (refine Reg.G_step (i := 10) rfl (by kernel_rfl) (by rfl) (fun K hK => ?_); go_big_quiet_op; refine hK _ ?_; clear hK K) | (refine Reg.G_skip (i := 10) rfl (by kernel_rfl) (by rfl) ?_; simp only [Act.put, List.setIfInBounds_toArray, List.set_cons_zero, List.set_cons_succ])
            first | (refine Reg.G_step (i := 11) rfl (by kernel_rfl) (by rfl) (fun K hK => ?_); go_big_quiet_op; refine hK _ ?_; clear hK K) | (refine Reg.G_skip (i := 11) rfl (by kernel_rfl) (by rfl) ?_; simp only [Act.put, List.setIfInBounds_toArray, List.set_cons_zero, List.set_cons_succ])
            first | (refine Reg.G_step (i := 12) rfl (by kernel_rfl) (by rfl) (fun K hK => ?_); go_big_quiet_op; refine hK _ ?_; clear hK K) | (refine Reg.G_skip (i := 12) rfl (by kernel_rfl) (by rfl) ?_; simp only [Act.put, List.setIfInBounds_toArray, List.set_cons_zero, List.set_cons_succ])
            first | (refine Reg.G_step (i := 13) rfl (by kernel_rfl) (by rfl) (fun K hK => ?_); go_big_quiet_op; refine hK _ ?_; clear hK K) | (refine Reg.G_skip (i := 13) rfl (by kernel_rfl) (by rfl) ?_; simp only [Act.put, List.setIfInBounds_toArray, List.set_cons_zero, List.set_cons_succ])
            first | (refine Reg.G_step (i := 14) rfl (by kernel_rfl) (by rfl) (fun K hK => ?_); go_big_quiet_op; refine hK _ ?_; clear hK K) | (refine Reg.G_skip (i := 14) rfl (by kernel_rfl) (by rfl) ?_; simp only [Act.put, List.setIfInBounds_toArray, List.set_cons_zero, List.set_cons_succ])
            refine Reg.G_done rfl ?_
            have HV := Lib.hid (bt HU.out hV)
            clear y0 y1 hV
            go_wp2_with fail
            go_ret
            exact ⟨ret_v (x := .bool false) rfl, HV.out⟩
      · obtain rfl : j = n := by omega
        have hdt : D = true := by rw [HD.out, decide_eq_true_iff]; exact HQ2.out.2 HSm.out
        subst hdt
        clear HD
        go_wp2_with fail
        go_ret
        exact ⟨ret_v (x := .bool true) rfl, HBl.out⟩
  · have hd : D = false := by rw [HD.out, decide_eq_false_iff_not]; exact HNe.out g
    subst hd
    have g2 : ¬ ((n : Int) = r) := by omega
    have g1 : ((n : Int) != r) = true := by rw [bne_iff_ne]; exact g2
    clear HD HQ HNe
    go_enter Try.func14, Try.ntmps14
    go_wp2_with fail
    go_ret
    exact ⟨ret_v (x := .bool false) rfl, Below.refl _ _⟩
end Go.Proofs.Ytochpomddfjkoaa.Ix

namespace Go.Proofs.Ytochpomddfjkoaa.Ix
open Go.RowKit Go.Proofs.Ytochpomddfjkoaa.BM Go.Proofs.Ytochpomddfjkoaa.LM Go.Proofs.Ytochpomddfjkoaa.VaM
open Go.Proofs.Ytochpomddfjkoaa.Va (ret_v)
open Go.Proofs.Ytochpomddfjkoaa.Bo (SlBo slBo_len)

set_option maxRecDepth 100000 in
set_option maxHeartbeats 4000000 in
theorem refBools_any (a b : List Bool) (A : Option Addr) (c : Nat) (B : Option Addr) (d : Nat) (w : World) (h : SlBo w A a c) (k : SlBo w B b d) :
    Calls Try.prog 17 #[.slice A a.length c, .slice B b.length d] w fun e w' => e = .returned (.bool (decide (a = b))) ∧ Below w.heap.size w w' := by
  have hl := slBo_len h
  have hm := slBo_len k
  have hq := @list_iff Bool false a b
  have hne : a.length ≠ b.length → a ≠ b := fun h e => h (by rw [e])
  obtain ⟨D, hD⟩ : ∃ D, D = decide (a = b) := ⟨_, rfl⟩
  rw [← hD]
  obtain ⟨n, hn⟩ : ∃ n, n = a.length := ⟨_, rfl⟩
  obtain ⟨r, hr⟩ : ∃ r, r = b.length := ⟨_, rfl⟩
  rw [← hn] at hl ⊢
  rw [← hr] at hm ⊢
  rw [← hn, ← hr] at hq hne
  have HD := Lib.hid hD
  have HN := Lib.hid hn
  have HR := Lib.hid hr
  have HS := Lib.hid h
  have HT := Lib.hid k
  have HQ := Lib.hid hq
  have HNe := Lib.hid hne
  clear hn hr h k hq hne hD
  by_cases g : n = r
  · subst g
    have HQ2 := Lib.hid (HQ.out rfl)
    have ee : ((n : Int) != n) = false := by simp
    clear HQ HNe
    go_enter Try.func17, Try.ntmps17
    go_wp2_with fail
    go_loopw [5] (fun i wr => ∃ j : Nat, i = .int .i64 j ∧ j ≤ n ∧ (∀ x, x < j → a.getD x false = b.getD x false) ∧ Below w.heap.size w wr) (fun i _ => n - (intOf i).toNat)
    case atStart => exact ⟨0, rfl, Nat.zero_le _, fun x hx => absurd hx (Nat.not_lt_zero x), Below.refl _ _⟩
    case round =>
      obtain ⟨j, rfl, hj, hsame, hbel⟩ := hrel
      have HSm := Lib.hid hsame
      have HBl := Lib.hid hbel
      clear hsame hbel
      by_cases hjn : j < n
      · obtain ⟨b1, q1, hix1, hc1⟩ := HS.out.at j (by rw [← HN.out]; exact hjn)
        obtain ⟨b2, q2, hix2, hc2⟩ := HT.out.at j (by rw [← HR.out]; exact hjn)
        obtain ⟨f1, hf1⟩ : ∃ f, f = a.getD j false := ⟨_, rfl⟩
        obtain ⟨f2, hf2⟩ : ∃ f, f = b.getD j false := ⟨_, rfl⟩
        rw [← hf1] at hc1
        rw [← hf2] at hc2
        have hi1 := fun W => hix1 W n c hjn
        have hi2 := fun W => hix2 W n d hjn
        have x0 := hc1 wr HBl.out
        have x1 := hc2 wr HBl.out
        have HF1 := Lib.hid hf1
        have HF2 := Lib.hid hf2
        clear hc1 hc2 hix1 hix2 hf1 hf2
        by_cases hboth : f1 = f2
        · subst hboth
          have hmore : ∀ x, x < j + 1 → a.getD x false = b.getD x false := by
            intro x hx
            rcases Nat.lt_or_eq_of_le (Nat.le_of_lt_succ hx) with hx | rfl
            · exact HSm.out x hx
            · rw [← HF1.out, ← HF2.out]
          have HMore := Lib.hid hmore
          have hee : (f1 != f1) = false := by simp
          clear hmore
          go_wp2_with fail
          go_quiet (fail)
          go_wp2_with fail
          go_roundw
          case rel => exact ⟨j + 1, by go_num, by omega, HMore.out, below_drewN HBl.out _⟩
          case measure => simp [intOf]; omega
        · have hdf : D = false := by
            rw [HD.out, decide_eq_false_iff_not]
            intro e
            have h1 := HQ2.out.1 e j hjn
            rw [← HF1.out, ← HF2.out] at h1
            exact hboth h1
          have hw : (f1 = true ∧ f2 = false) ∨ (f1 = false ∧ f2 = true) := by cases f1 <;> cases f2 <;> simp_all
          subst hdf
          clear hboth HD HF1 HF2
          rcases hw with ⟨rfl, rfl⟩ | ⟨rfl, rfl⟩
          all_goals
            go_wp2_with fail
            go_quiet (fail)
            go_wp2_with fail
            go_ret
            exact ⟨ret_v (x := .bool false) rfl, below_drewN HBl.out _⟩
      · obtain rfl : j = n := by omega
        have hdt : D = true := by rw [HD.out, decide_eq_true_iff]; exact HQ2.out.2 HSm.out
        subst hdt
        clear HD
        go_wp2_with fail
        go_ret
        exact ⟨ret_v (x := .bool true) rfl, HBl.out⟩
  · have hd : D = false := by rw [HD.out, decide_eq_false_iff_not]; exact HNe.out g
    subst hd
    have g2 : ¬ ((n : Int) = r) := by omega
    have g1 : ((n : Int) != r) = true := by rw [bne_iff_ne]; exact g2
    clear HD HQ HNe
    go_enter Try.func17, Try.ntmps17
    go_wp2_with fail
    go_ret
    exact ⟨ret_v (x := .bool false) rfl, Below.refl _ _⟩
end Go.Proofs.Ytochpomddfjkoaa.Ix

namespace Go.Proofs.Ytochpomddfjkoaa.Ex
open Go.RowKit Go.Proofs.Ytochpomddfjkoaa.BM Go.Proofs.Ytochpomddfjkoaa.VaM Go.Proofs.Ytochpomddfjkoaa.Va Go.Proofs.Ytochpomddfjkoaa.ExM Go.Proofs.Ytochpomddfjkoaa.EvM

/-- An expression of few parts, of few bytes. -/
def Few (l : List O) : Prop := l.length ≤ 20 ∧ ∀ i, i < l.length → (l.getD i o0).v.s.size ≤ 100
instance (l : List O) : Decidable (Few l) := by unfold Few; infer_instance

set_option maxRecDepth 100000 in
set_option maxHeartbeats 1000000 in
theorem Few_any (l : List O) (A : Option Addr) (c : Nat) (w : World) (hS : SlO w A l c) :
    Calls Try.prog 13 #[.slice A l.length c] w fun e w' => e = .returned (.bool (decide (Few l))) ∧ Below w.heap.size w w' := by
  have hl := slO_len hS
  have hfew : Few l ↔ l.length ≤ 20 ∧ ∀ i, i < l.length → (l.getD i o0).v.s.size ≤ 100 := Iff.rfl
  obtain ⟨n, hn⟩ : ∃ n, n = l.length := ⟨_, rfl⟩
  rw [← hn] at hl hfew ⊢
  have HLen := Lib.hid hn
  have HS := Lib.hid hS
  have HFew := Lib.hid hfew
  clear hn hS hfew
  by_cases m1 : n ≤ 20
  · have hd1 : decide ((20 : Int) < (n : Int)) = false := by rw [decide_eq_false_iff_not]; omega
    have HF := Lib.hid (show Few l ↔ ∀ i, i < n → (l.getD i o0).v.s.size ≤ 100 from ⟨fun h => (HFew.out.1 h).2, fun h => HFew.out.2 ⟨m1, h⟩⟩)
    clear m1 HFew
    go_enter Try.func13, Try.ntmps13
    go_wp2_with fail
    go_loopw [3] (fun i wr => ∃ j : Nat, i = .int .i64 j ∧ j ≤ n ∧ (∀ r, r < j → (l.getD r o0).v.s.size ≤ 100) ∧ wr = w) (fun i _ => n - (intOf i).toNat)
    case atStart => exact ⟨0, rfl, Nat.zero_le _, fun r hr => absurd hr (Nat.not_lt_zero r), rfl⟩
    case round =>
      obtain ⟨j, rfl, hj, hall, rfl⟩ := hrel
      have HAl := Lib.hid hall
      clear hall
      by_cases hjn : j < n
      · obtain ⟨b, q, hix, hc, hfz⟩ := HS.out.at j (by rw [← HLen.out]; exact hjn)
        obtain ⟨⟨fc, fa, fk, fn, fs⟩, hf⟩ : ∃ f, f = l.getD j o0 := ⟨_, rfl⟩
        rw [← hf] at hc hfz
        obtain ⟨_, _, _, _, c0⟩ := hc wr (Below.refl _ _)
        have hsz := hfz.1
        simp only at c0 hsz
        unfold maxLen at hsz
        have hi := fun W => hix W n c hjn
        have HFl := Lib.hid hf
        clear hc hix hf hfz
        by_cases h60 : fs.size ≤ 100
        · have hd3 : decide ((100 : Int) < (fs.size : Int)) = false := by rw [decide_eq_false_iff_not]; omega
          have HY := Lib.hid h60
          clear h60
          go_wp2_with fail
          go_roundw
          case rel =>
            refine ⟨j + 1, by go_num, by omega, fun r hr => ?_, by trivial⟩
            by_cases e : r = j
            · rw [e, ← HFl.out]
              exact HY.out
            · exact HAl.out r (by omega)
          case measure => simp [intOf]; omega
        · have hd3 : decide ((100 : Int) < (fs.size : Int)) = true := by rw [decide_eq_true_iff]; omega
          have HNo := Lib.hid (show ¬ Few l from fun h => h60 (by have := HF.out.1 h j hjn; rw [← HFl.out] at this; exact this))
          clear h60
          go_wp2_with fail
          go_ret
          exact ⟨ret_v (x := .bool false) (by rw [decide_eq_false HNo.out]), Below.refl _ _⟩
      · obtain rfl : j = n := by omega
        have HYes := Lib.hid (HF.out.2 HAl.out)
        go_wp2_with fail
        go_ret
        exact ⟨ret_v (x := .bool true) (by rw [decide_eq_true HYes.out]), Below.refl _ _⟩
  · have hd1 : decide ((20 : Int) < (n : Int)) = true := by rw [decide_eq_true_iff]; omega
    have HNo := Lib.hid (show ¬ Few l from fun h => m1 (HFew.out.1 h).1)
    clear m1
    go_enter Try.func13, Try.ntmps13
    go_wp2_with fail
    go_ret
    exact ⟨ret_v (x := .bool false) (by rw [decide_eq_false HNo.out]), Below.refl _ _⟩
end Go.Proofs.Ytochpomddfjkoaa.Ex

namespace Go.Proofs.Ytochpomddfjkoaa.Qy
open Go.RowKit Go.Proofs.Ytochpomddfjkoaa.BM Go.Proofs.Ytochpomddfjkoaa.LM Go.Proofs.Ytochpomddfjkoaa.VaM Go.Proofs.Ytochpomddfjkoaa.ExM Go.Proofs.Ytochpomddfjkoaa.QyM
open Go.Proofs.Ytochpomddfjkoaa.Ex (SlO slO_none slO_len)
open Go.Proofs.Ytochpomddfjkoaa.Va (ret_v)

/-- Is a step small? -/
def FewSt (x : St) : Prop := Ex.Few x.f ∧ Ex.Few x.h ∧ x.s.size ≤ 60 ∧ x.t.size ≤ 60
instance (x : St) : Decidable (FewSt x) := by unfold FewSt; infer_instance
/-- A few steps, each a small one. -/
def Few (q : Q) : Prop := q.p.length ≤ 8 ∧ ∀ i, i < q.p.length → FewSt (q.p.getD i t0)
instance (q : Q) : Decidable (Few q) := by unfold Few; infer_instance

set_option maxRecDepth 100000 in
set_option maxHeartbeats 4000000 in
theorem Few_any (q : Q) (A : Option Addr) (c : Nat) (w : World) (hS : SlSt w A q.p c) :
    Calls Try.prog 26 #[agQ q A c] w fun e w' => e = .returned (.bool (decide (Few q))) ∧ Below w.heap.size w w' := by
  have hl := slSt_len hS
  have hfew : Few q ↔ q.p.length ≤ 8 ∧ ∀ i, i < q.p.length → FewSt (q.p.getD i t0) := Iff.rfl
  have hX := (bxQ_new w q A c).kept (Below.refl _ _)
  have hb1 := (Below.refl w.heap.size w).alloc (Nat.le_refl _) (.cells #[.slice A q.p.length c, .int .i64 q.w, .int .i64 q.a, .int .i64 q.i, .int .i64 q.f] 45)
  obtain ⟨R, hR⟩ : ∃ R, R = decide (Few q) := ⟨_, rfl⟩
  unfold agQ
  rw [← hR]
  have hr : R = true ↔ q.p.length ≤ 8 ∧ ∀ i, i < q.p.length → FewSt (q.p.getD i t0) := by rw [hR, decide_eq_true_iff, hfew]
  obtain ⟨qp, qw, qa, qi, qf⟩ := q
  simp only at hS hl hX hb1 hr ⊢
  unfold BxQ encQ at hX
  simp only at hX
  obtain ⟨n, hn⟩ : ∃ n, n = qp.length := ⟨_, rfl⟩
  rw [← hn] at hl hX hb1 hr ⊢
  have HLen := Lib.hid hn
  have HS := Lib.hid hS
  have HR := Lib.hid hr
  have HFa := Lib.hid (fun h : ¬ (n ≤ 8 ∧ ∀ i, i < n → FewSt (qp.getD i t0)) => by
    cases R
    · rfl
    · exact absurd (hr.1 rfl) h
    : ¬ (n ≤ 8 ∧ ∀ i, i < n → FewSt (qp.getD i t0)) → R = false)
  have HX := Lib.hid hX
  have HB1 := Lib.hid hb1
  obtain ⟨p0, _⟩ := hX 0 _ rfl
  clear hn hS hfew hX hb1 hr hR
  by_cases m1 : n ≤ 8
  · have hd1 : decide ((8 : Int) < (n : Int)) = false := by rw [decide_eq_false_iff_not]; omega
    have hd1' : decide (8 < n) = false := by rw [decide_eq_false_iff_not]; omega
    go_enter Try.func26, Try.ntmps26
    go_wp2_with fail
    obtain ⟨w1, hw1⟩ : ∃ w1, w1 = w.alloc (.cells #[.slice A n c, .int .i64 qw, .int .i64 qa, .int .i64 qi, .int .i64 qf] 45) := ⟨_, rfl⟩
    rw [← hw1] at p0 HB1 ⊢
    have HP0 := Lib.hid (fun W (hW : Below w1.heap.size w1 W) => (hW.cell (p := ⟨w.heap.size, 0, none⟩) (World.block_lt_of_cell? w1 _ p0)).trans p0)
    clear hw1 p0 HX
    go_loopw [3] (fun i wr => ∃ j : Nat, i = .int .i64 j ∧ j ≤ n ∧ (∀ i, i < j → FewSt (qp.getD i t0)) ∧ Below w1.heap.size w1 wr) (fun i _ => n - (intOf i).toNat)
    case atStart => exact ⟨0, rfl, Nat.zero_le _, (fun i hi => absurd hi (Nat.not_lt_zero i)), Below.refl _ _⟩
    case round =>
      obtain ⟨j, rfl, hj, hall, hbel⟩ := hrel
      have HAl := Lib.hid hall
      have HBl := Lib.hid hbel
      have p0 := HP0.out wr hbel
      clear hall hbel
      by_cases hjn : j < n
      · obtain ⟨b1, q1, A1, c1, C1, d1, hix1, hc1, _⟩ := HS.out.at j (by rw [← HLen.out]; exact hjn)
        obtain ⟨hcell1, hA1, hC1⟩ := hc1 wr (bt HB1.out HBl.out)
        have hi1 := fun W => hix1 W n c hjn
        obtain ⟨x, hx⟩ : ∃ x, x = qp.getD j t0 := ⟨_, rfl⟩
        rw [← hx] at hcell1 hA1 hC1
        have hsucc : FewSt x → ∀ i, i < j + 1 → FewSt (qp.getD i t0) := fun h i hi => by
          by_cases e : i = j
          · rw [e, ← hx]
            exact h
          · exact HAl.out i (by omega)
        have hfail : ¬ FewSt x → R = false := fun h => HFa.out (fun k => h (by rw [hx]; exact k.2 j hjn))
        have hm1 := fun W (h : Below wr.heap.size wr W) => Ex.Few_any x.f A1 c1 W (hA1.kept h)
        have hm2 := fun W (h : Below wr.heap.size wr W) => Ex.Few_any x.h C1 d1 W (hC1.kept h)
        have hX := bxSt_new wr x A1 c1 C1 d1
        have hb1 := (Below.refl wr.heap.size wr).alloc (Nat.le_refl _) (.cells #[.string x.s, .slice A1 x.f.length c1, .int .i64 x.lo, .int .i64 x.hi, .bool x.g, .string x.t, .slice C1 x.h.length d1] 47)
        have hXk := fun W h => (BxSt.kept hX (w' := W) h).cells
        have hXc := hX.cells
        obtain ⟨z1, e1⟩ : ∃ z, decide (Ex.Few x.f) = z := ⟨_, rfl⟩
        obtain ⟨z2, e2⟩ : ∃ z, decide (Ex.Few x.h) = z := ⟨_, rfl⟩
        obtain ⟨z3, e3⟩ : ∃ z, decide ((60 : Int) < (x.s.size : Int)) = z := ⟨_, rfl⟩
        obtain ⟨z4, e4⟩ : ∃ z, decide ((60 : Int) < (x.t.size : Int)) = z := ⟨_, rfl⟩
        have e3' : decide (60 < x.s.size) = z3 := by rw [← e3]; exact decide_eq_decide.2 (by omega)
        have e4' : decide (60 < x.t.size) = z4 := by rw [← e4]; exact decide_eq_decide.2 (by omega)
        have hiff : FewSt x ↔ z1 = true ∧ z2 = true ∧ z3 = false ∧ z4 = false := by
          unfold FewSt
          rw [← e1, ← e2, ← e3', ← e4', decide_eq_true_iff, decide_eq_true_iff, decide_eq_false_iff_not, decide_eq_false_iff_not, Nat.not_lt, Nat.not_lt]
        simp only [e1] at hm1
        simp only [e2] at hm2
        unfold CellSt at hcell1 hXc hXk
        obtain ⟨xs, xf, xlo, xhi, xg, xt, xh⟩ := x
        simp only at hcell1 hXc hXk hb1 hm1 hm2 e3 e4 e3' e4'
        obtain ⟨n1, hn1⟩ : ∃ n, n = xf.length := ⟨_, rfl⟩
        obtain ⟨n2, hn2⟩ : ∃ n, n = xh.length := ⟨_, rfl⟩
        simp only [← hn1, ← hn2] at hcell1 hXc hXk hb1 hm1 hm2
        have HM1 := Lib.hid hm1
        have HM2 := Lib.hid hm2
        have HXk := Lib.hid hXk
        have HBb := Lib.hid hb1
        have HSu := Lib.hid hsucc
        have HFl := Lib.hid hfail
        have HIf := Lib.hid hiff
        obtain ⟨x0, x1, x2, x3, x4, x5, x6⟩ := hcell1
        obtain ⟨r0, r1, r2, r3, r4, r5, r6⟩ := hXc
        clear hx hc1 hix1 hA1 hC1 hX hsucc hfail hiff hm1 hm2 hXk hb1 e1 e2 hn1 hn2
        go_wp2_with fail
        refine (HM1.out _ HBb.out).mono ?_
        rintro e w2 ⟨rfl, hb2⟩
        have HB2 := Lib.hid (bt HBb.out hb2)
        have HK2 := Lib.hid hb2
        obtain ⟨y0, y1, y2, y3, y4, y5, y6⟩ := HXk.out w2 hb2
        clear hb2 x0 x1 x2 x3 x4 x5 x6 r0 r1 r2 r3 r4 r5 r6
        go_wp2_with fail
        refine (HM2.out _ HB2.out).mono ?_
        rintro e w3 ⟨rfl, hb3⟩
        have HB3 := Lib.hid (bt HBl.out (bt HB2.out hb3))
        obtain ⟨x0, x1, x2, x3, x4, x5, x6⟩ := HXk.out w3 (bt HK2.out hb3)
        clear hb3 y0 y1 y2 y3 y4 y5 y6
        by_cases hF : z1 = true ∧ z2 = true ∧ z3 = false ∧ z4 = false
        · obtain ⟨rfl, rfl, rfl, rfl⟩ := hF
          have HAll := Lib.hid (HSu.out (HIf.out.2 ⟨rfl, rfl, rfl, rfl⟩))
          go_wp2_with fail
          go_roundw
          case rel => exact ⟨j + 1, by go_num, by omega, HAll.out, HB3.out⟩
          case measure => simp [intOf]; omega
        · have HNo := Lib.hid (HFl.out (fun h => hF (HIf.out.1 h)))
          cases z1 <;> cases z2 <;> cases z3 <;> cases z4
          all_goals first
            | exact absurd ⟨rfl, rfl, rfl, rfl⟩ hF
            | (clear hF
               go_wp2_with fail
               go_ret
               exact ⟨ret_v (x := .bool false) (by rw [HNo.out]), bt HB1.out HB3.out⟩)
      · obtain rfl : j = n := by omega
        have HYes := Lib.hid (HR.out.2 ⟨m1, HAl.out⟩)
        go_wp2_with fail
        go_ret
        exact ⟨ret_v (x := .bool true) (by rw [HYes.out]), bt HB1.out HBl.out⟩
  · have hd1 : decide ((8 : Int) < (n : Int)) = true := by rw [decide_eq_true_iff]; omega
    have hd1' : decide (8 < n) = true := by rw [decide_eq_true_iff]; omega
    have HNo := Lib.hid (HFa.out (fun h => m1 h.1))
    clear m1
    go_enter Try.func26, Try.ntmps26
    go_wp2_with fail
    go_ret
    exact ⟨ret_v (x := .bool false) (by rw [HNo.out]), HB1.out⟩
end Go.Proofs.Ytochpomddfjkoaa.Qy

namespace Go.Proofs.Ytochpomddfjkoaa.Ix
open Go.RowKit Go.Proofs.Ytochpomddfjkoaa.BM Go.Proofs.Ytochpomddfjkoaa.VaM Go.Proofs.Ytochpomddfjkoaa.ExM Go.Proofs.Ytochpomddfjkoaa.QyM Go.Proofs.Ytochpomddfjkoaa.IxM
open Go.Proofs.Ytochpomddfjkoaa.Qy (SlQ slQ_len agQ)
open Go.Proofs.Ytochpomddfjkoaa.Va (ret_v)

/-- Few queries, of few steps. -/
def QsFew (l : List Q) : Prop := l.length ≤ 6 ∧ ∀ i, i < l.length → Qy.Few (l.getD i q0)
instance (l : List Q) : Decidable (QsFew l) := by unfold QsFew; infer_instance

set_option maxRecDepth 100000 in
set_option maxHeartbeats 1000000 in
theorem QsFew_any (l : List Q) (A : Option Addr) (c : Nat) (w : World) (hS : SlQ w A l c) :
    Calls Try.prog 10 #[.slice A l.length c] w fun e w' => e = .returned (.bool (decide (QsFew l))) ∧ Below w.heap.size w w' := by
  have hl := slQ_len hS
  have hfew : QsFew l ↔ l.length ≤ 6 ∧ ∀ i, i < l.length → Qy.Few (l.getD i q0) := Iff.rfl
  obtain ⟨n, hn⟩ : ∃ n, n = l.length := ⟨_, rfl⟩
  rw [← hn] at hl hfew ⊢
  have HLen := Lib.hid hn
  have HS := Lib.hid hS
  have HFew := Lib.hid hfew
  clear hn hS hfew
  by_cases m1 : n ≤ 6
  · have hd1 : decide ((6 : Int) < (n : Int)) = false := by rw [decide_eq_false_iff_not]; omega
    have HF := Lib.hid (show QsFew l ↔ ∀ i, i < n → Qy.Few (l.getD i q0) from ⟨fun h => (HFew.out.1 h).2, fun h => HFew.out.2 ⟨m1, h⟩⟩)
    clear m1 HFew
    go_enter Try.func10, Try.ntmps10
    go_wp2_with fail
    go_loopw [3] (fun i wr => ∃ j : Nat, i = .int .i64 j ∧ j ≤ n ∧ (∀ r, r < j → Qy.Few (l.getD r q0)) ∧ Below w.heap.size w wr) (fun i _ => n - (intOf i).toNat)
    case atStart => exact ⟨0, rfl, Nat.zero_le _, fun r hr => absurd hr (Nat.not_lt_zero r), Below.refl _ _⟩
    case round =>
      obtain ⟨j, rfl, hj, hall, hbel⟩ := hrel
      have HAl := Lib.hid hall
      have HBl := Lib.hid hbel
      clear hall hbel
      by_cases hjn : j < n
      · obtain ⟨b, q, A1, c1, hix, hc, _⟩ := HS.out.at j (by rw [← HLen.out]; exact hjn)
        obtain ⟨f, hf⟩ : ∃ f, f = l.getD j q0 := ⟨_, rfl⟩
        rw [← hf] at hc
        obtain ⟨⟨x0, x1, x2, x3, x4⟩, y0⟩ := hc wr HBl.out
        have HF5 := Lib.hid (Qy.Few_any f A1 c1 wr y0)
        have hi := fun W => hix W n c hjn
        have HFl := Lib.hid hf
        clear hc hix hf y0
        obtain ⟨fp, fw, fa, fi, ff⟩ := f
        unfold agQ at HF5
        simp only at x0 x1 x2 x3 x4 HF5
        obtain ⟨k, hk⟩ : ∃ k, k = fp.length := ⟨_, rfl⟩
        rw [← hk] at x0 HF5
        clear hk
        go_wp2_with fail
        refine HF5.out.mono ?_
        rintro e w2 ⟨rfl, hb2⟩
        have HB2 := Lib.hid (bt HBl.out hb2)
        clear hb2 x0 x1 x2 x3 x4 hi
        by_cases hok : Qy.Few ⟨fp, fw, fa, fi, ff⟩
        · rw [decide_eq_true hok]
          have HOk := Lib.hid hok
          clear hok
          go_wp2_with fail
          go_roundw
          case rel =>
            refine ⟨j + 1, by go_num, by omega, fun r hr => ?_, HB2.out⟩
            by_cases e : r = j
            · rw [e, ← HFl.out]
              exact HOk.out
            · exact HAl.out r (by omega)
          case measure => simp [intOf]; omega
        · rw [decide_eq_false hok]
          have HNo := Lib.hid (show ¬ QsFew l from fun h => hok (by have := HF.out.1 h j hjn; rw [← HFl.out] at this; exact this))
          clear hok
          go_wp2_with fail
          go_ret
          exact ⟨ret_v (x := .bool false) (by rw [decide_eq_false HNo.out]), HB2.out⟩
      · obtain rfl : j = n := by omega
        have HYes := Lib.hid (HF.out.2 HAl.out)
        go_wp2_with fail
        go_ret
        exact ⟨ret_v (x := .bool true) (by rw [decide_eq_true HYes.out]), HBl.out⟩
  · have hd1 : decide ((6 : Int) < (n : Int)) = true := by rw [decide_eq_true_iff]; omega
    have HNo := Lib.hid (show ¬ QsFew l from fun h => m1 (HFew.out.1 h).1)
    clear m1
    go_enter Try.func10, Try.ntmps10
    go_wp2_with fail
    go_ret
    exact ⟨ret_v (x := .bool false) (by rw [decide_eq_false HNo.out]), Below.refl _ _⟩
/-- Few that are asked, of few parts. -/
def PrsFew (l : List Pr) : Prop := l.length ≤ 40 ∧ ∀ i, i < l.length → Ex.Few (l.getD i p0).f
instance (l : List Pr) : Decidable (PrsFew l) := by unfold PrsFew; infer_instance

set_option maxRecDepth 100000 in
set_option maxHeartbeats 1000000 in
theorem PrsFew_any (l : List Pr) (A : Option Addr) (c : Nat) (w : World) (hS : SlPr w A l c) :
    Calls Try.prog 11 #[.slice A l.length c] w fun e w' => e = .returned (.bool (decide (PrsFew l))) ∧ Below w.heap.size w w' := by
  have hl := slPr_len hS
  have hfew : PrsFew l ↔ l.length ≤ 40 ∧ ∀ i, i < l.length → Ex.Few (l.getD i p0).f := Iff.rfl
  obtain ⟨n, hn⟩ : ∃ n, n = l.length := ⟨_, rfl⟩
  rw [← hn] at hl hfew ⊢
  have HLen := Lib.hid hn
  have HS := Lib.hid hS
  have HFew := Lib.hid hfew
  clear hn hS hfew
  by_cases m1 : n ≤ 40
  · have hd1 : decide ((40 : Int) < (n : Int)) = false := by rw [decide_eq_false_iff_not]; omega
    have HF := Lib.hid (show PrsFew l ↔ ∀ i, i < n → Ex.Few (l.getD i p0).f from ⟨fun h => (HFew.out.1 h).2, fun h => HFew.out.2 ⟨m1, h⟩⟩)
    clear m1 HFew
    go_enter Try.func11, Try.ntmps11
    go_wp2_with fail
    go_loopw [3] (fun i wr => ∃ j : Nat, i = .int .i64 j ∧ j ≤ n ∧ (∀ r, r < j → Ex.Few (l.getD r p0).f) ∧ Below w.heap.size w wr) (fun i _ => n - (intOf i).toNat)
    case atStart => exact ⟨0, rfl, Nat.zero_le _, fun r hr => absurd hr (Nat.not_lt_zero r), Below.refl _ _⟩
    case round =>
      obtain ⟨j, rfl, hj, hall, hbel⟩ := hrel
      have HAl := Lib.hid hall
      have HBl := Lib.hid hbel
      clear hall hbel
      by_cases hjn : j < n
      · obtain ⟨b, q, A1, c1, hix, hc, _⟩ := HS.out.at j (by rw [← HLen.out]; exact hjn)
        obtain ⟨f, hf⟩ : ∃ f, f = l.getD j p0 := ⟨_, rfl⟩
        rw [← hf] at hc
        obtain ⟨⟨x0, x1⟩, y0⟩ := hc wr HBl.out
        have HF5 := Lib.hid (Ex.Few_any f.f A1 c1 wr y0)
        have hi := fun W => hix W n c hjn
        have HFl := Lib.hid hf
        clear hc hix hf y0
        obtain ⟨fs, ff⟩ := f
        simp only at x0 x1 HF5
        obtain ⟨k, hk⟩ : ∃ k, k = ff.length := ⟨_, rfl⟩
        rw [← hk] at x1 HF5
        clear hk
        go_wp2_with fail
        refine HF5.out.mono ?_
        rintro e w2 ⟨rfl, hb2⟩
        have HB2 := Lib.hid (bt HBl.out hb2)
        clear hb2 x0 x1 hi
        by_cases hok : Ex.Few ff
        · rw [decide_eq_true hok]
          have HOk := Lib.hid hok
          clear hok
          go_wp2_with fail
          go_roundw
          case rel =>
            refine ⟨j + 1, by go_num, by omega, fun r hr => ?_, HB2.out⟩
            by_cases e : r = j
            · rw [e, ← HFl.out]
              exact HOk.out
            · exact HAl.out r (by omega)
          case measure => simp [intOf]; omega
        · rw [decide_eq_false hok]
          have HNo := Lib.hid (show ¬ PrsFew l from fun h => hok (by have := HF.out.1 h j hjn; rw [← HFl.out] at this; exact this))
          clear hok
          go_wp2_with fail
          go_ret
          exact ⟨ret_v (x := .bool false) (by rw [decide_eq_false HNo.out]), HB2.out⟩
      · obtain rfl : j = n := by omega
        have HYes := Lib.hid (HF.out.2 HAl.out)
        go_wp2_with fail
        go_ret
        exact ⟨ret_v (x := .bool true) (by rw [decide_eq_true HYes.out]), HBl.out⟩
  · have hd1 : decide ((40 : Int) < (n : Int)) = true := by rw [decide_eq_true_iff]; omega
    have HNo := Lib.hid (show ¬ PrsFew l from fun h => m1 (HFew.out.1 h).1)
    clear m1
    go_enter Try.func11, Try.ntmps11
    go_wp2_with fail
    go_ret
    exact ⟨ret_v (x := .bool false) (by rw [decide_eq_false HNo.out]), Below.refl _ _⟩
end Go.Proofs.Ytochpomddfjkoaa.Ix

namespace Go.Proofs.Ytochpomddfjkoaa.Ev
open Go.RowKit Go.Proofs.Ytochpomddfjkoaa.BM Go.Proofs.Ytochpomddfjkoaa.EvM
open Go.Proofs.Ytochpomddfjkoaa.VaM (V)
open Go.Proofs.Ytochpomddfjkoaa.Va (SlV slV_len bx_new_t Bx ret_v)

/-- An event of few values. -/
def Few (e : Ev) : Prop := e.s.size ≤ 60 ∧ e.v.length ≤ 10 ∧ ∀ i, i < e.v.length → (e.v.getD i v0).s.size ≤ 100
instance (e : Ev) : Decidable (Few e) := by unfold Few; infer_instance

set_option maxRecDepth 100000 in
set_option maxHeartbeats 1000000 in
theorem Few_any (e : Ev) (A : Option Addr) (c : Nat) (w : World) (hS : SlV w A e.v c) (hz : e.s.size ≤ maxLen) :
    Calls Try.prog 12 #[.agg #[.string e.s, .int .i64 e.t, .slice A e.v.length c]] w fun r w' => r = .returned (.bool (decide (Few e))) ∧ Below w.heap.size w w' := by
  obtain ⟨nm, v, l⟩ := e
  simp only at hS hz ⊢
  unfold maxLen at hz
  have hl := slV_len hS
  have hfew : Few ⟨nm, v, l⟩ ↔ nm.size ≤ 60 ∧ l.length ≤ 10 ∧ ∀ i, i < l.length → (l.getD i v0).s.size ≤ 100 := Iff.rfl
  obtain ⟨n, hn⟩ : ∃ n, n = l.length := ⟨_, rfl⟩
  rw [← hn] at hl hfew ⊢
  have HLen := Lib.hid hn
  have HS := Lib.hid hS
  have HFew := Lib.hid hfew
  have HX0 := Lib.hid (bx_new_t w 29 (.string nm) (.int .i64 v) (.slice A n c))
  have HB0 := Lib.hid ((Below.refl w.heap.size w).alloc (Nat.le_refl _) (.cells #[.string nm, .int .i64 v, .slice A n c] 29))
  clear hn hS hfew
  obtain ⟨⟨p0, p1, p2⟩, _⟩ := HX0.out
  by_cases m1 : nm.size ≤ 60
  · have hd1 : decide ((60 : Int) < (nm.size : Int)) = false := by rw [decide_eq_false_iff_not]; omega
    by_cases m2 : n ≤ 10
    · have hd2 : decide ((10 : Int) < (n : Int)) = false := by rw [decide_eq_false_iff_not]; omega
      have HF := Lib.hid (show Few ⟨nm, v, l⟩ ↔ ∀ i, i < n → (l.getD i v0).s.size ≤ 100 from ⟨fun h => (HFew.out.1 h).2.2, fun h => HFew.out.2 ⟨m1, m2, h⟩⟩)
      clear m1 HFew
      go_enter Try.func12, Try.ntmps12
      go_wp2_with fail
      obtain ⟨w1, hw1⟩ : ∃ w1, w1 = w.alloc (.cells #[.string nm, .int .i64 v, .slice A n c] 29) := ⟨_, rfl⟩
      rw [← hw1] at HX0 HB0 ⊢
      clear hw1 p0 p1 p2
      go_loopw [3] (fun i wr => ∃ j : Nat, i = .int .i64 j ∧ j ≤ n ∧ (∀ r, r < j → (l.getD r v0).s.size ≤ 100) ∧ wr = w1) (fun i _ => n - (intOf i).toNat)
      case atStart => exact ⟨0, rfl, Nat.zero_le _, fun r hr => absurd hr (Nat.not_lt_zero r), rfl⟩
      case round =>
        obtain ⟨j, rfl, hj, hall, rfl⟩ := hrel
        have HAl := Lib.hid hall
        obtain ⟨⟨_, _, p2⟩, _⟩ := HX0.out
        clear hall
        by_cases hjn : j < n
        · obtain ⟨b, q, hix, hc, hsz, _⟩ := HS.out.at v0 j (by rw [← HLen.out]; exact hjn)
          obtain ⟨⟨fk, fn, fs⟩, hf⟩ : ∃ f, f = l.getD j v0 := ⟨_, rfl⟩
          rw [← hf] at hc hsz
          obtain ⟨_, _, c0⟩ := hc wr HB0.out
          simp only at c0 hsz
          unfold maxLen at hsz
          have hi := fun W => hix W n c hjn
          have HFl := Lib.hid hf
          clear hc hix hf
          by_cases h60 : fs.size ≤ 100
          · have hd3 : decide ((100 : Int) < (fs.size : Int)) = false := by rw [decide_eq_false_iff_not]; omega
            have HY := Lib.hid h60
            clear h60
            go_wp2_with fail
            go_roundw
            case rel =>
              refine ⟨j + 1, by go_num, by omega, fun r hr => ?_, by trivial⟩
              by_cases e : r = j
              · rw [e, ← HFl.out]
                exact HY.out
              · exact HAl.out r (by omega)
            case measure => simp [intOf]; omega
          · have hd3 : decide ((100 : Int) < (fs.size : Int)) = true := by rw [decide_eq_true_iff]; omega
            have HNo := Lib.hid (show ¬ Few ⟨nm, v, l⟩ from fun h => h60 (by have := HF.out.1 h j hjn; rw [← HFl.out] at this; exact this))
            clear h60
            go_wp2_with fail
            go_ret
            exact ⟨ret_v (x := .bool false) (by rw [decide_eq_false HNo.out]), HB0.out⟩
        · obtain rfl : j = n := by omega
          have HYes := Lib.hid (HF.out.2 HAl.out)
          go_wp2_with fail
          go_ret
          exact ⟨ret_v (x := .bool true) (by rw [decide_eq_true HYes.out]), HB0.out⟩
    · have hd2 : decide ((10 : Int) < (n : Int)) = true := by rw [decide_eq_true_iff]; omega
      have HNo := Lib.hid (show ¬ Few ⟨nm, v, l⟩ from fun h => m2 (HFew.out.1 h).2.1)
      clear m2 m1
      go_enter Try.func12, Try.ntmps12
      go_wp2_with fail
      go_ret
      exact ⟨ret_v (x := .bool false) (by rw [decide_eq_false HNo.out]), HB0.out⟩
  · have hd1 : decide ((60 : Int) < (nm.size : Int)) = true := by rw [decide_eq_true_iff]; omega
    have HNo := Lib.hid (show ¬ Few ⟨nm, v, l⟩ from fun h => m1 (HFew.out.1 h).1)
    clear m1
    go_enter Try.func12, Try.ntmps12
    go_wp2_with fail
    go_ret
    exact ⟨ret_v (x := .bool false) (by rw [decide_eq_false HNo.out]), HB0.out⟩
end Go.Proofs.Ytochpomddfjkoaa.Ev

namespace Go.Proofs.Ytochpomddfjkoaa.Op
open Go.RowKit Go.ChangeShapes Go.WideShapes Go.Proofs.Ytochpomddfjkoaa.Va Go.Proofs.Ytochpomddfjkoaa.VaM Go.Proofs.Ytochpomddfjkoaa.EvM

/-- An event that came in: its values lie where its slice says. -/
def ArgE (W : World) (s : ByteArray) (t : Int) (a : Option Addr) (len cap : Nat) : Prop := ∃ l : List V, l.length = len ∧ SlV W a l cap ∧ Ev.Fine ⟨s, t, l⟩

theorem flat_cells {w : World} {b : Nat} : ∀ (l : List V) (o : Nat), (∀ i, i < l.length → CellV w b (o + i * 3) (l.getD i v0)) → ∀ (j : Nat) (u : Value), (l.flatMap encV)[j]? = some u → w.cell? ⟨b, o + j, none⟩ = some u
  | [], _, _, j, u, h => by simp at h
  | x :: l, o, hc, j, u, h => by
    rw [List.flatMap_cons] at h
    have h0 := hc 0 (by simp)
    rw [Nat.zero_mul, Nat.add_zero, List.getD_cons_zero] at h0
    obtain ⟨c0, c1, c2⟩ := h0
    by_cases hj : j < 3
    · rw [List.getElem?_append_left (by simpa [encV] using hj)] at h
      have hw : j = 0 ∨ j = 1 ∨ j = 2 := by omega
      rcases hw with rfl | rfl | rfl
      · obtain rfl : _ = u := by simpa [encV] using h
        exact c0
      · obtain rfl : _ = u := by simpa [encV] using h
        exact c1
      · obtain rfl : _ = u := by simpa [encV] using h
        exact c2
    · rw [List.getElem?_append_right (by simp only [encV, List.length_cons, List.length_nil]; omega)] at h
      have h2 := flat_cells l (o + 3) (fun i hi => by
        have h3 := hc (i + 1) (by simpa using hi)
        rw [List.getD_cons_succ] at h3
        rw [show o + 3 + i * 3 = o + (i + 1) * 3 from by omega]
        exact h3) (j - 3) u h
      rw [show o + 3 + (j - 3) = o + j from by omega] at h2
      exact h2

theorem elems_flat {w : World} {p : Nat → Prop} : ∀ l : List V, RG.Elems KV p w l (l.flatMap encV)
  | [] => rfl
  | x :: l => ⟨encV x, l.flatMap encV, rfl, rfl, elems_flat l⟩

set_option maxRecDepth 100000 in
theorem open_event {H : Type} {enc : TypeId × Value → H} {W : World} {r : Reach} {b0 : Nat} {v : Value} {d : DataW H} {p : List MemPlace} (hv : Value.okWide Try.prog W r b0 29 v)
    (h : DataW.Trod enc Try.prog W 0 (fun _ => true) true 29 v d p) : ∃ s n a len cap, v = .agg #[.string s, .int .i64 n, .slice a len cap] ∧ ArgE W s n a len cap := by
  obtain ⟨v0, v1, v2, y0, y1, y2, fuel, rfl, _, _, h0, h1, h2⟩ := Joins.open_agg3 Try.underlying29 (by kernel_rfl) (by kernel_rfl) hv h
  obtain ⟨s, hs, _, ws⟩ := DataW.trod_string Try.underlying9 h0
  obtain ⟨n, hn, _, wn⟩ := DataW.trod_int Try.underlying3 h1
  simp only [List.cons.injEq, and_true] at hs hn
  subst hs hn
  have hb := bounds_i64 wn
  rcases Deep.open_slice Try.underlying27 h2 with ⟨hcs, _⟩ | ⟨x, l, c, m, k, D, Pl, hcs, _, hl, hm, hmm, _, hr⟩
  · simp only [List.cons.injEq, and_true] at hcs
    subst hcs
    exact ⟨s, n, none, 0, 0, rfl, [], rfl, slV_none W, ws, by simp only; omega, by simp only; omega⟩
  · simp only [List.cons.injEq, and_true] at hcs
    subst hcs
    simp only [if_true] at hmm
    rw [hmm] at hr
    have each : ∀ i, i < l → ∃ x' : V, (x'.s.size ≤ maxLen ∧ Rng x') ∧ W.cell? (x.add (i * 3)) = some (.int .i64 x'.k) ∧ W.cell? (x.add (i * 3 + 1)) = some (.int .i64 x'.n) ∧ W.cell? (x.add (i * 3 + 2)) = some (.string x'.s) := by
      intro i hi
      obtain ⟨cs', hc, ht⟩ := hr i (by omega)
      rw [show Try.prog.cellsOf 52 = 3 from by kernel_rfl] at hc
      obtain ⟨_, hlen, hcell⟩ := World.cells?_some hc
      match cs', hlen with
      | [v0, v1, v2], _ =>
        obtain ⟨y0, y1, y2, k, _, _, t0, t1, t2⟩ := Deep.trod_struct3 Try.underlying52 ht
        have c1 : Try.prog.cellsOf 3 = 1 := by kernel_rfl
        have c2 : Try.prog.cellsOf 9 = 1 := by kernel_rfl
        simp only [c1] at t0 t1
        simp only [c2] at t2
        obtain ⟨n0, e0', _, _⟩ := DataW.trod_int Try.underlying3 t0
        obtain ⟨n1, e1', _, w1⟩ := DataW.trod_int Try.underlying3 t1
        obtain ⟨s, e2', _, w2⟩ := DataW.trod_string Try.underlying9 t2
        simp only [List.drop_zero, List.drop_succ_cons, List.take_succ_cons, List.take_zero, List.cons.injEq, and_true] at e0' e1' e2'
        subst e0' e1' e2'
        have g0 := hcell 0 (by decide)
        have g1 := hcell 1 (by decide)
        have g2 := hcell 2 (by decide)
        have hb := bounds_i64 w1
        refine ⟨⟨n0, n1, s⟩, ⟨w2, by simp only; omega, by simp only; omega⟩, ?_, ?_, ?_⟩
        · rw [Deep.add_add, Nat.add_zero] at g0
          exact g0
        · rw [Deep.add_add] at g1
          exact g1
        · rw [Deep.add_add] at g2
          exact g2
    let g : Nat → V := fun i => if h : i < l then Classical.choose (each i h) else EvM.v0
    have hg : ∀ i, i < l → ((g i).s.size ≤ maxLen ∧ Rng (g i)) ∧ W.cell? (x.add (i * 3)) = some (.int .i64 (g i).k) ∧ W.cell? (x.add (i * 3 + 1)) = some (.int .i64 (g i).n) ∧ W.cell? (x.add (i * 3 + 2)) = some (.string (g i).s) := by
      intro i hi
      have e : g i = Classical.choose (each i hi) := dif_pos hi
      rw [e]
      exact Classical.choose_spec (each i hi)
    have hgl : ((List.range l).map g).length = l := by simp
    have hgd : ∀ i, i < l → ((List.range l).map g).getD i EvM.v0 = g i := fun i hi => by simp [List.getD_eq_getElem?_getD, hi]
    refine ⟨s, n, some x, l, c, rfl, (List.range l).map g, hgl, ⟨⟨⟨((List.range l).map g).flatMap encV, fun h0 => ?_, elems_flat _⟩, by rw [hgl]; exact hl, (fun e => by cases e), hm⟩, fun f hf => ?_⟩, ws, by simp only; omega, by simp only; omega⟩
    · have hl0 : 0 < l := by
        rcases Nat.eq_zero_or_pos l with e | e
        · subst e
          simp at h0
        · exact e
      obtain ⟨b, o, sp⟩ := x
      have hsp : sp = none := by simpa [Addr.add] using World.cell?_spot (hg 0 hl0).2.1
      subst hsp
      refine ⟨b, o, rfl, flat_cells _ o fun i hi => ?_⟩
      rw [hgl] at hi
      rw [hgd i hi]
      obtain ⟨_, g1, g2, g3⟩ := hg i hi
      rw [Addr.add_lit] at g1 g2 g3
      exact ⟨g1, g2, g3⟩
    · obtain ⟨i, hi, rfl⟩ := List.mem_map.1 hf
      exact (hg i (List.mem_range.1 hi)).1
end Go.Proofs.Ytochpomddfjkoaa.Op

namespace Go.Proofs.Ytochpomddfjkoaa.Op
open Go.RowKit Go.ChangeShapes Go.WideShapes Go.Proofs.Ytochpomddfjkoaa.VaM Go.Proofs.Ytochpomddfjkoaa.ExM Go.Proofs.Ytochpomddfjkoaa.Ex

/-- Parts that came in lie where their slice says. -/
def ArgO (W : World) (a : Option Addr) (len cap : Nat) : Prop := ∃ l : List O, l.length = len ∧ SlO W a l cap

theorem cells_o {w : World} {b : Nat} : ∀ (l : List O) (o : Nat), (∀ i, i < l.length → CellO w b (o + i * 5) (l.getD i o0)) → ∀ (j : Nat) (u : Value), (l.flatMap encO)[j]? = some u → w.cell? ⟨b, o + j, none⟩ = some u
  | [], _, _, j, u, h => by simp at h
  | x :: l, o, hc, j, u, h => by
    rw [List.flatMap_cons] at h
    have h0 := hc 0 (by simp)
    rw [Nat.zero_mul, Nat.add_zero, List.getD_cons_zero] at h0
    obtain ⟨c0, c1, c2, c3, c4⟩ := h0
    by_cases hj : j < 5
    · rw [List.getElem?_append_left (by simpa [encO] using hj)] at h
      have hw : j = 0 ∨ j = 1 ∨ j = 2 ∨ j = 3 ∨ j = 4 := by omega
      rcases hw with rfl | rfl | rfl | rfl | rfl
      · obtain rfl : _ = u := by simpa [encO] using h
        exact c0
      · obtain rfl : _ = u := by simpa [encO] using h
        exact c1
      · obtain rfl : _ = u := by simpa [encO] using h
        exact c2
      · obtain rfl : _ = u := by simpa [encO] using h
        exact c3
      · obtain rfl : _ = u := by simpa [encO] using h
        exact c4
    · rw [List.getElem?_append_right (by simp only [encO, List.length_cons, List.length_nil]; omega)] at h
      have h2 := cells_o l (o + 5) (fun i hi => by
        have h3 := hc (i + 1) (by simpa using hi)
        rw [List.getD_cons_succ] at h3
        rw [show o + 5 + i * 5 = o + (i + 1) * 5 from by omega]
        exact h3) (j - 5) u h
      rw [show o + 5 + (j - 5) = o + j from by omega] at h2
      exact h2

set_option maxRecDepth 100000 in
/-- The same, of one cell. -/
theorem open_parts {H : Type} {enc : TypeId × Value → H} {W : World} {fuel : Nat} {v2 : Value} {y2 : DataW H × List MemPlace} (h2 : DataW.trod enc Try.prog W 0 (fun _ => true) true fuel 24 [v2] = some y2) :
    ∃ a len cap, v2 = .slice a len cap ∧ ArgO W a len cap := by
  rcases Deep.open_slice Try.underlying24 h2 with ⟨hcs, _⟩ | ⟨x, len, cap, m, n, D, Pl, hcs, _, hl, hm, hmm, _, hr⟩
  · simp only [List.cons.injEq, and_true] at hcs
    subst hcs
    exact ⟨none, 0, 0, rfl, [], rfl, slO_none W⟩
  · simp only [List.cons.injEq, and_true] at hcs
    subst hcs
    refine ⟨some x, len, cap, rfl, ?_⟩
    simp only [if_true] at hmm
    subst hmm
    have each : ∀ i, i < len → ∃ y : O, Fin y ∧ W.cell? (x.add (i * 5)) = some (.int .i64 y.c) ∧ W.cell? (x.add (i * 5 + 1)) = some (.int .i64 y.a) ∧ W.cell? (x.add (i * 5 + 2)) = some (.int .i64 y.v.k) ∧ W.cell? (x.add (i * 5 + 3)) = some (.int .i64 y.v.n) ∧ W.cell? (x.add (i * 5 + 4)) = some (.string y.v.s) := by
      intro i hi
      obtain ⟨cs', hc, ht⟩ := hr i (by omega)
      rw [show Try.prog.cellsOf 57 = 5 from by kernel_rfl] at hc
      obtain ⟨_, hlen, hcell⟩ := World.cells?_some hc
      match cs', hlen with
      | [u0, u1, u2, u3, u4], _ =>
        obtain ⟨y0, y1, y2, k, _, _, t0, t1, t2⟩ := Deep.trod_struct3 Try.underlying57 ht
        have c1 : Try.prog.cellsOf 3 = 1 := by kernel_rfl
        have c2 : Try.prog.cellsOf 9 = 1 := by kernel_rfl
        have c3 : Try.prog.cellsOf 52 = 3 := by kernel_rfl
        simp only [c1] at t0 t1
        simp only [c3] at t2
        simp only [List.drop_zero, List.drop_succ_cons, List.take_succ_cons, List.take_zero] at t0 t1 t2
        obtain ⟨n0, e0', _, w0⟩ := DataW.trod_int Try.underlying3 t0
        obtain ⟨n1, e1', _, w1⟩ := DataW.trod_int Try.underlying3 t1
        obtain ⟨z0, z1, z2, k', _, _, s0, s1, s2⟩ := Deep.trod_struct3 Try.underlying52 t2
        simp only [c1] at s0 s1
        simp only [c2] at s2
        obtain ⟨n2, e2', _, _⟩ := DataW.trod_int Try.underlying3 s0
        obtain ⟨n3, e3', _, w3⟩ := DataW.trod_int Try.underlying3 s1
        obtain ⟨s, e4', _, w4⟩ := DataW.trod_string Try.underlying9 s2
        simp only [List.drop_zero, List.drop_succ_cons, List.take_succ_cons, List.take_zero, List.cons.injEq, and_true] at e0' e1' e2' e3' e4'
        subst e0' e1' e2' e3' e4'
        have g0 := hcell 0 (by decide)
        have g1 := hcell 1 (by decide)
        have g2 := hcell 2 (by decide)
        have g3 := hcell 3 (by decide)
        have g4 := hcell 4 (by decide)
        have b0 := bounds_i64 w0
        have b1 := bounds_i64 w1
        have b3 := bounds_i64 w3
        refine ⟨⟨n0, n1, ⟨n2, n3, s⟩⟩, ⟨w4, ⟨by simp only; omega, by simp only; omega⟩, ⟨by simp only; omega, by simp only; omega⟩, by simp only; omega, by simp only; omega⟩, ?_, ?_, ?_, ?_, ?_⟩
        · rw [Deep.add_add, Nat.add_zero] at g0
          exact g0
        · rw [Deep.add_add] at g1
          exact g1
        · rw [Deep.add_add] at g2
          exact g2
        · rw [Deep.add_add] at g3
          exact g3
        · rw [Deep.add_add] at g4
          exact g4
    let g : Nat → O := fun i => if h : i < len then Classical.choose (each i h) else o0
    have hg : ∀ i, i < len → Fin (g i) ∧ W.cell? (x.add (i * 5)) = some (.int .i64 (g i).c) ∧ W.cell? (x.add (i * 5 + 1)) = some (.int .i64 (g i).a) ∧ W.cell? (x.add (i * 5 + 2)) = some (.int .i64 (g i).v.k) ∧ W.cell? (x.add (i * 5 + 3)) = some (.int .i64 (g i).v.n) ∧ W.cell? (x.add (i * 5 + 4)) = some (.string (g i).v.s) := by
      intro i hi
      have e : g i = Classical.choose (each i hi) := dif_pos hi
      rw [e]
      exact Classical.choose_spec (each i hi)
    have hgl : ((List.range len).map g).length = len := by simp
    have hgd : ∀ i, i < len → ((List.range len).map g).getD i o0 = g i := fun i hi => by simp [List.getD_eq_getElem?_getD, hi]
    refine ⟨(List.range len).map g, hgl, ⟨⟨((List.range len).map g).flatMap encO, fun h0 => ?_, elems_o _ _ _⟩, by rw [hgl]; exact hl, (fun e => by cases e), hm⟩, fun f hf => ?_⟩
    · have hl0 : 0 < len := by
        rcases Nat.eq_zero_or_pos len with e | e
        · subst e
          simp at h0
        · exact e
      obtain ⟨b, o, sp⟩ := x
      have hsp : sp = none := by simpa [Addr.add] using World.cell?_spot (hg 0 hl0).2.1
      subst hsp
      refine ⟨b, o, rfl, cells_o _ o fun i hi => ?_⟩
      rw [hgl] at hi
      rw [hgd i hi]
      obtain ⟨_, g0, g1, g2, g3, g4⟩ := hg i hi
      rw [Addr.add_lit] at g0 g1 g2 g3 g4
      exact ⟨g0, g1, g2, g3, g4⟩
    · obtain ⟨i, hi, rfl⟩ := List.mem_map.1 hf
      exact (hg i (List.mem_range.1 hi)).1
set_option maxRecDepth 100000 in
theorem open_ops {H : Type} {enc : TypeId × Value → H} {W : World} {r : Reach} {b0 : Nat} {v : Value} {d : DataW H} {p : List MemPlace} (hv : Value.okWide Try.prog W r b0 24 v)
    (h : DataW.Trod enc Try.prog W 0 (fun _ => true) true 24 v d p) : ∃ a len cap, v = .slice a len cap ∧ ArgO W a len cap := by
  obtain ⟨a, len, cap, rfl⟩ := okWide_slice Try.underlying24 hv
  obtain ⟨fuel, hf⟩ := h
  simp only [Value.cells] at hf
  exact open_parts hf
end Go.Proofs.Ytochpomddfjkoaa.Op

namespace Go.Proofs.Ytochpomddfjkoaa.Op
open Go.RowKit Go.ChangeShapes Go.WideShapes Go.Proofs.Ytochpomddfjkoaa.VaM Go.Proofs.Ytochpomddfjkoaa.ExM Go.Proofs.Ytochpomddfjkoaa.Ex Go.Proofs.Ytochpomddfjkoaa.QyM Go.Proofs.Ytochpomddfjkoaa.Qy

/-- A query that came in: its steps lie where its slice says, its numbers are ints. -/
def ArgQ (W : World) (w a i f : Int) (A : Option Addr) (len cap : Nat) : Prop := ∃ p : List St, p.length = len ∧ SlSt W A p cap ∧ FineQ ⟨p, w, a, i, f⟩

theorem seven {H : Type} {enc : TypeId × Value → H} {P : Program} {w : World} {base : Nat} {spare : Nat → Bool} {held : Bool} {t : TypeId} {g0 g1 g2 g3 g4 g5 g6 : Field} {fuel : Nat} {cs : List Value} {x : DataW H × List MemPlace}
    (ht : P.underlying t = some (.struct #[g0, g1, g2, g3, g4, g5, g6])) (h : DataW.trod enc P w base spare held fuel t cs = some x) :
    ∃ y0 y1 y2 y3 y4 y5 y6 n, DataW.trod enc P w base spare held n g0.type ((cs.drop g0.offset).take (P.cellsOf g0.type)) = some y0 ∧ DataW.trod enc P w base spare held n g1.type ((cs.drop g1.offset).take (P.cellsOf g1.type)) = some y1 ∧
      DataW.trod enc P w base spare held n g2.type ((cs.drop g2.offset).take (P.cellsOf g2.type)) = some y2 ∧ DataW.trod enc P w base spare held n g3.type ((cs.drop g3.offset).take (P.cellsOf g3.type)) = some y3 ∧
      DataW.trod enc P w base spare held n g4.type ((cs.drop g4.offset).take (P.cellsOf g4.type)) = some y4 ∧ DataW.trod enc P w base spare held n g5.type ((cs.drop g5.offset).take (P.cellsOf g5.type)) = some y5 ∧
      DataW.trod enc P w base spare held n g6.type ((cs.drop g6.offset).take (P.cellsOf g6.type)) = some y6 := by
  obtain ⟨xs, n, _, rfl, _, hlen, hf⟩ := DataW.trod_struct ht h
  match xs, hlen with
  | [y0, y1, y2, y3, y4, y5, y6], _ => exact ⟨y0, y1, y2, y3, y4, y5, y6, n, by simpa using hf 0 g0 rfl, by simpa using hf 1 g1 rfl, by simpa using hf 2 g2 rfl, by simpa using hf 3 g3 rfl, by simpa using hf 4 g4 rfl, by simpa using hf 5 g5 rfl, by simpa using hf 6 g6 rfl⟩

theorem five {H : Type} {enc : TypeId × Value → H} {P : Program} {w : World} {base : Nat} {spare : Nat → Bool} {held : Bool} {t : TypeId} {g0 g1 g2 g3 g4 : Field} {fuel : Nat} {cs : List Value} {x : DataW H × List MemPlace}
    (ht : P.underlying t = some (.struct #[g0, g1, g2, g3, g4])) (h : DataW.trod enc P w base spare held fuel t cs = some x) :
    ∃ y0 y1 y2 y3 y4 n, DataW.trod enc P w base spare held n g0.type ((cs.drop g0.offset).take (P.cellsOf g0.type)) = some y0 ∧ DataW.trod enc P w base spare held n g1.type ((cs.drop g1.offset).take (P.cellsOf g1.type)) = some y1 ∧
      DataW.trod enc P w base spare held n g2.type ((cs.drop g2.offset).take (P.cellsOf g2.type)) = some y2 ∧ DataW.trod enc P w base spare held n g3.type ((cs.drop g3.offset).take (P.cellsOf g3.type)) = some y3 ∧
      DataW.trod enc P w base spare held n g4.type ((cs.drop g4.offset).take (P.cellsOf g4.type)) = some y4 := by
  obtain ⟨xs, n, _, rfl, _, hlen, hf⟩ := DataW.trod_struct ht h
  match xs, hlen with
  | [y0, y1, y2, y3, y4], _ => exact ⟨y0, y1, y2, y3, y4, n, by simpa using hf 0 g0 rfl, by simpa using hf 1 g1 rfl, by simpa using hf 2 g2 rfl, by simpa using hf 3 g3 rfl, by simpa using hf 4 g4 rfl⟩

theorem array5 {α : Type} {cs : Array α} (h : cs.size = 5) : ∃ c0 c1 c2 c3 c4, cs = #[c0, c1, c2, c3, c4] := by
  obtain ⟨l⟩ := cs
  match l, h with
  | [c0, c1, c2, c3, c4], _ => exact ⟨c0, c1, c2, c3, c4, rfl⟩

/-- Elements' cells, one behind the other, by each element's. -/
theorem cells_gen {α : Type} {w : World} {b : Nat} (enc : α → List Value) (sz : Nat) (hl : ∀ x, (enc x).length = sz) : ∀ (L : List α) (o : Nat), (∀ i x, L[i]? = some x → ∀ k u, (enc x)[k]? = some u → w.cell? ⟨b, o + i * sz + k, none⟩ = some u) →
    ∀ (j : Nat) (u : Value), (L.flatMap enc)[j]? = some u → w.cell? ⟨b, o + j, none⟩ = some u
  | [], _, _, j, u, h => by simp at h
  | x :: L, o, hc, j, u, h => by
    rw [List.flatMap_cons] at h
    by_cases hj : j < sz
    · rw [List.getElem?_append_left (by rw [hl]; exact hj)] at h
      have h2 := hc 0 x rfl j u h
      rw [Nat.zero_mul, Nat.add_zero] at h2
      exact h2
    · rw [List.getElem?_append_right (by rw [hl]; omega), hl] at h
      have h2 := cells_gen enc sz hl L (o + sz) (fun i y hi k v hv => by
        have h3 := hc (i + 1) y (by simpa using hi) k v hv
        rw [show o + sz + i * sz + k = o + (i + 1) * sz + k from by rw [Nat.add_mul]; omega]
        exact h3) (j - sz) u h
      rw [show o + sz + (j - sz) = o + j from by omega] at h2
      exact h2

/-- A step, and where its expressions lie. -/
abbrev E := St × (Option Addr × Nat) × (Option Addr × Nat)
def encE (x : E) : List Value := encSt x.1 x.2.1.1 x.2.1.2 x.2.2.1 x.2.2.2
def OkE (W : World) (x : E) : Prop := SlO W x.2.1.1 x.1.f x.2.1.2 ∧ SlO W x.2.2.1 x.1.h x.2.2.2 ∧ FineSt x.1
theorem elems_e {W : World} : ∀ L : List E, (∀ x ∈ L, OkE W x) → RG.Elems KSt (fun _ => True) W (L.map (·.1)) (L.flatMap encE)
  | [], _ => rfl
  | x :: L, h => by
    obtain ⟨h1, h2, h3⟩ := h x (by simp)
    exact ⟨encE x, L.flatMap encE, rfl, ⟨x.2.1.1, x.2.1.2, x.2.2.1, x.2.2.2, rfl, h1, h2, h3, (fun _ _ _ => True.intro), fun _ _ _ => True.intro⟩, elems_e L fun y hy => h y (by simp [hy])⟩

set_option maxRecDepth 100000 in
set_option maxHeartbeats 1000000 in
theorem open_steps {H : Type} {enc : TypeId × Value → H} {W : World} {fuel : Nat} {v2 : Value} {y2 : DataW H × List MemPlace} (h2 : DataW.trod enc Try.prog W 0 (fun _ => true) true fuel 43 [v2] = some y2) :
    ∃ a len cap, v2 = .slice a len cap ∧ ∃ p : List St, p.length = len ∧ SlSt W a p cap := by
  rcases Deep.open_slice Try.underlying43 h2 with ⟨hcs, _⟩ | ⟨x, len, cap, m, n, D, Pl, hcs, _, hl, hm, hmm, _, hr⟩
  · simp only [List.cons.injEq, and_true] at hcs
    subst hcs
    exact ⟨none, 0, 0, rfl, [], rfl, slSt_none W⟩
  · simp only [List.cons.injEq, and_true] at hcs
    subst hcs
    refine ⟨some x, len, cap, rfl, ?_⟩
    simp only [if_true] at hmm
    subst hmm
    have each : ∀ i, i < len → ∃ y : E, OkE W y ∧ ∀ k u, (encE y)[k]? = some u → W.cell? (x.add (i * 7 + k)) = some u := by
      intro i hi
      obtain ⟨cs', hc, ht⟩ := hr i (by omega)
      rw [show Try.prog.cellsOf 47 = 7 from by kernel_rfl] at hc
      obtain ⟨_, hlen, hcell⟩ := World.cells?_some hc
      match cs', hlen with
      | [u0, u1, u2, u3, u4, u5, u6], _ =>
        obtain ⟨y0, y1, y2, y3, y4, y5, y6, k, t0, t1, t2, t3, t4, t5, t6⟩ := seven Try.underlying47 ht
        have c1 : Try.prog.cellsOf 3 = 1 := by kernel_rfl
        have c2 : Try.prog.cellsOf 9 = 1 := by kernel_rfl
        have c3 : Try.prog.cellsOf 24 = 1 := by kernel_rfl
        have c4 : Try.prog.cellsOf 4 = 1 := by kernel_rfl
        simp only [c2] at t0 t5
        simp only [c3] at t1 t6
        simp only [c1] at t2 t3
        simp only [c4] at t4
        simp only [List.drop_zero, List.drop_succ_cons, List.take_succ_cons, List.take_zero] at t0 t1 t2 t3 t4 t5 t6
        obtain ⟨s0, e0', _, w0⟩ := DataW.trod_string Try.underlying9 t0
        obtain ⟨A1, n1, k1, e1', l1, hl1, hs1⟩ := open_parts t1
        obtain ⟨n2, e2', _, w2⟩ := DataW.trod_int Try.underlying3 t2
        obtain ⟨n3, e3', _, w3⟩ := DataW.trod_int Try.underlying3 t3
        obtain ⟨g4, e4', _⟩ := DataW.trod_bool Try.underlying4 t4
        obtain ⟨s5, e5', _, w5⟩ := DataW.trod_string Try.underlying9 t5
        obtain ⟨A6, n6, k6, e6', l6, hl6, hs6⟩ := open_parts t6
        simp only [List.cons.injEq, and_true] at e0' e2' e3' e4' e5'
        subst e0' e1' e2' e3' e4' e5' e6' hl1 hl6
        have b2 := bounds_i64 w2
        have b3 := bounds_i64 w3
        refine ⟨(⟨s0, l1, n2, n3, g4, s5, l6⟩, (A1, k1), (A6, k6)), ⟨hs1, hs6, ⟨w0, w5⟩, ⟨by simp only; omega, by simp only; omega⟩, by simp only; omega, by simp only; omega⟩, fun j u hu => ?_⟩
        have hj : j < 7 := (List.getElem?_eq_some_iff.1 hu).1
        have h3 := hcell j (by simpa using hj)
        rw [Deep.add_add] at h3
        rw [h3]
        exact hu
    let g : Nat → E := fun i => if h : i < len then Classical.choose (each i h) else (t0, (none, 0), (none, 0))
    have hg : ∀ i, i < len → OkE W (g i) ∧ ∀ k u, (encE (g i))[k]? = some u → W.cell? (x.add (i * 7 + k)) = some u := by
      intro i hi
      have e : g i = Classical.choose (each i hi) := dif_pos hi
      rw [e]
      exact Classical.choose_spec (each i hi)
    have hgl : (((List.range len).map g).map (·.1)).length = len := by simp
    refine ⟨((List.range len).map g).map (·.1), hgl, ⟨((List.range len).map g).flatMap encE, fun h0 => ?_, elems_e _ fun y hy => ?_⟩, by rw [hgl]; exact hl, (fun e => by cases e), hm⟩
    · have hl0 : 0 < len := by
        rcases Nat.eq_zero_or_pos len with e | e
        · subst e
          simp at h0
        · exact e
      obtain ⟨b, o, sp⟩ := x
      have hsp : sp = none := by simpa [Addr.add] using World.cell?_spot ((hg 0 hl0).2 0 _ rfl)
      subst hsp
      refine ⟨b, o, rfl, cells_gen encE 7 (fun _ => rfl) _ o fun i y hi => ?_⟩
      have hi2 : i < len := by
        have := (List.getElem?_eq_some_iff.1 hi).1
        simpa using this
      have hy : y = g i := by
        rw [List.getElem?_map, List.getElem?_range hi2] at hi
        simpa using hi.symm
      subst hy
      intro k u hu
      have h3 := (hg i hi2).2 k u hu
      rw [Addr.add_lit, ← Nat.add_assoc] at h3
      exact h3
    · obtain ⟨i, hi, rfl⟩ := List.mem_map.1 hy
      exact (hg i (List.mem_range.1 hi)).1

set_option maxRecDepth 100000 in
theorem open_query {H : Type} {enc : TypeId × Value → H} {W : World} {r : Reach} {b0 : Nat} {v : Value} {d : DataW H} {p : List MemPlace} (hv : Value.okWide Try.prog W r b0 45 v)
    (h : DataW.Trod enc Try.prog W 0 (fun _ => true) true 45 v d p) : ∃ w a i f A len cap, v = .agg #[.slice A len cap, .int .i64 w, .int .i64 a, .int .i64 i, .int .i64 f] ∧ ArgQ W w a i f A len cap := by
  obtain ⟨cs, rfl, hsz⟩ := okWide_struct Try.underlying45 hv
  obtain ⟨v0, v1, v2, v3, v4, rfl⟩ := array5 (hsz.trans (show Try.prog.cellsOf 45 = 5 from by kernel_rfl))
  obtain ⟨fuel, hf⟩ := h
  obtain ⟨y0, y1, y2, y3, y4, n, t0, t1, t2, t3, t4⟩ := five Try.underlying45 hf
  have c1 : Try.prog.cellsOf 3 = 1 := by kernel_rfl
  have c2 : Try.prog.cellsOf 43 = 1 := by kernel_rfl
  simp only [c2] at t0
  simp only [c1] at t1 t2 t3 t4
  simp only [Value.cells, List.drop_zero, List.drop_succ_cons, List.take_succ_cons, List.take_zero] at t0 t1 t2 t3 t4
  obtain ⟨A, len, cap, rfl, p, hl, hs⟩ := open_steps t0
  obtain ⟨n1, e1', _, w1⟩ := DataW.trod_int Try.underlying3 t1
  obtain ⟨n2, e2', _, w2⟩ := DataW.trod_int Try.underlying3 t2
  obtain ⟨n3, e3', _, w3⟩ := DataW.trod_int Try.underlying3 t3
  obtain ⟨n4, e4', _, w4⟩ := DataW.trod_int Try.underlying3 t4
  simp only [List.cons.injEq, and_true] at e1' e2' e3' e4'
  subst e1' e2' e3' e4'
  have b1 := bounds_i64 w1
  have b2 := bounds_i64 w2
  have b3 := bounds_i64 w3
  have b4 := bounds_i64 w4
  exact ⟨n1, n2, n3, n4, A, len, cap, rfl, p, hl, hs, ⟨by simp only; omega, by simp only; omega⟩, ⟨by simp only; omega, by simp only; omega⟩, ⟨by simp only; omega, by simp only; omega⟩, by simp only; omega, by simp only; omega⟩
end Go.Proofs.Ytochpomddfjkoaa.Op

namespace Go.Proofs.Ytochpomddfjkoaa.Op
open Go.RowKit Go.ChangeShapes Go.WideShapes Go.Proofs.Ytochpomddfjkoaa.VaM Go.Proofs.Ytochpomddfjkoaa.ExM Go.Proofs.Ytochpomddfjkoaa.Ex Go.Proofs.Ytochpomddfjkoaa.IxM Go.Proofs.Ytochpomddfjkoaa.Ix

/-- One that came in: its expression lies where its slice says. -/
def ArgP (W : World) (s : ByteArray) (A : Option Addr) (len cap : Nat) : Prop := ∃ f : List O, f.length = len ∧ SlO W A f cap ∧ s.size ≤ maxLen
/-- Several. -/
def ArgPs (W : World) (A : Option Addr) (len cap : Nat) : Prop := ∃ l : List Pr, l.length = len ∧ SlPr W A l cap

theorem pair {H : Type} {enc : TypeId × Value → H} {P : Program} {w : World} {base : Nat} {spare : Nat → Bool} {held : Bool} {t : TypeId} {g0 g1 : Field} {fuel : Nat} {cs : List Value} {x : DataW H × List MemPlace}
    (ht : P.underlying t = some (.struct #[g0, g1])) (h : DataW.trod enc P w base spare held fuel t cs = some x) :
    ∃ y0 y1 n, DataW.trod enc P w base spare held n g0.type ((cs.drop g0.offset).take (P.cellsOf g0.type)) = some y0 ∧ DataW.trod enc P w base spare held n g1.type ((cs.drop g1.offset).take (P.cellsOf g1.type)) = some y1 := by
  obtain ⟨xs, n, _, rfl, _, hlen, hf⟩ := DataW.trod_struct ht h
  match xs, hlen with
  | [y0, y1], _ => exact ⟨y0, y1, n, by simpa using hf 0 g0 rfl, by simpa using hf 1 g1 rfl⟩

/-- One, and where its expression lies. -/
abbrev EP := Pr × (Option Addr × Nat)
def encEP (x : EP) : List Value := encPr x.1 x.2.1 x.2.2
def OkEP (W : World) (x : EP) : Prop := SlO W x.2.1 x.1.f x.2.2 ∧ x.1.s.size ≤ maxLen
theorem elems_ep {W : World} : ∀ L : List EP, (∀ x ∈ L, OkEP W x) → RG.Elems KPr (fun _ => True) W (L.map (·.1)) (L.flatMap encEP)
  | [], _ => rfl
  | x :: L, h => by
    obtain ⟨h1, h2⟩ := h x (by simp)
    exact ⟨encEP x, L.flatMap encEP, rfl, ⟨x.2.1, x.2.2, rfl, h1, h2, fun _ _ _ => True.intro⟩, elems_ep L fun y hy => h y (by simp [hy])⟩

set_option maxRecDepth 100000 in
theorem open_two {H : Type} {enc : TypeId × Value → H} {W : World} {fuel : Nat} {u0 u1 : Value} {y : DataW H × List MemPlace} (h : DataW.trod enc Try.prog W 0 (fun _ => true) true fuel 26 [u0, u1] = some y) :
    ∃ s A len cap, u0 = .string s ∧ u1 = .slice A len cap ∧ ArgP W s A len cap := by
  obtain ⟨y0, y1, k, t0, t1⟩ := pair Try.underlying26 h
  have c2 : Try.prog.cellsOf 9 = 1 := by kernel_rfl
  have c3 : Try.prog.cellsOf 24 = 1 := by kernel_rfl
  simp only [c2] at t0
  simp only [c3] at t1
  simp only [List.drop_zero, List.drop_succ_cons, List.take_succ_cons, List.take_zero] at t0 t1
  obtain ⟨s0, e0', _, w0⟩ := DataW.trod_string Try.underlying9 t0
  obtain ⟨A1, n1, k1, e1', l1, hl1, hs1⟩ := open_parts t1
  simp only [List.cons.injEq, and_true] at e0'
  exact ⟨s0, A1, n1, k1, e0', e1', l1, hl1, hs1, w0⟩

set_option maxRecDepth 100000 in
theorem open_pred {H : Type} {enc : TypeId × Value → H} {W : World} {r : Reach} {b0 : Nat} {v : Value} {d : DataW H} {p : List MemPlace} (hv : Value.okWide Try.prog W r b0 26 v)
    (h : DataW.Trod enc Try.prog W 0 (fun _ => true) true 26 v d p) : ∃ s A len cap, v = .agg #[.string s, .slice A len cap] ∧ ArgP W s A len cap := by
  obtain ⟨cs, rfl, hsz⟩ := okWide_struct Try.underlying26 hv
  obtain ⟨u0, u1, rfl⟩ : ∃ u0 u1, cs = #[u0, u1] := by
    obtain ⟨l⟩ := cs
    match l, hsz.trans (show Try.prog.cellsOf 26 = 2 from by kernel_rfl) with
    | [u0, u1], _ => exact ⟨u0, u1, rfl⟩
  obtain ⟨fuel, hf⟩ := h
  obtain ⟨s, A, len, cap, rfl, rfl, ha⟩ := open_two (by simpa only [Value.cells] using hf)
  exact ⟨s, A, len, cap, rfl, ha⟩

set_option maxRecDepth 100000 in
set_option maxHeartbeats 1000000 in
theorem open_preds {H : Type} {enc : TypeId × Value → H} {W : World} {r : Reach} {b0 : Nat} {v : Value} {d : DataW H} {p : List MemPlace} (hv : Value.okWide Try.prog W r b0 23 v)
    (h : DataW.Trod enc Try.prog W 0 (fun _ => true) true 23 v d p) : ∃ A len cap, v = .slice A len cap ∧ ArgPs W A len cap := by
  obtain ⟨a, len0, cap0, rfl⟩ := okWide_slice Try.underlying23 hv
  obtain ⟨fuel, hf⟩ := h
  simp only [Value.cells] at hf
  rcases Deep.open_slice Try.underlying23 hf with ⟨hcs, _⟩ | ⟨x, len, cap, m, n, D, Pl, hcs, _, hl, hm, hmm, _, hr⟩
  · simp only [List.cons.injEq, and_true] at hcs
    exact ⟨none, 0, 0, hcs, [], rfl, slPr_none W⟩
  · simp only [List.cons.injEq, and_true] at hcs
    refine ⟨some x, len, cap, hcs, ?_⟩
    simp only [if_true] at hmm
    subst hmm
    have each : ∀ i, i < len → ∃ y : EP, OkEP W y ∧ ∀ k u, (encEP y)[k]? = some u → W.cell? (x.add (i * 2 + k)) = some u := by
      intro i hi
      obtain ⟨cs', hc, ht⟩ := hr i (by omega)
      rw [show Try.prog.cellsOf 26 = 2 from by kernel_rfl] at hc
      obtain ⟨_, hlen, hcell⟩ := World.cells?_some hc
      match cs', hlen with
      | [u0, u1], _ =>
        obtain ⟨s, A, len, cap, rfl, rfl, f, hfl, ho, hz⟩ := open_two ht
        subst hfl
        refine ⟨(⟨s, f⟩, (A, cap)), ⟨ho, hz⟩, fun j u hu => ?_⟩
        have hj : j < 2 := (List.getElem?_eq_some_iff.1 hu).1
        have h3 := hcell j (by simpa using hj)
        rw [Deep.add_add] at h3
        rw [h3]
        exact hu
    let g : Nat → EP := fun i => if h : i < len then Classical.choose (each i h) else (p0, (none, 0))
    have hg : ∀ i, i < len → OkEP W (g i) ∧ ∀ k u, (encEP (g i))[k]? = some u → W.cell? (x.add (i * 2 + k)) = some u := by
      intro i hi
      have e : g i = Classical.choose (each i hi) := dif_pos hi
      rw [e]
      exact Classical.choose_spec (each i hi)
    have hgl : (((List.range len).map g).map (·.1)).length = len := by simp
    refine ⟨((List.range len).map g).map (·.1), hgl, ⟨((List.range len).map g).flatMap encEP, fun h0 => ?_, elems_ep _ fun y hy => ?_⟩, by rw [hgl]; exact hl, (fun e => by cases e), hm⟩
    · have hl0 : 0 < len := by
        rcases Nat.eq_zero_or_pos len with e | e
        · subst e
          simp at h0
        · exact e
      obtain ⟨b, o, sp⟩ := x
      have hsp : sp = none := by simpa [Addr.add] using World.cell?_spot ((hg 0 hl0).2 0 _ rfl)
      subst hsp
      refine ⟨b, o, rfl, cells_gen encEP 2 (fun _ => rfl) _ o fun i y hi => ?_⟩
      have hi2 : i < len := by
        have := (List.getElem?_eq_some_iff.1 hi).1
        simpa using this
      have hy : y = g i := by
        rw [List.getElem?_map, List.getElem?_range hi2] at hi
        simpa using hi.symm
      subst hy
      intro k u hu
      have h3 := (hg i hi2).2 k u hu
      rw [Addr.add_lit, ← Nat.add_assoc] at h3
      exact h3
    · obtain ⟨i, hi, rfl⟩ := List.mem_map.1 hy
      exact (hg i (List.mem_range.1 hi)).1
end Go.Proofs.Ytochpomddfjkoaa.Op

namespace Go.Proofs.Ytochpomddfjkoaa.Op
open Go.RowKit Go.ChangeShapes Go.WideShapes Go.Proofs.Ytochpomddfjkoaa.VaM Go.Proofs.Ytochpomddfjkoaa.ExM Go.Proofs.Ytochpomddfjkoaa.Ex Go.Proofs.Ytochpomddfjkoaa.QyM Go.Proofs.Ytochpomddfjkoaa.Qy

/-- Queries that came in: each one's steps lie where its slice says. -/
def ArgQs (W : World) (A : Option Addr) (len cap : Nat) : Prop := ∃ l : List Q, l.length = len ∧ SlQ W A l cap

abbrev EQ := Q × (Option Addr × Nat)
def encEQ (x : EQ) : List Value := encQ x.1 x.2.1 x.2.2
def OkEQ (W : World) (x : EQ) : Prop := SlSt W x.2.1 x.1.p x.2.2 ∧ FineQ x.1
theorem elems_eq {W : World} : ∀ L : List EQ, (∀ x ∈ L, OkEQ W x) → RG.Elems KQ (fun _ => True) W (L.map (·.1)) (L.flatMap encEQ)
  | [], _ => rfl
  | x :: L, h => by
    obtain ⟨h1, h2⟩ := h x (by simp)
    exact ⟨encEQ x, L.flatMap encEQ, rfl, ⟨x.2.1, x.2.2, rfl, h1, h2, fun _ _ _ => True.intro⟩, elems_eq L fun y hy => h y (by simp [hy])⟩

set_option maxRecDepth 100000 in
theorem open_five {H : Type} {enc : TypeId × Value → H} {W : World} {fuel : Nat} {v0 v1 v2 v3 v4 : Value} {y : DataW H × List MemPlace} (h : DataW.trod enc Try.prog W 0 (fun _ => true) true fuel 45 [v0, v1, v2, v3, v4] = some y) :
    ∃ w a i f A len cap, v0 = .slice A len cap ∧ v1 = .int .i64 w ∧ v2 = .int .i64 a ∧ v3 = .int .i64 i ∧ v4 = .int .i64 f ∧ ArgQ W w a i f A len cap := by
  obtain ⟨y0, y1, y2, y3, y4, n, t0, t1, t2, t3, t4⟩ := five Try.underlying45 h
  have c1 : Try.prog.cellsOf 3 = 1 := by kernel_rfl
  have c2 : Try.prog.cellsOf 43 = 1 := by kernel_rfl
  simp only [c2] at t0
  simp only [c1] at t1 t2 t3 t4
  simp only [List.drop_zero, List.drop_succ_cons, List.take_succ_cons, List.take_zero] at t0 t1 t2 t3 t4
  obtain ⟨A, len, cap, rfl, p, hl, hs⟩ := open_steps t0
  obtain ⟨n1, e1', _, w1⟩ := DataW.trod_int Try.underlying3 t1
  obtain ⟨n2, e2', _, w2⟩ := DataW.trod_int Try.underlying3 t2
  obtain ⟨n3, e3', _, w3⟩ := DataW.trod_int Try.underlying3 t3
  obtain ⟨n4, e4', _, w4⟩ := DataW.trod_int Try.underlying3 t4
  simp only [List.cons.injEq, and_true] at e1' e2' e3' e4'
  have b1 := bounds_i64 w1
  have b2 := bounds_i64 w2
  have b3 := bounds_i64 w3
  have b4 := bounds_i64 w4
  exact ⟨n1, n2, n3, n4, A, len, cap, rfl, e1', e2', e3', e4', p, hl, hs, ⟨by simp only; omega, by simp only; omega⟩, ⟨by simp only; omega, by simp only; omega⟩, ⟨by simp only; omega, by simp only; omega⟩, by simp only; omega, by simp only; omega⟩

set_option maxRecDepth 100000 in
set_option maxHeartbeats 1000000 in
theorem open_queries {H : Type} {enc : TypeId × Value → H} {W : World} {r : Reach} {b0 : Nat} {v : Value} {d : DataW H} {p : List MemPlace} (hv : Value.okWide Try.prog W r b0 22 v)
    (h : DataW.Trod enc Try.prog W 0 (fun _ => true) true 22 v d p) : ∃ A len cap, v = .slice A len cap ∧ ArgQs W A len cap := by
  obtain ⟨a, len0, cap0, rfl⟩ := okWide_slice Try.underlying22 hv
  obtain ⟨fuel, hf⟩ := h
  simp only [Value.cells] at hf
  rcases Deep.open_slice Try.underlying22 hf with ⟨hcs, _⟩ | ⟨x, len, cap, m, n, D, Pl, hcs, _, hl, hm, hmm, _, hr⟩
  · simp only [List.cons.injEq, and_true] at hcs
    exact ⟨none, 0, 0, hcs, [], rfl, slQ_none W⟩
  · simp only [List.cons.injEq, and_true] at hcs
    refine ⟨some x, len, cap, hcs, ?_⟩
    simp only [if_true] at hmm
    subst hmm
    have each : ∀ i, i < len → ∃ y : EQ, OkEQ W y ∧ ∀ k u, (encEQ y)[k]? = some u → W.cell? (x.add (i * 5 + k)) = some u := by
      intro i hi
      obtain ⟨cs', hc, ht⟩ := hr i (by omega)
      rw [show Try.prog.cellsOf 45 = 5 from by kernel_rfl] at hc
      obtain ⟨_, hlen, hcell⟩ := World.cells?_some hc
      match cs', hlen with
      | [u0, u1, u2, u3, u4], _ =>
        obtain ⟨n1, n2, n3, n4, A, len, cap, rfl, rfl, rfl, rfl, rfl, q, hql, hs, hfi⟩ := open_five ht
        subst hql
        refine ⟨(⟨q, n1, n2, n3, n4⟩, (A, cap)), ⟨hs, hfi⟩, fun j u hu => ?_⟩
        have hj : j < 5 := (List.getElem?_eq_some_iff.1 hu).1
        have h3 := hcell j (by simpa using hj)
        rw [Deep.add_add] at h3
        rw [h3]
        exact hu
    let g : Nat → EQ := fun i => if h : i < len then Classical.choose (each i h) else (q0, (none, 0))
    have hg : ∀ i, i < len → OkEQ W (g i) ∧ ∀ k u, (encEQ (g i))[k]? = some u → W.cell? (x.add (i * 5 + k)) = some u := by
      intro i hi
      have e : g i = Classical.choose (each i hi) := dif_pos hi
      rw [e]
      exact Classical.choose_spec (each i hi)
    have hgl : (((List.range len).map g).map (·.1)).length = len := by simp
    refine ⟨((List.range len).map g).map (·.1), hgl, ⟨((List.range len).map g).flatMap encEQ, fun h0 => ?_, elems_eq _ fun y hy => ?_⟩, by rw [hgl]; exact hl, (fun e => by cases e), hm⟩
    · have hl0 : 0 < len := by
        rcases Nat.eq_zero_or_pos len with e | e
        · subst e
          simp at h0
        · exact e
      obtain ⟨b, o, sp⟩ := x
      have hsp : sp = none := by simpa [Addr.add] using World.cell?_spot ((hg 0 hl0).2 0 _ rfl)
      subst hsp
      refine ⟨b, o, rfl, cells_gen encEQ 5 (fun _ => rfl) _ o fun i y hi => ?_⟩
      have hi2 : i < len := by
        have := (List.getElem?_eq_some_iff.1 hi).1
        simpa using this
      have hy : y = g i := by
        rw [List.getElem?_map, List.getElem?_range hi2] at hi
        simpa using hi.symm
      subst hy
      intro k u hu
      have h3 := (hg i hi2).2 k u hu
      rw [Addr.add_lit, ← Nat.add_assoc] at h3
      exact h3
    · obtain ⟨i, hi, rfl⟩ := List.mem_map.1 hy
      exact (hg i (List.mem_range.1 hi)).1
end Go.Proofs.Ytochpomddfjkoaa.Op

namespace Go.Proofs.Ytochpomddfjkoaa.Ix
open Go.RowKit Go.Proofs.Ytochpomddfjkoaa.BM Go.Proofs.Ytochpomddfjkoaa.LM Go.Proofs.Ytochpomddfjkoaa.VaM Go.Proofs.Ytochpomddfjkoaa.ExM Go.Proofs.Ytochpomddfjkoaa.QyM Go.Proofs.Ytochpomddfjkoaa.IxM

theorem getD_of_mem {α : Type} {l : List α} {q : α} (h : q ∈ l) (d : α) : ∃ i, i < l.length ∧ l.getD i d = q := by
  obtain ⟨i, hi, e⟩ := List.getElem_of_mem h
  refine ⟨i, hi, ?_⟩
  rw [List.getD_eq_getElem?_getD, List.getElem?_eq_getElem hi]
  exact e
/-- Little is asked, in all. -/
def Little (l : List Q) : Prop := (l.flatMap askQ).length ≤ 100000000 ∧ ∀ p ∈ l.flatMap askQ, p.f.length ≤ 100000000
theorem asks_few {l : List Q} (h : QsFew l) : Little l := by
  obtain ⟨h1, h2⟩ := h
  have h2' : ∀ q ∈ l, Qy.Few q := fun q hq => by
    obtain ⟨i, hi, e⟩ := getD_of_mem hq q0
    rw [← e]
    exact h2 i hi
  have h3 : ∀ (r : List Q), (∀ q ∈ r, q.p.length ≤ 8) → (r.flatMap askQ).length ≤ 16 * r.length := by
    intro r
    induction r with
    | nil => intro _; simp
    | cons q r ih =>
      intro hr
      have h4 := askQ_len q
      have h5 := hr q (List.mem_cons_self ..)
      have h6 := ih fun x hx => hr x (List.mem_cons_of_mem _ hx)
      rw [List.flatMap_cons, List.length_append, List.length_cons]
      omega
  have h4 := h3 l fun q hq => (h2' q hq).1
  refine ⟨by omega, fun p hp => ?_⟩
  obtain ⟨q, hq, hp1⟩ := List.mem_flatMap.1 hp
  obtain ⟨x, hx, hp2⟩ := List.mem_flatMap.1 hp1
  obtain ⟨i, hi, e⟩ := getD_of_mem hx t0
  have h5 := (h2' q hq).2 i hi
  rw [e] at h5
  have h6 := h5.1.1
  have h7 := h5.2.1.1
  unfold askSt at hp2
  split at hp2
  · simp only [List.mem_cons, List.not_mem_nil, or_false] at hp2
    rcases hp2 with rfl | rfl
    · simp only
      omega
    · simp only
      omega
  · simp only [List.mem_singleton] at hp2
    rw [hp2]
    simp only
    omega
end Go.Proofs.Ytochpomddfjkoaa.Ix
