/- Several texts in one: what this layer has; what each asks is said at each theorem. -/
import Derived.Test.YtochpomddfjkoaaStepRow
import Derived.Test.YtochpomddfjkoaaStrCore
import Derived.Test.YtochpomddfjkoaaCore
import Derived.Test.YtochpomddfjkoaaIndexRefFind
import Derived.Maps.OwnIn
import Derived.StringKeys
import Derived.Maps.Views
import Derived.RangeFuncNested
import Derived.Test.YtochpomddfjkoaaPredRow
import Derived.RangeFuncBound
import Derived.RangeFuncCalls
import Derived.RangeFuncLeaves
import Derived.Shelf.Abstract
import Derived.Shelf.RegionOpen
import Derived.WalkKit
import Derived.OwnWalkIn
import Derived.TacticsInMore
import Derived.LoopNIn
import Derived.LoopIn
import Derived.Test.YtochpomddfjkoaaOpRow
import Derived.Test.YtochpomddfjkoaaValueEq
import Derived.BigQuiet
import Derived.Deep.QuietTactic
import Derived.Test.YtochpomddfjkoaaRegionB
import Derived.OrdersIn
import Derived.Test.YtochpomddfjkoaaQueryMath
import Derived.Test.YtochpomddfjkoaaBx
import Derived.Test.YtochpomddfjkoaaValueRefMay
import Derived.Test.YtochpomddfjkoaaSchemaMath
import Derived.Laws.RangeAny
import Derived.Test.YtochpomddfjkoaaEventMath
import Derived.Test.YtochpomddfjkoaaValueRow
import Derived.Test.YtochpomddfjkoaaRegion
import Derived.Test.YtochpomddfjkoaaExprThrough
import Derived.Test.YtochpomddfjkoaaRowG
import Derived.Test.YtochpomddfjkoaaExprThing
import Derived.Test.YtochpomddfjkoaaExprAs
import Derived.Test.YtochpomddfjkoaaExprAlike
import Derived.Test.YtochpomddfjkoaaExprLessOwn
import Derived.Test.YtochpomddfjkoaaExprJudge
import Derived.Test.YtochpomddfjkoaaValueHeld
import Derived.Test.YtochpomddfjkoaaExprGoes
import Derived.Test.YtochpomddfjkoaaExprBytes
import Derived.Test.YtochpomddfjkoaaValueApp

namespace Go.Proofs.Ytochpomddfjkoaa.Qy
open Go.RowKit Go.Proofs.Ytochpomddfjkoaa.BM Go.Proofs.Ytochpomddfjkoaa.LM Go.Proofs.Ytochpomddfjkoaa.VaM Go.Proofs.Ytochpomddfjkoaa.ExM Go.Proofs.Ytochpomddfjkoaa.QyM
open Go.Proofs.Ytochpomddfjkoaa.Ex (SlO slO_none)

/-- Elements elsewhere stay, where a block grows, or none. -/
theorem slG_grown' {α : Type} {K : RG.Kind α} {p : Nat → Prop} {w w' : World} {r : Option Nat} {A : Option Addr} {l : List α} {c : Nat} (h : RG.SlG K p w A l c) (hg : w.grownBy w' r) (hA : 0 < l.length → ∀ a, A = some a → some a.block ≠ r) (hp : ∀ k, p k → some k ≠ r) : RG.SlG K p w' A l c := by
  obtain ⟨⟨vs, h1, h2⟩, h3⟩ := h
  refine ⟨⟨vs, fun hx => ?_, h2.map fun _ _ h => K.grown h hg hp⟩, h3⟩
  obtain ⟨g, o, e, hc⟩ := h1 hx
  have hl : 0 < l.length := by
    have h5 := RG.Elems.len h2
    rcases Nat.eq_zero_or_pos l.length with h0 | h0
    · rw [h0, Nat.zero_mul] at h5
      omega
    · exact h0
  have hne : some g ≠ r := hA hl _ e
  exact ⟨g, o, e, fun j u hj => hg.cell (hc j u hj) hne⟩

theorem slG_lt {α : Type} {K : RG.Kind α} {p : Nat → Prop} {w : World} {A : Option Addr} {l : List α} {c : Nat} (hs : 0 < K.size) (h : RG.SlG K p w A l c) (h0 : 0 < l.length) {a : Addr} (ha : A = some a) : a.block < w.heap.size := by
  obtain ⟨b, q, cs, e, hW⟩ := h.at hs 0 _ (List.getElem?_eq_getElem h0)
  rw [ha] at e
  injection e with e
  subst e
  obtain ⟨hr, hc⟩ := hW w (Below.refl _ _)
  have hl := K.len hr
  have h5 := World.block_lt_of_cell? w _ (hc 0 _ (List.getElem?_eq_getElem (show 0 < cs.length by omega)))
  exact h5

def RelQ (p : Nat → Prop) (w : World) (q : Q) (cs : List Value) : Prop :=
  ∃ A c, cs = encQ q A c ∧ RG.SlG KSt p w A q.p c ∧ FineQ q ∧ (0 < q.p.length → ∀ a, A = some a → p a.block)

/-- How a query lies. -/
def KQ : RG.Kind Q where
  size := 5
  rel := RelQ
  len := fun ⟨_, _, h, _⟩ => by rw [h]; rfl
  one := fun ⟨_, _, h, _⟩ u hu => by
    rw [h] at hu
    simp only [encQ, List.mem_cons, List.not_mem_nil, or_false] at hu
    rcases hu with rfl | rfl | rfl | rfl | rfl <;> rfl
  mono := fun ⟨A, c, h1, h2, h3, h4⟩ k => ⟨A, c, h1, RG.SlG.mono h2 k, h3, fun h0 a ha => k _ (slG_lt (by decide) h2 h0 ha) (h4 h0 a ha)⟩
  kept := fun ⟨A, c, h1, h2, h3⟩ hb => ⟨A, c, h1, RG.SlG.kept h2 hb, h3⟩
  grown := fun ⟨A, c, h1, h2, h3, h4⟩ hg hr => ⟨A, c, h1, slG_grown' h2 hg (fun h0 a ha => hr _ (h4 h0 a ha)) hr, h3, h4⟩

theorem tyQ : RG.Ty 22 45 5 56 (.agg #[.slice none 0 0, .int .i64 0, .int .i64 0, .int .i64 0, .int .i64 0]) :=
  ⟨by kernel_rfl, by kernel_rfl, by kernel_rfl, fun _ => by kernel_rfl, rfl, by decide, by decide⟩

/-- A slice of queries: where it lies, its length and its capacity. -/
def SlQ (w : World) (A : Option Addr) (l : List Q) (c : Nat) : Prop := RG.SlG KQ (fun _ => True) w A l c
theorem SlQ.kept {w w' : World} {A : Option Addr} {l : List Q} {c : Nat} (h : SlQ w A l c) (hb : Below w.heap.size w w') : SlQ w' A l c := RG.SlG.kept h hb
theorem slQ_none (w : World) : SlQ w none [] 0 := RG.slG_none _ _ _
theorem slQ_len {w : World} {A : Option Addr} {l : List Q} {c : Nat} (h : SlQ w A l c) : l.length ≤ 9223372036854775807 := RG.slG_len h

/-- A query's five cells, wherever they lie. -/
def CellQ (w : World) (b o : Nat) (q : Q) (A : Option Addr) (c : Nat) : Prop :=
  w.cell? ⟨b, o, none⟩ = some (.slice A q.p.length c) ∧ w.cell? ⟨b, o + 1, none⟩ = some (.int .i64 q.w) ∧ w.cell? ⟨b, o + 2, none⟩ = some (.int .i64 q.a) ∧ w.cell? ⟨b, o + 3, none⟩ = some (.int .i64 q.i) ∧ w.cell? ⟨b, o + 4, none⟩ = some (.int .i64 q.f)

/-- The j-th of them. -/
theorem SlQ.at {w : World} {A : Option Addr} {l : List Q} {c : Nat} (h : SlQ w A l c) (j : Nat) (hj : j < l.length) :
    ∃ b q A1 c1, (∀ W n k, j < n → (Instr.indexAt 22 (.slice A n k) (.int .i64 (j : Int))).run Try.prog W = .ok (.pointer (some ⟨b, q, none⟩)) W) ∧
      (∀ W, Below w.heap.size w W → CellQ W b q (l.getD j q0) A1 c1 ∧ SlSt W A1 (l.getD j q0).p c1) ∧ FineQ (l.getD j q0) := by
  have hd : l[j]? = some (l.getD j q0) := by rw [List.getD_eq_getElem?_getD, List.getElem?_eq_getElem hj]; rfl
  obtain ⟨b, o, cs, rfl, hW⟩ := RG.SlG.at h (by decide) j _ hd
  obtain ⟨⟨A1, c1, h1, h2, h3, _⟩, hc⟩ := hW w (Below.refl _ _)
  refine ⟨b, o + j * 5, A1, c1, fun W n k hn => tyQ.index W b o n k j hn, fun W hb => ?_, h3⟩
  have hcell := fun i u (hu : cs[i]? = some u) => by
    have h5 := hc i u hu
    have h6 := hb.cell (p := ⟨b, o + j * KQ.size + i, none⟩) (World.block_lt_of_cell? w _ h5)
    rw [← h6] at h5
    exact h5
  rw [h1] at hcell
  exact ⟨⟨hcell 0 _ rfl, hcell 1 _ rfl, hcell 2 _ rfl, hcell 3 _ rfl, hcell 4 _ rfl⟩, SlSt.kept (RG.SlG.mono h2 fun _ _ _ => trivial) hb⟩
end Go.Proofs.Ytochpomddfjkoaa.Qy

namespace Go.Proofs.Ytochpomddfjkoaa.Qy
open Go.RowKit Go.Proofs.Ytochpomddfjkoaa.BM Go.Proofs.Ytochpomddfjkoaa.LM Go.Proofs.Ytochpomddfjkoaa.VaM Go.Proofs.Ytochpomddfjkoaa.ExM Go.Proofs.Ytochpomddfjkoaa.QyM
open Go.Proofs.Ytochpomddfjkoaa.Va (ret_v str_e0)

/-- A step, as a value of the program. -/
def agSt (x : St) (A : Option Addr) (c : Nat) (B : Option Addr) (d : Nat) : Value := .agg #[.string x.s, .slice A x.f.length c, .int .i64 x.lo, .int .i64 x.hi, .bool x.g, .string x.t, .slice B x.h.length d]

theorem e0_iff (s : ByteArray) : s.toList.isEmpty = decide (s = e0) := by
  by_cases h : s.size = 0
  · obtain rfl : s = e0 := by
      cases s with
      | mk d => rw [show d = #[] from Array.eq_empty_of_size_eq_zero h]; rfl
    rw [decide_eq_true rfl]
    show (ByteArray.mk #[]).toList.isEmpty = true
    rw [ByteArray.toList_eq]
    rfl
  · rw [str_e0 h, decide_eq_false (fun e => h (by rw [e]; rfl))]
theorem bx7 {w : World} {b : Nat} {v0 v1 v2 v3 v4 v5 v6 : Value} (h : RG.BxN w b [v0, v1, v2, v3, v4, v5, v6]) : w.cell? ⟨b, 0, none⟩ = some v0 ∧ w.cell? ⟨b, 1, none⟩ = some v1 ∧ w.cell? ⟨b, 2, none⟩ = some v2 ∧ w.cell? ⟨b, 3, none⟩ = some v3 ∧ w.cell? ⟨b, 4, none⟩ = some v4 ∧ w.cell? ⟨b, 5, none⟩ = some v5 ∧ w.cell? ⟨b, 6, none⟩ = some v6 :=
  ⟨(h 0 _ rfl).1, (h 1 _ rfl).1, (h 2 _ rfl).1, (h 3 _ rfl).1, (h 4 _ rfl).1, (h 5 _ rfl).1, (h 6 _ rfl).1⟩
theorem bx7_lt {w : World} {b : Nat} {v0 v1 v2 v3 v4 v5 v6 : Value} (h : RG.BxN w b [v0, v1, v2, v3, v4, v5, v6]) : b < w.heap.size := RG.BxN.lt h (show 0 < 7 by decide)
theorem bx5 {w : World} {b : Nat} {v0 v1 v2 v3 v4 : Value} (h : RG.BxN w b [v0, v1, v2, v3, v4]) : w.cell? ⟨b, 0, none⟩ = some v0 ∧ w.cell? ⟨b, 1, none⟩ = some v1 ∧ w.cell? ⟨b, 2, none⟩ = some v2 ∧ w.cell? ⟨b, 3, none⟩ = some v3 ∧ w.cell? ⟨b, 4, none⟩ = some v4 :=
  ⟨(h 0 _ rfl).1, (h 1 _ rfl).1, (h 2 _ rfl).1, (h 3 _ rfl).1, (h 4 _ rfl).1⟩
end Go.Proofs.Ytochpomddfjkoaa.Qy

namespace Go.Proofs.Ytochpomddfjkoaa.RegA
open Go.RowKit Go.Proofs.Ytochpomddfjkoaa.BM

theorem own_below {w w' : World} {base n : Nat} {e : TypeId} {size : Nat} {v : Value} {xs : List Value} (h : w.ownsRow base e size v n xs) (hb : Below w.heap.size w w') : w'.ownsRow base e size v n xs :=
  h.kept (row := none) ⟨hb.os, hb.tape, hb.output, hb.size, fun k hk _ => hb.block k hk⟩ (by cases v.ownBlock <;> simp)
end Go.Proofs.Ytochpomddfjkoaa.RegA

namespace Go.Proofs.Ytochpomddfjkoaa.Ix
open Go.RowKit Go.Proofs.Ytochpomddfjkoaa.BM Go.Proofs.Ytochpomddfjkoaa.LM Go.Proofs.Ytochpomddfjkoaa.VaM Go.Proofs.Ytochpomddfjkoaa.ExM Go.Proofs.Ytochpomddfjkoaa.QyM Go.Proofs.Ytochpomddfjkoaa.IxM
open Go.Proofs.Ytochpomddfjkoaa.Ex (SlO slO_none)
open Go.Proofs.Ytochpomddfjkoaa.Qy (SlQ slQ_len SlSt slSt_len CellQ CellSt slO_lt bx7)
open Go.Proofs.Ytochpomddfjkoaa.Va (ret_v)

/-- What All answers. -/
def AllB (l : List Q) (w : World) : Ending → World → Prop := fun r w' => ∃ A c, r = .returned (.slice A (all l).length c) ∧ SlPr w' A (all l) c ∧ Below w.heap.size w w'

theorem all_nil : all [] = [] := rfl
theorem all_take_succ {l : List Q} {i : Nat} (hi : i < l.length) : all (l.take (i + 1)) = pushes (all (l.take i)) (askQ (l.getD i q0)) := by
  rw [List.take_succ_eq_append_getElem hi, all_snoc, List.getD_eq_getElem?_getD, List.getElem?_eq_getElem hi]
  rfl
theorem asks_take_succ {p : List St} {k : Nat} (hk : k < p.length) (o : List Pr) : pushes o ((p.take (k + 1)).flatMap askSt) = pushes (pushes o ((p.take k).flatMap askSt)) (askSt (p.getD k t0)) := by
  rw [List.take_succ_eq_append_getElem hk, List.flatMap_append, pushes_app, List.getD_eq_getElem?_getD, List.getElem?_eq_getElem hk]
  simp
theorem askSt_no {o : List Pr} {x : St} (hg : x.g = false) : pushes o (askSt x) = push o ⟨x.s, x.f⟩ := by
  unfold askSt
  rw [hg, if_neg (by decide)]
  rfl
theorem askSt_yes {o : List Pr} {x : St} (hg : x.g = true) : pushes o (askSt x) = push (push o ⟨x.s, x.f⟩) ⟨x.t, x.h⟩ := by
  unfold askSt
  rw [hg, if_pos rfl]
  rfl

/-- A row of what is asked, as the walk has it. -/
def RowP (H : Nat) (W : World) (u : Value) (o : List Pr) (vs : List Value) : Prop := W.ownsRow H 26 2 u o.length vs ∧ RG.Elems KPr (fun k => k < H ∧ ne u k) W o vs
theorem RowP.below {H : Nat} {W W' : World} {u : Value} {o : List Pr} {vs : List Value} (h : RowP H W u o vs) (hb : Below W.heap.size W W') : RowP H W' u o vs := ⟨RegA.own_below h.1 hb, h.2.map fun _ _ h => KPr.kept h hb⟩
theorem RowP.slice {H : Nat} {W : World} {u : Value} {o : List Pr} {vs : List Value} (h : RowP H W u o vs) : ∃ A c, u = .slice A o.length c ∧ SlPr W A o c := by
  obtain ⟨A, c, h1, _, h3, _⟩ := RG.own_slG (K := KPr) h.1 h.2 (by decide)
  exact ⟨A, c, h1, RG.SlG.mono h3 fun _ _ _ => trivial⟩
theorem rel_pr {H : Nat} {w W : World} {u : Value} {s : ByteArray} {f : List O} {A : Option Addr} {c n : Nat} {vs : List Value} (hw : w.heap.size = H) (hO : SlO w A f c) (hs : s.size ≤ maxLen) (hb : Below w.heap.size w W) (hown : W.ownsRow H 26 2 u n vs) :
    KPr.rel (fun k => k < H ∧ ne u k) W ⟨s, f⟩ [.string s, .slice A f.length c] :=
  ⟨A, c, rfl, hO.kept hb, hs, fun h0 a ha => by
    have h1 := slO_lt hO h0 ha
    exact ⟨by omega, fun e => by have h2 := (hown.lt _ e.symm).1; omega⟩⟩
set_option maxRecDepth 100000 in
set_option maxHeartbeats 16000000 in
theorem refAll_any (l : List Q) (A : Option Addr) (c : Nat) (w : World) (hS : SlQ w A l c) (hsz : (l.flatMap askQ).length ≤ 100000000) :
    Calls Try.prog 16 #[.slice A l.length c] w (AllB l w) := by
  have hl := slQ_len hS
  have hstep := fun i => @all_take_succ l i
  have hcount : ∀ ps : List Pr, ps <+: l.flatMap askQ → (pushes [] ps).length ≤ 100000000 := fun ps h => by
    have h1 := (pushes_len ps []).2
    have h2 := h.length_le
    simp only [List.length_nil] at h1
    omega
  have hbnd : ∀ i, i ≤ l.length → (all (l.take i)).length ≤ 100000000 := fun i _ => hcount _ (by
    obtain ⟨r, hr⟩ := List.take_prefix i l
    exact ⟨r.flatMap askQ, by rw [← List.flatMap_append, hr]⟩)
  have hbnd2 : ∀ i, i < l.length → ∀ k, k ≤ (l.getD i q0).p.length → (pushes (all (l.take i)) (((l.getD i q0).p.take k).flatMap askSt)).length ≤ 100000000 := fun i hi k _ => by
    have h1 : pushes (all (l.take i)) (((l.getD i q0).p.take k).flatMap askSt) = pushes [] ((l.take i).flatMap askQ ++ ((l.getD i q0).p.take k).flatMap askSt) := by rw [pushes_app]; rfl
    rw [h1]
    refine hcount _ ?_
    obtain ⟨r, hr⟩ := List.take_prefix (i + 1) l
    obtain ⟨s, hs⟩ := List.take_prefix k (l.getD i q0).p
    refine ⟨s.flatMap askSt ++ r.flatMap askQ, ?_⟩
    have h2 : l.flatMap askQ = (l.take (i + 1)).flatMap askQ ++ r.flatMap askQ := by rw [← List.flatMap_append, hr]
    have h3 : (l.take (i + 1)).flatMap askQ = (l.take i).flatMap askQ ++ askQ (l.getD i q0) := by
      rw [List.take_succ_eq_append_getElem hi, List.flatMap_append, List.getD_eq_getElem?_getD, List.getElem?_eq_getElem hi]
      simp
    have h4 : askQ (l.getD i q0) = ((l.getD i q0).p.take k).flatMap askSt ++ s.flatMap askSt := by
      unfold askQ
      rw [← List.flatMap_append, hs]
    rw [h2, h3, h4]
    simp only [List.append_assoc]
  unfold AllB
  have hT : all (l.take l.length) = all l := by rw [List.take_length]
  obtain ⟨n, hn⟩ : ∃ n, n = l.length := ⟨_, rfl⟩
  rw [← hn] at hl hT ⊢
  simp only [← hn] at hstep hbnd hbnd2
  have HS := Lib.hid hS
  have HLen := Lib.hid hn
  have HStep := Lib.hid hstep
  have HBnd := Lib.hid hbnd
  have HBnd2 := Lib.hid hbnd2
  have HT := Lib.hid hT
  obtain ⟨H, hH⟩ : ∃ H, H = w.heap.size := ⟨_, rfl⟩
  have HH := Lib.hid hH.symm
  have hHle : H ≤ w.heap.size := by omega
  clear hS hsz hn hstep hcount hbnd hbnd2 hT hH
  go_enter Try.func16, Try.ntmps16
  go_wp2_with fail
  go_loopw [3, 4] (fun u i wr => ∃ (j : Nat) (vs : List Value), i = .int .i64 (j : Int) ∧ j ≤ n ∧ RowP H wr u (all (l.take j)) vs ∧ Below w.heap.size w wr) (fun _ i _ => n - (intOf i).toNat)
  case atStart => exact ⟨0, [], rfl, Nat.zero_le _, ⟨World.ownsRow_nil _ _ _ _, rfl⟩, Below.refl _ _⟩
  case round =>
    obtain ⟨j, vs, rfl, hj, hrow, hbel⟩ := hrel
    have HR := Lib.hid hrow
    have HBl := Lib.hid hbel
    clear hrow hbel
    by_cases hjn : j < n
    · obtain ⟨b1, q1, A1, c1, hix, hc, _⟩ := HS.out.at j (by rw [← HLen.out]; exact hjn)
      have hi := fun W => hix W n c hjn
      have hbn := HBnd2.out j hjn
      have hst := HStep.out j hjn
      obtain ⟨x, hx⟩ : ∃ x, x = l.getD j q0 := ⟨_, rfl⟩
      rw [← hx] at hc hbn hst
      obtain ⟨qp, qw, qa, qi, qf⟩ := x
      obtain ⟨m, hm⟩ : ∃ m, m = qp.length := ⟨_, rfl⟩
      have hcell := fun W (h : Below w.heap.size w W) => (hc W h).1
      have hsteps := (hc w (Below.refl _ _)).2
      unfold CellQ at hcell
      simp only [← hm] at hcell hbn hsteps
      obtain ⟨o, ho⟩ : ∃ o, o = all (l.take j) := ⟨_, rfl⟩
      rw [← ho] at HR hbn hst
      unfold askQ at hst
      simp only at hst
      have hml := slSt_len hsteps
      rw [← hm] at hml
      have HC := Lib.hid hcell
      have HSt := Lib.hid hsteps
      have HBn := Lib.hid hbn
      have HNext := Lib.hid hst
      have HM := Lib.hid hm
      clear hix hc hx hcell hsteps hbn hst hm ho
      go_wp2_with fail
      go_loopw [3, 5] (fun u i wr2 => ∃ (k : Nat) (vs2 : List Value), i = .int .i64 (k : Int) ∧ k ≤ m ∧ RowP H wr2 u (pushes o ((qp.take k).flatMap askSt)) vs2 ∧ Below w.heap.size w wr2) (fun _ i _ => m - (intOf i).toNat)
      case atStart => exact ⟨0, vs, rfl, Nat.zero_le _, HR.out, HBl.out⟩
      case round =>
        clear HR
        obtain ⟨k, vs2, rfl, hk, hrow, hbel⟩ := hrel
        have HR := Lib.hid hrow
        have HBl2 := Lib.hid hbel
        obtain ⟨p0, _⟩ := HC.out _ hbel
        clear hrow hbel
        by_cases hkm : k < m
        · obtain ⟨b2, q2, A2, c2, C2, d2, hix2, hc2, hfin⟩ := HSt.out.at k (by rw [← HM.out]; exact hkm)
          have hi2 := fun W => hix2 W m c1 hkm
          have hnx := @asks_take_succ qp k (by rw [← HM.out]; exact hkm) o
          have hsz1 := HBn.out k hk
          have hsz2 := HBn.out (k + 1) hkm
          rw [hnx] at hsz2
          obtain ⟨x, hx⟩ : ∃ x, x = qp.getD k t0 := ⟨_, rfl⟩
          rw [← hx] at hc2 hfin hnx hsz2
          obtain ⟨o1, ho1⟩ : ∃ o1, o1 = pushes o ((qp.take k).flatMap askSt) := ⟨_, rfl⟩
          rw [← ho1] at HR hnx hsz1 hsz2
          obtain ⟨ts, tf, lo, hi', tg, tt, th⟩ := x
          obtain ⟨n1, hn1⟩ : ∃ n, n = tf.length := ⟨_, rfl⟩
          obtain ⟨n2, hn2⟩ : ∃ n, n = th.length := ⟨_, rfl⟩
          have hcs := (hc2 wr (by exact HBl2.out)).1
          have hso := (hc2 w (Below.refl _ _)).2.1
          have hsh := (hc2 w (Below.refl _ _)).2.2
          unfold CellSt at hcs
          simp only [← hn1, ← hn2] at hcs
          simp only at hso hsh
          obtain ⟨y0, y1, y2, y3, y4, y5, y6⟩ := hcs
          obtain ⟨⟨hz1, hz2⟩, _⟩ := hfin
          simp only at hz1 hz2
          have hstepno := @askSt_no o1 ⟨ts, tf, lo, hi', tg, tt, th⟩
          have hstepyes := @askSt_yes o1 ⟨ts, tf, lo, hi', tg, tt, th⟩
          simp only at hstepno hstepyes
          have hl1 : (push o1 ⟨ts, tf⟩).length ≤ 100000001 := by have := (push_len o1 ⟨ts, tf⟩).2; omega
          have hfd1 := fun A3 c3 W (h : SlPr W A3 o1 c3) (hb : Below w.heap.size w W) => refFind_any o1 ⟨ts, tf⟩ A3 c3 A2 c2 W h (hso.kept hb)
          have hfd2 := fun o A3 c3 W (h : SlPr W A3 o c3) (hb : Below w.heap.size w W) => refFind_any o ⟨tt, th⟩ A3 c3 C2 d2 W h (hsh.kept hb)
          unfold agPr at hfd1 hfd2
          simp only [← hn1] at hfd1
          simp only [← hn2] at hfd2
          have hrel1 := fun n u vs W (h : W.ownsRow H 26 2 u n vs) (hb : Below w.heap.size w W) => rel_pr (s := ts) HH.out hso hz1 hb h
          have hrel2 := fun n u vs W (h : W.ownsRow H 26 2 u n vs) (hb : Below w.heap.size w W) => rel_pr (s := tt) HH.out hsh hz2 hb h
          simp only [← hn1] at hrel1
          simp only [← hn2] at hrel2
          obtain ⟨A3, c3, hu3, hsl3⟩ := HR.out.slice
          obtain ⟨n3, hn3⟩ : ∃ n, n = o1.length := ⟨_, rfl⟩
          rw [← hn3] at hu3
          have hfd := hfd1 A3 c3
          rw [← hn3] at hfd
          subst hu3
          have HFd := Lib.hid hfd
          have HFd2 := Lib.hid hfd2
          have HRel1 := Lib.hid hrel1
          have HRel2 := Lib.hid hrel2
          have HNo := Lib.hid hstepno
          have HYes := Lib.hid hstepyes
          have HNx := Lib.hid hnx
          -- the blocks of the step and of what it asks
          have ha1 := (Below.refl wr.heap.size wr).alloc (Nat.le_refl _) (.cells #[.string ts, .slice A2 n1 c2, .int .i64 lo, .int .i64 hi', .bool tg, .string tt, .slice C2 n2 d2] 47)
          have hN1 := RG.bxN_new wr 47 [.string ts, .slice A2 n1 c2, .int .i64 lo, .int .i64 hi', .bool tg, .string tt, .slice C2 n2 d2]
          obtain ⟨W1, hW1⟩ : ∃ W, W = wr.alloc (.cells #[.string ts, .slice A2 n1 c2, .int .i64 lo, .int .i64 hi', .bool tg, .string tt, .slice C2 n2 d2] 47) := ⟨_, rfl⟩
          have hs1 : W1.heap.size = wr.heap.size + 1 := by rw [hW1]; simp
          rw [show (List.toArray [Value.string ts, .slice A2 n1 c2, .int .i64 lo, .int .i64 hi', .bool tg, .string tt, .slice C2 n2 d2]) = #[Value.string ts, .slice A2 n1 c2, .int .i64 lo, .int .i64 hi', .bool tg, .string tt, .slice C2 n2 d2] from rfl, ← hW1] at hN1
          rw [← hW1] at ha1
          have ha2 := below_pr W1 ts A2 n1 c2
          have hP2 := bxPr_new W1 ts A2 n1 c2
          rw [hs1] at hP2
          obtain ⟨W2, hW2⟩ : ∃ W, W = W1.alloc (.cells #[.string ts, .slice A2 n1 c2] 26) := ⟨_, rfl⟩
          rw [← hW2] at ha2 hP2
          have hN2 := RG.BxN.kept hN1 ha2
          have z0 := (bx7 hN1).1
          have z1 := (bx7 hN1).2.1
          obtain ⟨v0, v1⟩ := hP2.cells
          have HB2 := Lib.hid (bt HBl2.out (bt ha1 ha2))
          have HR2 := Lib.hid (HR.out.below (bt ha1 ha2))
          have HS2 := Lib.hid (hsl3.kept (bt ha1 ha2))
          have HN2 := Lib.hid hN2
          have HP2 := Lib.hid hP2
          rw [hW1] at z0 z1
          rw [hW2, hW1] at v0 v1
          rw [hW1] at hW2
          have HW2 := Lib.hid hW2
          have HOld := Lib.hid (show ∀ q, (Value.slice A3 n3 c3).ownBlock = some q → q < wr.heap.size from fun q e => (HR.out.1.lt q e).2)
          have HN3l := Lib.hid hn3
          clear hn3
          clear ha1 hN1 ha2 hP2 hN2 hs1 hW1 hW2 hsl3 HR hso hsh hfd1 hfd2 hfd hrel1 hrel2 hstepno hstepyes hnx hx ho1 hn1 hn2 hz1 hz2 hc2 hix2 W1
          go_wp2_with fail
          rw [← HW2.out]
          refine (HFd.out W2 HS2.out HB2.out).mono ?_
          rintro e w3 ⟨rfl, hb⟩
          clear z0 z1 v0 v1 y0 y1 y2 y3 y4 y5 y6 p0
          have HB3 := Lib.hid (bt HB2.out hb)
          have HR3 := Lib.hid (HR2.out.below hb)
          have HN3 := Lib.hid (RG.BxN.kept HN2.out hb)
          have HP3 := Lib.hid (HP2.out.kept hb)
          have HS3 := Lib.hid (HS2.out.kept hb)
          clear hb HB2 HR2 HN2 HP2 HS2 HW2 W2 HFd
          obtain ⟨v0, v1⟩ := HP3.out.cells
          obtain ⟨o2, ho2⟩ : ∃ o2, o2 = push o1 ⟨ts, tf⟩ := ⟨_, rfl⟩
          rw [← ho2] at HNo HYes hl1
          by_cases hin : ⟨ts, tf⟩ ∈ o1
          · have hd : decide (find o1 ⟨ts, tf⟩ < 0) = false := by rw [decide_eq_false_iff_not, find_lt]; exact fun h => h hin
            have hpu : o2 = o1 := ho2.trans (push_in hin)
            obtain ⟨F1, hF1⟩ : ∃ F, F = find o1 ⟨ts, tf⟩ := ⟨_, rfl⟩
            rw [← hF1] at hd ⊢
            clear hF1 hin ho2
            subst hpu
            obtain ⟨w5, hw5⟩ : ∃ w5, w5 = w3 := ⟨_, rfl⟩
            obtain ⟨A5, hA5⟩ : ∃ A, A = A3 := ⟨_, rfl⟩
            obtain ⟨n5, hn5⟩ : ∃ A, A = n3 := ⟨_, rfl⟩
            obtain ⟨c5, hc5⟩ : ∃ A, A = c3 := ⟨_, rfl⟩
            obtain ⟨vs5, hv5⟩ : ∃ A, A = vs2 := ⟨_, rfl⟩
            subst hw5 hA5 hn5 hc5 hv5
            have HR5 := HR3; have HB5 := HB3; have HN5 := HN3; have HS5 := HS3
            have HN5l := Lib.hid HN3l.out
            clear HR3 HB3 HN3 HS3 HP3 v0 v1
            have ha6 := below_pr w5 tt C2 n2 d2
            have hP6 := bxPr_new w5 tt C2 n2 d2
            obtain ⟨W6, hW6⟩ : ∃ W, W = w5.alloc (.cells #[.string tt, .slice C2 n2 d2] 26) := ⟨_, rfl⟩
            rw [← hW6] at ha6 hP6
            have s5 := (bx7 HN5.out).2.2.2.2.2.1
            have s6 := (bx7 HN5.out).2.2.2.2.2.2
            have t4 := (bx7 (RG.BxN.kept HN5.out ha6)).2.2.2.2.1
            obtain ⟨v0, v1⟩ := hP6.cells
            have HB6 := Lib.hid (bt HB5.out ha6)
            have HR6 := Lib.hid (HR5.out.below ha6)
            have HS6 := Lib.hid (HS5.out.kept ha6)
            have HP6 := Lib.hid hP6
            rw [hW6] at t4 v0 v1
            have HW6 := Lib.hid hW6
            have hfd6 := HFd2.out o2 A5 c5
            rw [← HN5l.out] at hfd6
            have HFd6 := Lib.hid hfd6
            clear ha6 hP6 hW6 hfd6 HB5 HR5 HS5 HN5
            try unfold Pause
            cases tg with
            | false =>
              go_wp2_with fail
              rw [← HW6.out]
              go_roundw
              case rel => exact ⟨k + 1, _, by go_num, by omega, by rw [HNx.out, HNo.out (by trivial)]; exact HR6.out, HB6.out⟩
              case measure => simp [intOf]; omega
            | true =>
              have hyes := HYes.out (by trivial)
              have HYs := Lib.hid hyes
              clear hyes
              go_wp2_with fail
              rw [← HW6.out]
              refine (HFd6.out W6 HS6.out HB6.out).mono ?_
              rintro e w7 ⟨rfl, hb⟩
              have HB7 := Lib.hid (bt HB6.out hb)
              have HR7 := Lib.hid (HR6.out.below hb)
              obtain ⟨v0, v1⟩ := (HP6.out.kept hb).cells
              clear hb HB6 HR6 HS6 HW6 s5 s6 t4
              by_cases hin2 : ⟨tt, th⟩ ∈ o2
              · have hd : decide (find o2 ⟨tt, th⟩ < 0) = false := by rw [decide_eq_false_iff_not, find_lt]; exact fun h => h hin2
                have hpu := push_in hin2
                obtain ⟨F2, hF2⟩ : ∃ F, F = find o2 ⟨tt, th⟩ := ⟨_, rfl⟩
                rw [← hF2] at hd ⊢
                have HPu := Lib.hid hpu
                clear hF2 hin2 hpu
                go_wp2_with fail
                go_roundw
                case rel => exact ⟨k + 1, _, by go_num, by omega, by rw [HNx.out, HYs.out, HPu.out]; exact HR7.out, HB7.out⟩
                case measure => simp [intOf]; omega
              · have hd : decide (find o2 ⟨tt, th⟩ < 0) = true := by rw [decide_eq_true_iff, find_lt]; exact hin2
                have hpu := push_new hin2
                obtain ⟨F2, hF2⟩ : ∃ F, F = find o2 ⟨tt, th⟩ := ⟨_, rfl⟩
                rw [← hF2] at hd ⊢
                have HPu := Lib.hid hpu
                clear hF2 hin2 hpu
                have ha := below_pr w7 tt C2 n2 d2
                have hnew := RG.elem_new (K := KPr) w7 26 ⟨tt, th⟩ [.string tt, .slice C2 n2 d2] (HRel2.out _ _ _ _ HR7.out.1 HB7.out)
                have HRow := Lib.hid hnew.1
                have HNew := Lib.hid hnew.2
                have HR7' := Lib.hid (HR7.out.below ha)
                have HBa := Lib.hid (bt HB7.out ha)
                have hz : H ≤ (w7.alloc (.cells #[.string tt, .slice C2 n2 d2] 26)).heap.size := Nat.le_trans hHle HBa.out.size
                have hlo : o2.length = n5 := by first | exact HN5l.out.symm | exact HN3l.out.symm
                have HOw := Lib.hid HR7'.out.1
                have HEl := Lib.hid HR7'.out.2
                rw [hlo] at HOw
                have hb3 : n5 ≤ 100000002 := by omega
                have HLo := Lib.hid hlo
                clear ha hnew HR7 HR7' hlo
                go_wp2_with (at_builtin; refine RG.Ty.wp_append (K := KPr) tyPr (fun k => k < H) rfl (.tmp 59) (.tmp 61) rfl H _ n5 vs5 o2 rfl HOw.out HEl.out (some ⟨w7.heap.size, 0, none⟩) 1 1 _ [⟨tt, th⟩] rfl rfl HRow.out HNew.out (fun h => by cases h) (by omega) hz ?_; intro u9 w9 hown hel hgrow; refine pause ?_)
                have hbel := HBa.out.grown hgrow (by have := HH.out; omega) (fun q hq => by have := (HOw.out.lt q hq).1; have := HH.out; omega)
                rw [← HPu.out] at hel
                have hnl : n5 + 1 = (push o2 ⟨tt, th⟩).length := by rw [HPu.out, List.length_append, HLo.out]; rfl
                rw [hnl] at hown
                have HR9 := Lib.hid (show RowP H w9 u9 (push o2 ⟨tt, th⟩) _ from ⟨hown, hel⟩)
                have HB9 := Lib.hid hbel
                clear hown hel hgrow hbel hnl HRow HNew HOw HEl HBa hz hb3
                unfold Pause
                go_wp2_with fail
                go_roundw
                case rel => exact ⟨k + 1, _, by go_num, by omega, by rw [HNx.out, HYs.out]; exact HR9.out, HB9.out⟩
                case measure => simp [intOf]; omega
          · have hd : decide (find o1 ⟨ts, tf⟩ < 0) = true := by rw [decide_eq_true_iff, find_lt]; exact hin
            have hpu := push_new hin
            obtain ⟨F1, hF1⟩ : ∃ F, F = find o1 ⟨ts, tf⟩ := ⟨_, rfl⟩
            rw [← hF1] at hd ⊢
            have HPu := Lib.hid hpu
            have HO2 := Lib.hid ho2
            clear hF1 hin hpu ho2 HS3
            have ha := below_pr w3 ts A2 n1 c2
            have hnew := RG.elem_new (K := KPr) w3 26 ⟨ts, tf⟩ [.string ts, .slice A2 n1 c2] (HRel1.out _ _ _ _ HR3.out.1 HB3.out)
            have HRow := Lib.hid hnew.1
            have HNew := Lib.hid hnew.2
            have HR3' := Lib.hid (HR3.out.below ha)
            have HBa := Lib.hid (bt HB3.out ha)
            have hz : H ≤ (w3.alloc (.cells #[.string ts, .slice A2 n1 c2] 26)).heap.size := Nat.le_trans hHle HBa.out.size
            have hlo : o1.length = n3 := by first | exact HN5l.out.symm | exact HN3l.out.symm
            have HOw := Lib.hid HR3'.out.1
            have HEl := Lib.hid HR3'.out.2
            rw [hlo] at HOw
            have hb3 : n3 ≤ 100000002 := by omega
            have HLo := Lib.hid hlo
            clear ha hnew HR3 HR3' hlo
            go_wp2_with (at_builtin; refine RG.Ty.wp_append (K := KPr) tyPr (fun k => k < H) rfl (.tmp 42) (.tmp 44) rfl H _ n3 vs2 o1 rfl HOw.out HEl.out (some ⟨w3.heap.size, 0, none⟩) 1 1 _ [⟨ts, tf⟩] rfl rfl HRow.out HNew.out (fun h => by cases h) (by omega) hz ?_; intro u5 w5 hown hel hgrow; refine pause ?_)
            have hbel := HBa.out.grown hgrow (by have := HH.out; omega) (fun q hq => by have := (HOw.out.lt q hq).1; have := HH.out; omega)
            rw [← HPu.out] at hel
            have hnl : n3 + 1 = (push o1 ⟨ts, tf⟩).length := by rw [HPu.out, List.length_append, HLo.out]; rfl
            rw [hnl] at hown
            have HR5 := Lib.hid (show RowP H w5 u5 (push o1 ⟨ts, tf⟩) _ from ⟨hown, hel⟩)
            have HB5 := Lib.hid hbel
            have HN5 := Lib.hid (RG.BxN.grown (RG.BxN.kept HN3.out (below_pr w3 ts A2 n1 c2)) hgrow (fun e => by have := HOld.out _ e.symm; omega))
            clear hown hel hgrow hbel hnl HRow HNew HOw HEl HBa hz hb3
            have hr5 := HR5.out
            rw [← HO2.out] at hr5
            clear HR5 HN3 HP3 v0 v1 hd HB3
            obtain ⟨A5, c5, hu5, hsl5⟩ := hr5.slice
            obtain ⟨n5, hn5⟩ : ∃ n, n = o2.length := ⟨_, rfl⟩
            rw [← hn5] at hu5
            subst hu5
            obtain ⟨vs5, hv5⟩ : ∃ v, v = vs2 ++ [Value.string ts, .slice A2 n1 c2] := ⟨_, rfl⟩
            rw [← hv5] at hr5
            have HR5 := Lib.hid hr5
            have HS5 := Lib.hid hsl5
            have HN5l := Lib.hid hn5
            clear hr5 hsl5 hn5 hv5
            have ha6 := below_pr w5 tt C2 n2 d2
            have hP6 := bxPr_new w5 tt C2 n2 d2
            obtain ⟨W6, hW6⟩ : ∃ W, W = w5.alloc (.cells #[.string tt, .slice C2 n2 d2] 26) := ⟨_, rfl⟩
            rw [← hW6] at ha6 hP6
            have s5 := (bx7 HN5.out).2.2.2.2.2.1
            have s6 := (bx7 HN5.out).2.2.2.2.2.2
            have t4 := (bx7 (RG.BxN.kept HN5.out ha6)).2.2.2.2.1
            obtain ⟨v0, v1⟩ := hP6.cells
            have HB6 := Lib.hid (bt HB5.out ha6)
            have HR6 := Lib.hid (HR5.out.below ha6)
            have HS6 := Lib.hid (HS5.out.kept ha6)
            have HP6 := Lib.hid hP6
            rw [hW6] at t4 v0 v1
            have HW6 := Lib.hid hW6
            have hfd6 := HFd2.out o2 A5 c5
            rw [← HN5l.out] at hfd6
            have HFd6 := Lib.hid hfd6
            clear ha6 hP6 hW6 hfd6 HB5 HR5 HS5 HN5
            try unfold Pause
            cases tg with
            | false =>
              go_wp2_with fail
              rw [← HW6.out]
              go_roundw
              case rel => exact ⟨k + 1, _, by go_num, by omega, by rw [HNx.out, HNo.out (by trivial)]; exact HR6.out, HB6.out⟩
              case measure => simp [intOf]; omega
            | true =>
              have hyes := HYes.out (by trivial)
              have HYs := Lib.hid hyes
              clear hyes
              go_wp2_with fail
              rw [← HW6.out]
              refine (HFd6.out W6 HS6.out HB6.out).mono ?_
              rintro e w7 ⟨rfl, hb⟩
              have HB7 := Lib.hid (bt HB6.out hb)
              have HR7 := Lib.hid (HR6.out.below hb)
              obtain ⟨v0, v1⟩ := (HP6.out.kept hb).cells
              clear hb HB6 HR6 HS6 HW6 s5 s6 t4
              by_cases hin2 : ⟨tt, th⟩ ∈ o2
              · have hd : decide (find o2 ⟨tt, th⟩ < 0) = false := by rw [decide_eq_false_iff_not, find_lt]; exact fun h => h hin2
                have hpu := push_in hin2
                obtain ⟨F2, hF2⟩ : ∃ F, F = find o2 ⟨tt, th⟩ := ⟨_, rfl⟩
                rw [← hF2] at hd ⊢
                have HPu := Lib.hid hpu
                clear hF2 hin2 hpu
                go_wp2_with fail
                go_roundw
                case rel => exact ⟨k + 1, _, by go_num, by omega, by rw [HNx.out, HYs.out, HPu.out]; exact HR7.out, HB7.out⟩
                case measure => simp [intOf]; omega
              · have hd : decide (find o2 ⟨tt, th⟩ < 0) = true := by rw [decide_eq_true_iff, find_lt]; exact hin2
                have hpu := push_new hin2
                obtain ⟨F2, hF2⟩ : ∃ F, F = find o2 ⟨tt, th⟩ := ⟨_, rfl⟩
                rw [← hF2] at hd ⊢
                have HPu := Lib.hid hpu
                clear hF2 hin2 hpu
                have ha := below_pr w7 tt C2 n2 d2
                have hnew := RG.elem_new (K := KPr) w7 26 ⟨tt, th⟩ [.string tt, .slice C2 n2 d2] (HRel2.out _ _ _ _ HR7.out.1 HB7.out)
                have HRow := Lib.hid hnew.1
                have HNew := Lib.hid hnew.2
                have HR7' := Lib.hid (HR7.out.below ha)
                have HBa := Lib.hid (bt HB7.out ha)
                have hz : H ≤ (w7.alloc (.cells #[.string tt, .slice C2 n2 d2] 26)).heap.size := Nat.le_trans hHle HBa.out.size
                have hlo : o2.length = n5 := by first | exact HN5l.out.symm | exact HN3l.out.symm
                have HOw := Lib.hid HR7'.out.1
                have HEl := Lib.hid HR7'.out.2
                rw [hlo] at HOw
                have hb3 : n5 ≤ 100000002 := by omega
                have HLo := Lib.hid hlo
                clear ha hnew HR7 HR7' hlo
                go_wp2_with (at_builtin; refine RG.Ty.wp_append (K := KPr) tyPr (fun k => k < H) rfl (.tmp 59) (.tmp 61) rfl H _ n5 vs5 o2 rfl HOw.out HEl.out (some ⟨w7.heap.size, 0, none⟩) 1 1 _ [⟨tt, th⟩] rfl rfl HRow.out HNew.out (fun h => by cases h) (by omega) hz ?_; intro u9 w9 hown hel hgrow; refine pause ?_)
                have hbel := HBa.out.grown hgrow (by have := HH.out; omega) (fun q hq => by have := (HOw.out.lt q hq).1; have := HH.out; omega)
                rw [← HPu.out] at hel
                have hnl : n5 + 1 = (push o2 ⟨tt, th⟩).length := by rw [HPu.out, List.length_append, HLo.out]; rfl
                rw [hnl] at hown
                have HR9 := Lib.hid (show RowP H w9 u9 (push o2 ⟨tt, th⟩) _ from ⟨hown, hel⟩)
                have HB9 := Lib.hid hbel
                clear hown hel hgrow hbel hnl HRow HNew HOw HEl HBa hz hb3
                unfold Pause
                go_wp2_with fail
                go_roundw
                case rel => exact ⟨k + 1, _, by go_num, by omega, by rw [HNx.out, HYs.out]; exact HR9.out, HB9.out⟩
                case measure => simp [intOf]; omega
        · obtain rfl : k = m := by omega
          go_wp2_with fail
          go_roundw
          case rel => exact ⟨j + 1, _, by go_num, by omega, by rw [HNext.out, ← List.take_length (l := qp), ← HM.out]; exact HR.out, HBl2.out⟩
          case measure => simp [intOf]; omega
    · obtain rfl : j = n := by omega
      obtain ⟨A1, c1, hu, hsl⟩ := HR.out.slice
      rw [HT.out] at hu hsl
      obtain ⟨r, hr⟩ : ∃ r, r = (all l).length := ⟨_, rfl⟩
      rw [← hr] at hu
      subst hu
      have HSl := Lib.hid hsl
      have HRl := Lib.hid hr
      clear hsl hr
      go_wp2_with fail
      go_ret
      exact ⟨A1, c1, ret_v (by rw [HRl.out]; rfl), HSl.out, HBl.out⟩
end Go.Proofs.Ytochpomddfjkoaa.Ix

namespace Go.Proofs.Ytochpomddfjkoaa.Ix
open Go.RowKit Go.Maps Go.Proofs.Ytochpomddfjkoaa.BM Go.Proofs.Ytochpomddfjkoaa.LM Go.Proofs.Ytochpomddfjkoaa.VaM Go.Proofs.Ytochpomddfjkoaa.ExM Go.Proofs.Ytochpomddfjkoaa.QyM Go.Proofs.Ytochpomddfjkoaa.IxM
open Go.Proofs.Ytochpomddfjkoaa.Ex (SlO slO_none)
open Go.Proofs.Ytochpomddfjkoaa.Qy (slO_grown' slO_lt)

/-- A value of a map, as it is. -/
def tok (v : Value) : Option (DataW Value × List MemPlace) := some (.held v, [])
def nilS : Value := .slice none 0 0
def key (s : ByteArray) : Lit := .string s.data.toList
theorem key_of {s : ByteArray} (hs : s.size ≤ maxLen) : keyOf Try.prog 9 (.string s) = some (key s) := WideMaps.keyOf_string_mk Try.underlying9 hs
theorem key_ne {s t : ByteArray} (h : s ≠ t) : key s ≠ key t := fun e => h (by
  unfold key at e
  injection e with e
  exact ByteArray.ext (Array.toList_inj.1 e))

/-- Those of a name. -/
def named (o : List Pr) (s : ByteArray) : List Pr := o.filter fun x => decide (x.s = s)
theorem named_snoc_same {o : List Pr} {p : Pr} : named (o ++ [p]) p.s = named o p.s ++ [p] := by
  unfold named
  rw [List.filter_append, List.filter_cons_of_pos (by simp), List.filter_nil]
theorem named_snoc_other {o : List Pr} {p : Pr} {s : ByteArray} (h : s ≠ p.s) : named (o ++ [p]) s = named o s := by
  unfold named
  rw [List.filter_append, List.filter_cons_of_neg (by simpa using fun e => h e.symm), List.filter_nil, List.append_nil]
theorem mem_named {o : List Pr} {p : Pr} : p ∈ named o p.s ↔ p ∈ o := by
  unfold named
  rw [List.mem_filter]
  simp
theorem named_len (o : List Pr) (s : ByteArray) : (named o s).length ≤ o.length := List.length_filter_le ..

/-- What lies in a block that is none of the turned ones stays. -/
theorem rel_turned {p q : Nat → Prop} {w w' : World} {x : Pr} {cs : List Value} {r : Option Nat} (h : KPr.rel p w x cs) (hg : w.grownBy w' r) (hr : ∀ b, p b → w.heap[b]? ≠ none → some b = r → ∃ o : Obj, w.heap[b]? = some o ∧ o.isCells = false) (hq : ∀ b, p b → b < w.heap.size → q b) : KPr.rel q w' x cs := by
  obtain ⟨A, c, h1, h2, h3, h4⟩ := h
  refine ⟨A, c, h1, slO_grown' h2 hg fun h0 a ha e => ?_, h3, fun h0 a ha => hq _ (h4 h0 a ha) (slO_lt h2 h0 ha)⟩
  obtain ⟨⟨⟨us, g1, g2⟩, _⟩, _⟩ := h2
  have hlen := RG.Elems.len g2
  obtain ⟨b, o, e1, hc⟩ := g1 (by rw [hlen]; exact Nat.mul_pos h0 (by decide))
  rw [ha] at e1
  injection e1 with e1
  subst e1
  have hu : 0 < us.length := by rw [hlen]; exact Nat.mul_pos h0 (by decide)
  have hcell := hc 0 _ (List.getElem?_eq_getElem hu)
  have hlt := World.block_lt_of_cell? w _ hcell
  simp only at hlt e
  obtain ⟨ob, k1, k2⟩ := hr b (h4 h0 _ ha) (by rw [Array.getElem?_eq_getElem hlt]; exact fun h => by cases h) e
  unfold World.cell? at hcell
  simp only [k1] at hcell
  cases ob <;> simp [Obj.isCells] at k2 hcell

/-- What may be turned by a round: rows of what is asked, the variable of them all, and the map. -/
def soft (t : TypeId) : Prop := t ≠ 45 ∧ t ≠ 47
/-- What a round keeps: what was there ahead of the call, and the blocks of queries and steps. -/
def KpT (H : Nat) (W W' : World) : Prop := Below H W W' ∧ ∀ (k : Nat) vs t o, W.heap[k]? = some (Obj.cells vs t o) → ¬ soft t → W'.heap[k]? = some (Obj.cells vs t o)
theorem KpT.trans {H : Nat} {A B C : World} (h : KpT H A B) (k : KpT H B C) : KpT H A C := ⟨h.1.trans k.1, fun j vs t o hj ht => k.2 j vs t o (h.2 j vs t o hj ht) ht⟩
theorem KpT.refl (H : Nat) (W : World) : KpT H W W := ⟨Below.refl _ _, fun _ _ _ _ h _ => h⟩
theorem kpT_below {H : Nat} {W W' : World} (h : Below W.heap.size W W') (hH : H ≤ W.heap.size) : KpT H W W' := ⟨h.mono hH, fun k _ _ _ hk _ => (h.block k (Array.getElem?_eq_some_iff.1 hk).1).trans hk⟩
theorem kpT_obj {H B : Nat} (hHB : H ≤ B) (W : World) (l : Nat) (o o' : Obj) (hl : B ≤ l) (h : W.heap[l]? = some o) (hc : o.isCells = false) : KpT H W (W.putObj l o') := by
  have hg := grownBy_putObj' W l o'
  refine ⟨⟨hg.os, hg.tape, hg.output, hg.size, fun k hk => ?_⟩, fun k vs t ob hk _ => ?_⟩
  · have hlt := (Array.getElem?_eq_some_iff.1 h).1
    exact hg.block k (by omega) (fun e => by injection e with e; omega)
  · refine (hg.block k (Array.getElem?_eq_some_iff.1 hk).1 fun e => ?_).trans hk
    injection e with e
    subst e
    rw [hk] at h
    injection h with h
    rw [← h] at hc
    cases hc

/-- All that a round owes of the worlds. -/
def KB (H : Nat) (W W' : World) : Prop := KeepsFrom (H + 4) W W' ∧ KpT H W W'
theorem KB.trans {H : Nat} {A B C : World} (h : KB H A B) (k : KB H B C) : KB H A C := ⟨h.1.trans k.1, h.2.trans k.2⟩
theorem KB.refl (H : Nat) (W : World) : KB H W W := ⟨KeepsFrom.refl _ _, KpT.refl _ _⟩
theorem kb_below {H : Nat} {W W' : World} (h : Below W.heap.size W W') (hH : H ≤ W.heap.size) : KB H W W' := ⟨⟨h.size, fun k _ _ hk _ => (h.block k (Array.getElem?_eq_some_iff.1 hk).1).trans hk⟩, kpT_below h hH⟩
theorem kb_turn {H j : Nat} {W W' : World} (hg : W.grownBy W' (some j)) (hj : H ≤ j) (hH : H ≤ W.heap.size) (h : (∃ vs t o, W.heap[j]? = some (.cells vs t o) ∧ soft t) ∨ (j < H + 4 ∧ ∀ vs t o, W.heap[j]? ≠ some (.cells vs t o))) : KB H W W' := by
  refine ⟨⟨hg.size, fun k o hB hk hc => ?_⟩, (Below.refl H W).grown hg hH (fun q e => by injection e with e; omega), fun k vs t o hk ht => ?_⟩
  · refine (hg.block k (Array.getElem?_eq_some_iff.1 hk).1 fun e => ?_).trans hk
    injection e with e
    subst e
    rcases h with ⟨vs, t, ob, h1, _⟩ | ⟨h1, _⟩
    · rw [h1] at hk
      injection hk with hk
      rw [← hk] at hc
      cases hc
    · omega
  · refine (hg.block k (Array.getElem?_eq_some_iff.1 hk).1 fun e => ?_).trans hk
    injection e with e
    subst e
    rcases h with ⟨vs', t', ob, h1, h2⟩ | ⟨_, h1⟩
    · rw [h1] at hk
      injection hk with hk
      injection hk with _ hk2 _
      rw [hk2] at h2
      exact ht h2
    · exact h1 vs t o hk
theorem kb_none {H : Nat} {W W' : World} (hg : W.grownBy W' none) (hH : H ≤ W.heap.size) : KB H W W' := kb_below ⟨hg.os, hg.tape, hg.output, hg.size, fun k hk => hg.block k hk (fun h => by cases h)⟩ hH

/-- A row's block. -/
theorem row_cells {W : World} {base n size : Nat} {e : TypeId} {u : Value} {vs : List Value} (h : W.ownsRow base e size u n vs) {j : Nat} (hj : u.ownBlock = some j) : ∃ cur, W.heap[j]? = some (.cells cur e (0, 0)) := by
  rcases h.2 with ⟨rfl, _⟩ | ⟨g, cap, cur, rfl, _, hg, _⟩
  · cases hj
  · injection hj with hj
    subst hj
    exact ⟨cur, hg⟩
theorem kb_row {H n size : Nat} {W W' : World} {u : Value} {vs : List Value} (hg : W.grownBy W' u.ownBlock) (h : W.ownsRow (H + 4) 26 size u n vs) (hH : H ≤ W.heap.size) : KB H W W' := by
  cases hu : u.ownBlock with
  | none =>
    rw [hu] at hg
    exact kb_none hg hH
  | some j =>
    rw [hu] at hg
    obtain ⟨cur, hc⟩ := row_cells h hu
    have := (h.lt j hu).1
    exact kb_turn hg (by omega) hH (.inl ⟨_, _, _, hc, by unfold soft; decide⟩)

/-- Whose blocks the elements of all lead to. -/
def pAll (H : Nat) (U : ByteArray → Value) (u : Value) (b : Nat) : Prop := (H + 4 ≤ b ∧ ∀ s, ne (U s) b) ∧ ne u b
/-- Those of a name, in a row of the call's own. -/
def Grp (H : Nat) (W : World) (u : Value) (l : List Pr) : Prop := ∃ gs, W.ownsRow (H + 4) 26 2 u l.length gs ∧ RG.Elems KPr (fun b => b < H) W l gs

/-- What there is between two rounds: the list, and the map. -/
structure Inv (H : Nat) (og oa : List Pr) (D : DataW Value) (U : ByteArray → Value) (u : Value) (W : World) : Prop where
  box : Boxed W H 23 u
  mbox : Boxed W (H + 2) 59 (.map (some (H + 1)))
  mp : W.ownsMap Try.prog 9 tok (H + 1) og.length D
  look : ∀ s : ByteArray, s.size ≤ maxLen → D.atKey (key s) (.held nilS) = .held (U s)
  row : ∃ vs, W.ownsRow (H + 4) 26 2 u oa.length vs ∧ RG.Elems KPr (pAll H U u) W oa vs
  grp : ∀ s, Grp H W (U s) (named og s)
  apart : ∀ s g, (U s).ownBlock = some g → u.ownBlock ≠ some g ∧ ∀ s', s' ≠ s → (U s').ownBlock ≠ some g

section
variable {H : Nat} {og oa : List Pr} {D : DataW Value} {U : ByteArray → Value} {u : Value} {W W' : World}

theorem grp_turned {l : List Pr} {v : Value} {r : Option Nat} (h : Grp H W v l) (hg : W.grownBy W' r) (hr : ∀ j, r = some j → H ≤ j ∧ v.ownBlock ≠ some j) : Grp H W' v l := by
  obtain ⟨gs, h1, h2⟩ := h
  refine ⟨gs, h1.kept hg ?_, h2.map fun _ _ e => rel_turned e hg (fun b hb _ e => ?_) (fun b hb _ => hb)⟩
  · cases hr' : r with
    | none => cases v.ownBlock <;> simp
    | some j => exact .inr (hr j hr').2
  · have := (hr b e.symm).1
    omega

set_option maxRecDepth 100000 in
/-- Over whatever turns another block. -/
theorem Inv.turned {r : Option Nat} (h : Inv H og oa D U u W) (hg : W.grownBy W' r) (hr : ∀ j, r = some j → H + 4 ≤ j ∧ ∃ o : Obj, W.heap[j]? = some o ∧ o.isCells = false) : Inv H og oa D U u W' := by
  have hne : ∀ {n : Nat} {v : Value} {l : List Value}, W.ownsRow (H + 4) 26 2 v n l → ∀ j, r = some j → v.ownBlock ≠ some j := fun ho j hj e => by
    obtain ⟨o, h1, h2⟩ := (hr j hj).2
    obtain ⟨cur, h3⟩ := row_cells ho e
    rw [h1] at h3
    injection h3 with h3
    rw [h3] at h2
    cases h2
  refine ⟨h.box.kept hg (fun e => ?_), h.mbox.kept hg (fun e => ?_), h.mp.kept hg (fun e => ?_), h.look, ?_, fun s => ?_, h.apart⟩
  · have := (hr _ e.symm).1
    omega
  · have := (hr _ e.symm).1
    omega
  · have := (hr _ e.symm).1
    omega
  · obtain ⟨vs, h1, h2⟩ := h.row
    refine ⟨vs, h1.kept hg ?_, h2.map fun _ _ e => rel_turned e hg (fun b _ _ e => (hr b e.symm).2) (fun b hb _ => hb)⟩
    cases hr' : r with
    | none => cases u.ownBlock <;> simp
    | some j => exact .inr (hne h1 j hr')
  · obtain ⟨gs, h1, h2⟩ := h.grp s
    exact grp_turned ⟨gs, h1, h2⟩ hg fun j hj => ⟨by have := (hr j hj).1; omega, hne h1 j hj⟩

theorem Inv.below (h : Inv H og oa D U u W) (hb : Below W.heap.size W W') : Inv H og oa D U u W' :=
  h.turned (r := none) ⟨hb.os, hb.tape, hb.output, hb.size, fun k hk _ => hb.block k hk⟩ fun j e => by cases e

/-- What the map answers. -/
theorem Inv.lookup (h : Inv H og oa D U u W) {s : ByteArray} (hs : s.size ≤ maxLen) : (Instr.lookup 59 (.map (some (H + 1))) (.string s) false).run Try.prog W = .ok (U s) W := by
  obtain ⟨v, ps, h1, h2⟩ := h.mp.lookup (t := 59) (e := 23) (string_keyed Try.underlying9) Try.underlying59 (z := nilS) (by kernel_rfl) (zd := .held nilS) (zp := []) rfl (key_of hs)
  rw [h.look s hs] at h2
  have h3 : v = U s := DataW.held.inj (Prod.mk.inj (Option.some.inj h2)).1
  rw [h1, h3]

theorem Inv.grpSl (h : Inv H og oa D U u W) (s : ByteArray) : ∃ A c, U s = .slice A (named og s).length c ∧ SlPr W A (named og s) c := by
  obtain ⟨gs, h1, h2⟩ := h.grp s
  obtain ⟨A, c, e, _, h3, _⟩ := RG.own_slG (K := KPr) h1 h2 (by decide)
  exact ⟨A, c, e, RG.SlG.mono h3 fun _ _ _ => trivial⟩
theorem Inv.allSl (h : Inv H og oa D U u W) : ∃ A c, u = .slice A oa.length c ∧ SlPr W A oa c := by
  obtain ⟨gs, h1, h2⟩ := h.row
  obtain ⟨A, c, e, _, h3, _⟩ := RG.own_slG (K := KPr) h1 h2 (by decide)
  exact ⟨A, c, e, RG.SlG.mono h3 fun _ _ _ => trivial⟩

/-- The start. -/
theorem inv_new {W : World} (hb : Boxed W H 23 nilS) (hm : Boxed W (H + 2) 59 (.map (some (H + 1)))) (hmp : W.ownsMap Try.prog 9 tok (H + 1) 0 (.map [])) : Inv H [] [] (.map []) (fun _ => nilS) nilS W :=
  ⟨hb, hm, hmp, fun _ _ => rfl, ⟨[], World.ownsRow_nil _ _ _ _, rfl⟩, fun _ => ⟨[], World.ownsRow_nil _ _ _ _, rfl⟩, fun _ _ e => by cases e⟩
end
end Go.Proofs.Ytochpomddfjkoaa.Ix

namespace Go.Proofs.Ytochpomddfjkoaa.Ix
open Go.RowKit Go.Shelf Go.Proofs.Ytochpomddfjkoaa.BM Go.Proofs.Ytochpomddfjkoaa.LM Go.Proofs.Ytochpomddfjkoaa.VaM Go.Proofs.Ytochpomddfjkoaa.ExM Go.Proofs.Ytochpomddfjkoaa.QyM Go.Proofs.Ytochpomddfjkoaa.IxM
open Go.Proofs.Ytochpomddfjkoaa.Ex (SlO slO_none)
open Go.Proofs.Ytochpomddfjkoaa.Qy (SlQ slQ_len SlSt slSt_len CellQ CellSt slO_lt bx7)

attribute [local go_sem] Oper.semAt_some

/-- What is asked, with where its expression lies in a world. -/
structure Ask (w : World) where
  p : Pr
  A : Option Addr
  c : Nat
  ok : SlO w A p.f c ∧ p.s.size ≤ maxLen ∧ p.f.length ≤ 100000000
/-- As yield gets it. -/
def encA {w : World} (x : Ask w) : Array Value := #[agPr x.p x.A x.c]

/-- A block of a type, whole. -/
def Whole (W : World) (b : Nat) (vs : Array Value) (t : TypeId) : Prop := W.heap[b]? = some (.cells vs t (0, 0))
theorem whole_new (W : World) (vs : Array Value) (t : TypeId) : Whole (W.alloc (.cells vs t)) W.heap.size vs t := World.alloc_heap_new W _
theorem Whole.at {W : World} {b : Nat} {vs : Array Value} {t : TypeId} (h : Whole W b vs t) (i : Nat) (v : Value) (hv : vs[i]? = some v) : W.cell? ⟨b, i, none⟩ = some v := by
  unfold Whole at h
  simp [World.cell?, h, hv]
theorem Whole.kp {H : Nat} {W W' : World} {b : Nat} {vs : Array Value} {t : TypeId} (h : Whole W b vs t) (k : KpT H W W') (ht : ¬ soft t) : Whole W' b vs t := k.2 b vs t _ h ht
theorem Whole.below {W W' : World} {b : Nat} {vs : Array Value} {t : TypeId} (h : Whole W b vs t) (k : Below W.heap.size W W') : Whole W' b vs t := (k.block b (Array.getElem?_eq_some_iff.1 h).1).trans h

theorem flat_split {l : List Q} {j : Nat} (hj : j < l.length) : ∃ r, l.flatMap askQ = (l.take j).flatMap askQ ++ askQ (l.getD j q0) ++ r := by
  obtain ⟨r, hr⟩ := List.take_prefix (j + 1) l
  refine ⟨r.flatMap askQ, ?_⟩
  have h3 : (l.take (j + 1)).flatMap askQ = (l.take j).flatMap askQ ++ askQ (l.getD j q0) := by
    rw [List.take_succ_eq_append_getElem hj, List.flatMap_append, List.getD_eq_getElem?_getD, List.getElem?_eq_getElem hj]
    simp
  rw [← h3, ← List.flatMap_append, hr]
theorem step_split {m : List St} {k : Nat} (hk : k < m.length) : (m.take (k + 1)).flatMap askSt = (m.take k).flatMap askSt ++ askSt (m.getD k t0) := by
  rw [List.take_succ_eq_append_getElem hk, List.flatMap_append, List.getD_eq_getElem?_getD, List.getElem?_eq_getElem hk]
  simp
theorem asked_room {l : List Q} {j k : Nat} (hj : j < l.length) (hk : k < (l.getD j q0).p.length) :
    ((l.take j).flatMap askQ ++ ((l.getD j q0).p.take k).flatMap askSt).length + (askSt ((l.getD j q0).p.getD k t0)).length ≤ (l.flatMap askQ).length := by
  obtain ⟨r, hr⟩ := flat_split hj
  obtain ⟨s, hs⟩ := List.take_prefix (k + 1) (l.getD j q0).p
  have h4 : askQ (l.getD j q0) = ((l.getD j q0).p.take (k + 1)).flatMap askSt ++ s.flatMap askSt := by
    unfold askQ
    rw [← List.flatMap_append, hs]
  rw [hr, h4, step_split hk]
  simp only [List.length_append]
  omega
theorem asked_next {l : List Q} {j : Nat} (hj : j < l.length) : (l.take (j + 1)).flatMap askQ = (l.take j).flatMap askQ ++ (l.getD j q0).p.flatMap askSt := by
  rw [List.take_succ_eq_append_getElem hj, List.flatMap_append, List.getD_eq_getElem?_getD, List.getElem?_eq_getElem hj]
  simp [askQ]
theorem getD_mem {α : Type} {l : List α} {j : Nat} {d : α} (hj : j < l.length) : l.getD j d ∈ l := by
  rw [List.getD_eq_getElem?_getD, List.getElem?_eq_getElem hj]
  exact List.getElem_mem hj
theorem asked_mem {l : List Q} {j k : Nat} (hj : j < l.length) (hk : k < (l.getD j q0).p.length) {p : Pr} (hp : p ∈ askSt ((l.getD j q0).p.getD k t0)) : p ∈ l.flatMap askQ := by
  exact List.mem_flatMap.2 ⟨_, getD_mem hj, List.mem_flatMap.2 ⟨_, getD_mem hk, hp⟩⟩
theorem askSt_1 {x : St} (hg : x.g = false) : askSt x = [⟨x.s, x.f⟩] := by
  unfold askSt
  rw [hg, if_neg (by decide)]
theorem askSt_2 {x : St} (hg : x.g = true) : askSt x = [⟨x.s, x.f⟩, ⟨x.t, x.h⟩] := by
  unfold askSt
  rw [hg, if_pos rfl]

set_option maxRecDepth 100000 in
set_option maxHeartbeats 8000000 in
/-- The iterator's own body: for every loop body that keeps queries and steps. -/
theorem asked1_in (E : Fence) (n : Nat) (hE : E.fn 36) (hro : E.round = none) (hn : 1 ≤ n) (lo b1 : Nat) (A : Option Addr) (l : List Q) (c : Nat) (w : World)
    (hS : SlQ w A l c) (hf : ∀ p ∈ l.flatMap askQ, p.f.length ≤ 100000000) (J Jx : List (Ask w) → World → Prop) (BW : Nat) (hJa : AbidesFrom BW J) (N : Nat) (hN : N = (l.flatMap askQ).length)
    (hY : ∀ pre x W, J pre W → pre.length < N → YieldAt E (n - 1) Try.prog lo (encA x) W fun e W' =>
      (e = .returned (.bool true) ∧ J (pre ++ [x]) W' ∧ KpT w.heap.size W W') ∨ (e = .returned (.bool false) ∧ Jx (pre ++ [x]) W'))
    (W : World) (x1 : W.cell? ⟨b1, 0, none⟩ = some (.slice A l.length c)) (hW : Below w.heap.size w W) (h0 : J [] W) :
    CallsIn E n Try.prog 36 #[.func (.yield lo) #[] #[], .pointer (some ⟨b1, 0, none⟩)] W fun e W' => (∃ v, e = .returned v) ∧
      ((∃ ys : List (Ask w), ys.map (·.p) = l.flatMap askQ ∧ J ys W') ∨ (∃ pre, Jx pre W')) := by
  have hl := slQ_len hS
  have hroom := fun j k => @asked_room l j k
  have hmem := fun j k hj hk p hp => hf p (@asked_mem l j k hj hk p hp)
  have hnext := fun j => @asked_next l j
  have hall : (l.take l.length).flatMap askQ = l.flatMap askQ := by rw [List.take_length]
  obtain ⟨al, hal⟩ : ∃ a, a = l.flatMap askQ := ⟨_, rfl⟩
  rw [← hal] at hall hN ⊢
  simp only [← hal, ← hN] at hroom
  obtain ⟨r, hr⟩ : ∃ r, r = l.length := ⟨_, rfl⟩
  rw [← hr] at hl hall x1
  simp only [← hr] at hroom hnext hmem
  have HY := Lib.hid hY
  have HS := Lib.hid hS
  have HR := Lib.hid hr
  have HRoom := Lib.hid hroom
  have HMem := Lib.hid hmem
  have HNext := Lib.hid hnext
  have HAll := Lib.hid hall
  have HW := Lib.hid hW
  clear hY hS hf hr hroom hmem hnext hall hW hal hN
  have halloc : ∀ pre W o, J pre W → J pre (W.alloc o) := fun pre W o h => hJa pre W _ none h (World.grownBy_alloc W o none) (fun r e => by cases e)
  have HAl := Lib.hid halloc
  clear halloc hJa
  refine callsIn_of_wp Try.func36 rfl hE ?_ hro
  simp only [Try.ntmps36, List.size_toArray, List.length_cons, List.length_nil, Nat.reduceAdd, Nat.reduceSub, Array.replicate_succ, Array.replicate_zero, List.push_toArray, List.append_toArray, List.nil_append, List.cons_append]
  gi_wp2
  clear x1
  gi_loopw [9] (fun i wr => ∃ (j : Nat) (pre : List (Ask w)), j ≤ r ∧ i = .int .i64 (j : Int) ∧ pre.map (·.p) = (l.take j).flatMap askQ ∧ J pre wr ∧ Below w.heap.size w wr) (fun i _ => r - (intOf i).toNat)
  case atStart => exact ⟨0, [], Nat.zero_le _, rfl, rfl, h0, HW.out⟩
  case round =>
    clear h0
    obtain ⟨j, pre, hj, rfl, hpre, hJ, hbel⟩ := hrel
    have HPre := Lib.hid hpre
    have HJ := Lib.hid hJ
    have HBl := Lib.hid hbel
    clear hpre hJ hbel
    by_cases hjn : j < r
    · obtain ⟨b1', q1, A1, c1, hix, hc, _⟩ := HS.out.at j (by rw [← HR.out]; exact hjn)
      have hi := fun W => hix W r c hjn
      have hroomj := fun k => HRoom.out j k hjn
      have hmemj := fun k => HMem.out j k hjn
      have hnextj := HNext.out j hjn
      obtain ⟨x, hx⟩ : ∃ x, x = l.getD j q0 := ⟨_, rfl⟩
      simp only [← hx] at hroomj hmemj
      rw [← hx] at hc hnextj
      obtain ⟨qp, qw, qa, qi, qf⟩ := x
      simp only at hroomj hnextj hmemj
      obtain ⟨m, hm⟩ : ∃ m, m = qp.length := ⟨_, rfl⟩
      obtain ⟨hcell, _⟩ := hc wr HBl.out
      have hsteps := (hc w (Below.refl _ _)).2
      unfold CellQ at hcell
      simp only [← hm] at hcell hsteps hroomj hmemj
      obtain ⟨y0, y1, y2, y3, y4⟩ := hcell
      have hml := slSt_len hsteps
      rw [← hm] at hml
      obtain ⟨o, ho⟩ : ∃ o, o = (l.take j).flatMap askQ := ⟨_, rfl⟩
      rw [← ho] at HPre hnextj
      simp only [← ho] at hroomj
      have hfull : qp.take m = qp := by rw [hm, List.take_length]
      have HSt := Lib.hid hsteps
      have HRm := Lib.hid hroomj
      have HMm := Lib.hid hmemj
      have HNx := Lib.hid hnextj
      have HM := Lib.hid hm
      have HFull := Lib.hid hfull
      have hb1 := (Below.refl wr.heap.size wr).alloc (Nat.le_refl _) (.cells #[.slice A1 m c1, .int .i64 qw, .int .i64 qa, .int .i64 qi, .int .i64 qf] 45)
      have hz0 := (whole_new wr #[.slice A1 m c1, .int .i64 qw, .int .i64 qa, .int .i64 qi, .int .i64 qf] 45).at 0 _ rfl
      have HB1 := Lib.hid (bt HBl.out hb1)
      have HJ1 := Lib.hid (HAl.out pre wr (.cells #[.slice A1 m c1, .int .i64 qw, .int .i64 qa, .int .i64 qi, .int .i64 qf] 45) HJ.out)
      clear hix hc hx hroomj hmemj hnextj hsteps ho hm hfull hb1 HJ HBl
      gi_wp2
      clear y0 y1 y2 y3 y4 hz0 hi
      gi_loopw [16] (fun i wr2 => ∃ (k : Nat) (pre2 : List (Ask w)), k ≤ m ∧ i = .int .i64 (k : Int) ∧ pre2.map (·.p) = o ++ (qp.take k).flatMap askSt ∧ J pre2 wr2 ∧ Below w.heap.size w wr2) (fun i _ => m - (intOf i).toNat)
      case atStart => exact ⟨0, pre, Nat.zero_le _, rfl, by rw [HPre.out, List.take_zero, List.flatMap_nil, List.append_nil], HJ1.out, HB1.out⟩
      case round =>
        clear HJ1 HB1 HPre pre
        obtain ⟨k, pre, hk, rfl, hpre, hJ, hbel⟩ := hrel
        have HPre := Lib.hid hpre
        have HJ := Lib.hid hJ
        have HBl := Lib.hid hbel
        clear hpre hJ hbel
        by_cases hkm : k < m
        · obtain ⟨b2, q2, A2, c2, C2, d2, hix2, hc2, hfin⟩ := HSt.out.at k (by rw [← HM.out]; exact hkm)
          have hi2 := fun W => hix2 W m c1 hkm
          have hrm := HRm.out k hkm
          have hmm := HMm.out k hkm
          have hnx := @step_split qp k (by rw [← HM.out]; exact hkm)
          obtain ⟨x, hx⟩ : ∃ x, x = qp.getD k t0 := ⟨_, rfl⟩
          rw [← hx] at hc2 hfin hnx hrm hmm
          obtain ⟨ts, tf, mn, mx, tg, tt, th⟩ := x
          obtain ⟨n1, hn1⟩ : ∃ n, n = tf.length := ⟨_, rfl⟩
          obtain ⟨n2, hn2⟩ : ∃ n, n = th.length := ⟨_, rfl⟩
          have hcs := (hc2 wr HBl.out).1
          have hso := (hc2 w (Below.refl _ _)).2.1
          have hsh := (hc2 w (Below.refl _ _)).2.2
          unfold CellSt at hcs
          simp only [← hn1, ← hn2] at hcs
          simp only at hso hsh
          obtain ⟨y0, y1, y2, y3, y4, y5, y6⟩ := hcs
          obtain ⟨⟨hz1, hz2⟩, _⟩ := hfin
          simp only at hz1 hz2
          obtain ⟨ask1, hask1⟩ : ∃ a : Ask w, a = ⟨⟨ts, tf⟩, A2, c2, hso, hz1, hmm _ (by unfold askSt; exact List.mem_cons_self ..)⟩ := ⟨_, rfl⟩
          have hask2 : tg = true → ∃ a : Ask w, a.p = ⟨tt, th⟩ ∧ encA a = #[.agg #[.string tt, .slice C2 n2 d2]] := fun hg => ⟨⟨⟨tt, th⟩, C2, d2, hsh, hz2, hmm ⟨tt, th⟩ (by rw [askSt_2 hg]; simp)⟩, rfl, by rw [hn2]; rfl⟩
          have hlen1 : pre.length < N := by
            have h1 : (askSt ⟨ts, tf, mn, mx, tg, tt, th⟩).length ≥ 1 := by unfold askSt; simp
            have h2 := congrArg List.length HPre.out
            rw [List.length_map] at h2
            omega
          have hlen2 : tg = true → (pre ++ [ask1]).length < N := fun hg => by
            have h1 : (askSt ⟨ts, tf, mn, mx, tg, tt, th⟩).length = 2 := by rw [askSt_2 hg]; rfl
            have h2 := congrArg List.length HPre.out
            rw [List.length_map] at h2
            rw [List.length_append, List.length_singleton]
            omega
          have hp1 : tg = false → (pre ++ [ask1]).map (·.p) = o ++ (qp.take (k + 1)).flatMap askSt := fun hg => by
            rw [List.map_append, HPre.out, hnx, askSt_1 hg, hask1, List.append_assoc]
            rfl
          have hp2 : ∀ a : Ask w, a.p = ⟨tt, th⟩ → tg = true → (pre ++ [ask1] ++ [a]).map (·.p) = o ++ (qp.take (k + 1)).flatMap askSt := fun a ha hg => by
            rw [List.map_append, List.map_append, HPre.out, hnx, askSt_2 hg, hask1, List.map_singleton, List.map_singleton, ha]
            simp
          have hb1 := (Below.refl wr.heap.size wr).alloc (Nat.le_refl _) (.cells #[.string ts, .slice A2 n1 c2, .int .i64 mn, .int .i64 mx, .bool tg, .string tt, .slice C2 n2 d2] 47)
          have hwh := whole_new wr #[.string ts, .slice A2 n1 c2, .int .i64 mn, .int .i64 mx, .bool tg, .string tt, .slice C2 n2 d2] 47
          have hJ2 := HAl.out pre wr (.cells #[.string ts, .slice A2 n1 c2, .int .i64 mn, .int .i64 mx, .bool tg, .string tt, .slice C2 n2 d2] 47) HJ.out
          obtain ⟨fn, tmps, assign, body, hy, hR⟩ := HY.out pre ask1 _ hJ2 hlen1
          have z0 := hwh.at 0 _ rfl
          have z1 := hwh.at 1 _ rfl
          have hyy := hy
          rw [hask1] at hyy
          unfold encA agPr at hyy
          simp only [← hn1] at hyy
          have HWh := Lib.hid hwh
          have HB2 := Lib.hid (bt HBl.out hb1)
          have HRd := Lib.hid hR
          have HL2 := Lib.hid hlen2
          have HP1 := Lib.hid hp1
          have HP2 := Lib.hid hp2
          have HA2 := Lib.hid hask2
          clear hix2 hc2 hx hrm hmm hnx hn1 hn2 hso hsh hz1 hz2 hask1 hask2 hlen1 hlen2 hp1 hp2 hb1 hwh hJ2 hy hR HJ HBl
          gi_wp2
          clear y0 y1 y2 y3 y4 y5 y6 z0 z1 hyy hi2
          refine HRd.out.mono ?_
          rintro e W3 (⟨rfl, hJ3, hk3⟩ | ⟨rfl, hJx3⟩)
          · have hw3 := HWh.out.kp hk3 (fun h => h.2 rfl)
            have v4 := hw3.at 4 _ rfl
            have v5 := hw3.at 5 _ rfl
            have v6 := hw3.at 6 _ rfl
            have HB3 := Lib.hid (HB2.out.trans hk3.1)
            have HJ3 := Lib.hid hJ3
            clear hw3 hk3 hJ3 HRd HWh
            cases tg with
            | false =>
              have hp := HP1.out rfl
              have HP := Lib.hid hp
              clear hp
              gi_wp2
              refine ⟨fun _ h => (by cases h), ?_⟩
              gi_wp2
              go_roundw
              case rel => exact ⟨k + 1, _, by omega, by go_num, HP.out, HJ3.out, HB3.out⟩
              case measure => simp [intOf]; omega
            | true =>
              obtain ⟨ask2, ha2, henc2⟩ := HA2.out rfl
              obtain ⟨fn2, tmps2, assign2, body2, hy, hR⟩ := HY.out _ ask2 _ HJ3.out (HL2.out rfl)
              rw [henc2] at hy
              clear henc2
              have HRd := Lib.hid hR
              have hp := HP2.out ask2 ha2 rfl
              have HP := Lib.hid hp
              clear hp hR ha2
              gi_wp2
              clear v4 v5 v6 hy
              refine HRd.out.mono ?_
              rintro e W4 (⟨rfl, hJ4, hk4⟩ | ⟨rfl, hJx4⟩)
              · have HB4 := Lib.hid (HB3.out.trans hk4.1)
                have HJ4 := Lib.hid hJ4
                clear hk4 hJ4
                gi_wp2
                go_roundw
                case rel => exact ⟨k + 1, _, by omega, by go_num, HP.out, HJ4.out, HB4.out⟩
                case measure => simp [intOf]; omega
              · have HJx := Lib.hid hJx4
                clear hJx4
                gi_wp2
                refine bodyPost_ret (results_none rfl _ _ _) rfl ?_
                exact ⟨⟨_, rfl⟩, .inr ⟨_, HJx.out⟩⟩
          · have HJx := Lib.hid hJx3
            clear hJx3
            gi_wp2
            refine bodyPost_ret (results_none rfl _ _ _) rfl ?_
            exact ⟨⟨_, rfl⟩, .inr ⟨_, HJx.out⟩⟩
        · obtain rfl : k = m := by omega
          gi_wp2
          go_roundw
          case rel => exact ⟨j + 1, pre, by omega, by go_num, by rw [HPre.out, HNx.out, HFull.out], HJ.out, HBl.out⟩
          case measure => simp [intOf]; omega
    · obtain rfl : j = r := by omega
      gi_wp2
      go_end0
      exact ⟨⟨_, rfl⟩, .inl ⟨pre, HPre.out.trans HAll.out, HJ.out⟩⟩

set_option maxHeartbeats 1000000 in
/-- asked itself: the queries are boxed; the function value holds the box. -/
theorem asked_in (E : Fence) (n : Nat) (hE : E.fn 28) (hro : E.round = none) (A : Option Addr) (r c : Nat) (w : World) :
    CallsIn E n Try.prog 28 #[.slice A r c] w fun e w' => e = .returned (.func (.func 36) #[] #[.pointer (some ⟨w.heap.size, 0, none⟩)]) ∧
      w' = w.alloc (.cells #[.slice A r c] 22) := by
  refine callsIn_of_wp Try.func28 rfl hE ?_ hro
  simp only [Try.ntmps28, List.size_toArray, List.length_cons, List.length_nil, Nat.reduceAdd, Nat.reduceSub, Array.replicate_succ, Array.replicate_zero, List.push_toArray, List.append_toArray, List.nil_append, List.cons_append]
  gi_wp2
  go_ret
  exact ⟨by simp, rfl⟩

/-- What asked hands back goes through all that is asked. -/
theorem asked_stops (E : Fence) (n : Nat) (hE : E.fn 36) (hro : E.round = none) (hn : 1 ≤ n) (b1 : Nat) (A : Option Addr) (l : List Q) (c : Nat) (w W0 : World)
    (hS : SlQ w A l c) (hf : ∀ p ∈ l.flatMap askQ, p.f.length ≤ 100000000) (x1 : W0.cell? ⟨b1, 0, none⟩ = some (.slice A l.length c)) (hb : Below w.heap.size w W0) :
    SeqStopsK E n Try.prog 36 #[.pointer (some ⟨b1, 0, none⟩)] (encA (w := w)) (KpT w.heap.size) (fun ys => ys.map (·.p) = l.flatMap askQ) (fun _ => True) (l.flatMap askQ).length W0 := fun lo J Jx W hW hJa _ hY h0 =>
  (asked1_in E n hE hro hn lo b1 A l c w hS hf J Jx _ hJa _ rfl hY W ((hW.cell (p := ⟨b1, 0, none⟩) (World.block_lt_of_cell? W0 _ x1)).trans x1) (hb.trans (hW.mono hb.size)) h0).mono fun _ _ h => ⟨h.1, h.2.imp id fun ⟨pre, h⟩ => ⟨pre, trivial, h⟩⟩
end Go.Proofs.Ytochpomddfjkoaa.Ix

namespace Go.Proofs.Ytochpomddfjkoaa.RG
open Go.RowKit Go.Proofs.Ytochpomddfjkoaa.BM Go.Proofs.Ytochpomddfjkoaa.LM

set_option maxRecDepth 100000 in
/-- append onto a row of the call's own, and where it then lies. -/
theorem Ty.append_at {α : Type} {K : Kind α} {t e : TypeId} {bytes : Nat} {z : Value} (h : Ty t e K.size bytes z) (p0 : Nat → Prop) {w : World} (ty : TypeId) (base : Nat) (v : Value) (n : Nat) (vs : List Value) (l : List α)
    (hown : w.ownsRow base e K.size v n vs) (hE : Elems K (fun b => p0 b ∧ ne v b) w l vs) (ad : Addr) (m c : Nat) (us : List Value) (r : List α) (hm : r.length = m) (hR : IsRow w (some ad) us) (hF : Elems K (fun b => p0 b ∧ ne v b) w r us)
    (hsz : n + m ≤ 1000000000) (hbase : base ≤ w.heap.size) :
    ∃ v' w', (Builtin.append_ #[t, t] ty #[v, .slice (some ad) m c]).run Try.prog w = .ok v' w' ∧ w'.ownsRow base e K.size v' (n + m) (vs ++ us) ∧ Elems K (fun b => p0 b ∧ ne v' b) w' (l ++ r) (vs ++ us) ∧ w.grownBy w' v.ownBlock ∧
      (v'.ownBlock = v.ownBlock ∨ v'.ownBlock = some w.heap.size) := by
  obtain ⟨i0, hi, hz0, hz1, hz2⟩ := info_parts h.info
  have hul : us.length = m * K.size := by rw [hF.len, hm]
  have hby : (n + m) * bytes ≤ 140737488355328 := Nat.le_trans (Nat.mul_le_mul hsz h.small) (by decide)
  have hall := Elems.app hF hE
  have after : ∀ v' w', w.grownBy w' v.ownBlock → (v'.ownBlock = v.ownBlock ∨ v'.ownBlock = some w.heap.size) → Elems K (fun b => p0 b ∧ ne v' b) w' (l ++ r) (vs ++ us) := fun v' w' hg hb =>
    (hall.map fun _ _ e => K.mono e fun b hlt hn => (⟨hn, hlt⟩ : (p0 b ∧ ne v b) ∧ b < w.heap.size)).map fun _ _ e => K.mono (K.grown e hg fun b hb => hb.1.2) fun b _ hb' => ⟨hb'.1.1, ne_fresh hb b hb'.2 hb'.1.2⟩
  obtain ⟨v', w', hr, h2, h3, _, h5⟩ := run_append_own_at (P := Try.prog) w base t ty e i0 z K.size bytes h.und hi hz0 hz1 hz2 h.zs h.pos v n vs hown ad m c us hul
    (fun j u hj => by
      obtain ⟨b, q, he, hc⟩ := hR (by have := (List.getElem?_eq_some_iff.1 hj).1; omega)
      injection he with he
      subst he
      rw [Addr.add_lit]
      exact hc j u hj)
    hF.one (by unfold maxLen; omega) hby hbase
  exact ⟨v', w', hr, h2, after v' w' h3 h5, h3, h5⟩
end Go.Proofs.Ytochpomddfjkoaa.RG
namespace Go.Proofs.Ytochpomddfjkoaa.Ix
open Go.RowKit Go.Maps Go.Proofs.Ytochpomddfjkoaa.BM Go.Proofs.Ytochpomddfjkoaa.LM Go.Proofs.Ytochpomddfjkoaa.VaM Go.Proofs.Ytochpomddfjkoaa.ExM Go.Proofs.Ytochpomddfjkoaa.QyM Go.Proofs.Ytochpomddfjkoaa.IxM
open Go.Proofs.Ytochpomddfjkoaa.Ex (SlO slO_none)
open Go.Proofs.Ytochpomddfjkoaa.Qy (slO_grown' slO_lt)

/-- What the map answers, by what it holds. -/
theorem look_run {H n : Nat} {D : DataW Value} {U : ByteArray → Value} {W : World} (hm : W.ownsMap Try.prog 9 tok (H + 1) n D) (hl : ∀ s : ByteArray, s.size ≤ maxLen → D.atKey (key s) (.held nilS) = .held (U s)) {s : ByteArray} (hs : s.size ≤ maxLen) :
    (Instr.lookup 59 (.map (some (H + 1))) (.string s) false).run Try.prog W = .ok (U s) W := by
  obtain ⟨v, ps, h1, h2⟩ := hm.lookup (t := 59) (e := 23) (string_keyed Try.underlying9) Try.underlying59 (z := nilS) (by kernel_rfl) (zd := .held nilS) (zp := []) rfl (key_of hs)
  rw [hl s hs] at h2
  have h3 : v = U s := DataW.held.inj (Prod.mk.inj (Option.some.inj h2)).1
  rw [h1, h3]

theorem op_value {o : Oper} {a : Act} {W W' : World} {K : Act → World → Prop} {Q : Exit → Act → World → Prop} {v : Value} (h : (execOp a.eval o).run Try.prog W = .ok (.value v) W') (hK : K (a.put o.dst v) W') : o.wp Try.prog a W K Q := by
  unfold Oper.wp
  rw [h]
  exact hK

theorem op_lookup {o : Oper} {a : Act} {x : World} (m k : Operand) {t : TypeId} {mv kv v : Value} (hop : o.op = Op.lookup t m k false) (hm : a.eval m = mv) (hk : a.eval k = kv) (hr : (Instr.lookup t mv kv false).run Try.prog x = .ok v x) : (execOp a.eval o).run Try.prog x = .ok (.value v) x := by
  simp [execOp, hop, hm, hk, hr, Result.andThen]
/-- append, inside a region. -/
theorem op_append_run {o : Oper} {a : Act} {w w' : World} {K : Act → World → Prop} {Q : Exit → Act → World → Prop} (s x : Operand) {t : TypeId} {v v' : Value} {u : Value}
    (ho : o.op = .call { callee := .builtin .append, args := #[s, x], argTypes := #[t, t] }) (hs : a.eval s = v) (hx : a.eval x = u)
    (hr : (Builtin.append_ #[t, t] o.type #[v, u]).run Try.prog w = .ok v' w') (hk : K (a.put o.dst v') w') : o.wp Try.prog a w K Q := by
  unfold Oper.wp execOp
  simp only [ho, resolve, invoke, builtin, Sem.run_bind, Sem.run_pure, Result.andThen_ok, List.map_toArray, List.map_cons, List.map_nil, hs, hx, hr]
  exact hk
theorem op_mapUpdate {o : Oper} {a : Act} {w w' : World} {K : Act → World → Prop} {Q : Exit → Act → World → Prop} (m x v : Operand) {t : TypeId} {mv kv vv : Value}
    (hop : o.op = Op.mapUpdate t m x v) (hm : a.eval m = mv) (hx : a.eval x = kv) (hv : a.eval v = vv) (hr : (Instr.mapUpdate t mv kv vv).run Try.prog w = .ok () w') (hk : K (a.put o.dst undef) w') : o.wp Try.prog a w K Q := by
  unfold Oper.wp
  simp [execOp, hop, hm, hx, hv, hr, Result.andThen]
  exact hk

theorem off_row {W : World} {base size n r : Nat} {e : TypeId} {v : Value} {l : List Value} (ho : W.ownsRow base e size v n l) (hr : r < base) : v.ownBlock = none ∨ v.ownBlock ≠ some r := by
  cases hj : v.ownBlock with
  | none => exact .inl rfl
  | some j =>
    refine .inr fun e => ?_
    injection e with e
    have := (ho.lt j hj).1
    omega

section
variable {H : Nat} {og oa : List Pr} {D : DataW Value} {U : ByteArray → Value} {u : Value} {W W' : World}

/-- One world, one list and one map. -/
theorem Inv.same {og' oa' : List Pr} {D' : DataW Value} {U' : ByteArray → Value} {u' : Value} (h : Inv H og oa D U u W) (k : Inv H og' oa' D' U' u' W) : u = u' ∧ ∀ s : ByteArray, s.size ≤ maxLen → U s = U' s := by
  have h1 := h.box
  have h2 := k.box
  unfold Boxed at h1 h2
  rw [h1] at h2
  have h3 := (Obj.cells.inj (Option.some.inj h2)).1
  refine ⟨by simpa using h3, fun s hs => ?_⟩
  obtain ⟨es, clock, g1, _, _, g2⟩ := h.mp
  obtain ⟨es', clock', k1, _, _, k2⟩ := k.mp
  rw [g1] at k1
  have h4 := (Obj.map.inj (Option.some.inj k1)).1
  have h5 : D = D' := by rw [g2, k2, h4]
  have h6 := h.look s hs
  rw [h5, k.look s hs] at h6
  exact (DataW.held.inj h6).symm
/-- A new block is none of its rows. -/
theorem Inv.fresh (h : Inv H og oa D U u W) : u.ownBlock ≠ some W.heap.size ∧ ∀ s, (U s).ownBlock ≠ some W.heap.size := by
  obtain ⟨vs, o1, _⟩ := h.row
  refine ⟨fun e => ?_, fun s e => ?_⟩
  · have := (o1.lt _ e).2
    omega
  · obtain ⟨gs, g1, _⟩ := h.grp s
    have := (g1.lt _ e).2
    omega

/-- One more of a name, put where that name's are. -/
theorem Inv.grpRun (h : Inv H og oa D U u W) (ty : TypeId) {p : Pr} {A : Option Addr} {c b : Nat} (hO : SlO W A p.f c) (hp : p.s.size ≤ maxLen) (hA : 0 < p.f.length → ∀ a, A = some a → a.block < H)
    (hb : IsRow W (some ⟨b, 0, none⟩) (encPr p A c)) (hsz : og.length ≤ 100000000) (hH : H + 4 ≤ W.heap.size) :
    ∃ v' W1, (Builtin.append_ #[23, 23] ty #[U p.s, .slice (some ⟨b, 0, none⟩) 1 1]).run Try.prog W = .ok v' W1 ∧ Grp H W1 v' (named og p.s ++ [p]) ∧ W.grownBy W1 (U p.s).ownBlock ∧
      (v'.ownBlock = (U p.s).ownBlock ∨ v'.ownBlock = some W.heap.size) := by
  obtain ⟨gs, g1, g2⟩ := h.grp p.s
  have hne : ∀ x, x < H → ne (U p.s) x := fun x hx e => by
    have := (g1.lt x e.symm).1
    omega
  have hln := named_len og p.s
  obtain ⟨v', W1, r1, r2, r3, r4, r5⟩ := tyPr.append_at (K := KPr) (fun x => x < H) (w := W) ty (H + 4) (U p.s) (named og p.s).length gs (named og p.s) g1 (g2.map fun _ _ e => KPr.mono e fun x _ hx => ⟨hx, hne x hx⟩) ⟨b, 0, none⟩ 1 1 (encPr p A c) [p] rfl hb
    ⟨encPr p A c, [], by rw [List.append_nil], ⟨A, c, rfl, hO, hp, fun h0 a ha => ⟨hA h0 a ha, hne _ (hA h0 a ha)⟩⟩, rfl⟩ (by omega) hH
  refine ⟨v', W1, r1, ⟨gs ++ encPr p A c, ?_, r3.map fun _ _ e => KPr.mono e fun _ _ hx => hx.1⟩, r4, r5⟩
  rw [List.length_append]
  exact r2

set_option maxRecDepth 100000 in
theorem Inv.grpApp (h : Inv H og oa D U u W) {p : Pr} {v' : Value} (hg : W.grownBy W' (U p.s).ownBlock) (hrow : Grp H W' v' (named og p.s ++ [p])) (hloc : v'.ownBlock = (U p.s).ownBlock ∨ v'.ownBlock = some W.heap.size)
    (hp : p.s.size ≤ maxLen) (hsz : og.length ≤ 100000000) (hH : H + 4 ≤ W.heap.size) :
    ∃ W2, (Instr.mapUpdate 59 (.map (some (H + 1))) (.string p.s) v').run Try.prog W' = .ok () W2 ∧ Inv H (og ++ [p]) oa (D.put (key p.s) (.held v')) (fun t => if t = p.s then v' else U t) u W2 ∧ KB H W' W2 ∧ W'.grownBy W2 (some (H + 1)) := by
  obtain ⟨gs0, g01, _⟩ := h.grp p.s
  obtain ⟨vs, o1, o2⟩ := h.row
  have hbl : ∀ j, (U p.s).ownBlock = some j → H + 4 ≤ j := fun j hj => (g01.lt j hj).1
  have hmp : W'.ownsMap Try.prog 9 tok (H + 1) og.length D := h.mp.kept hg fun e => by
    have := hbl _ e.symm
    omega
  obtain ⟨W2, hrun, hmp2, hg2⟩ := hmp.update (t := 59) (e := 23) (string_keyed Try.underlying9) Try.underlying59 (by unfold maxLen; omega) (key_of hp) (val := v') (d := .held v') (ps := []) rfl
  have hbox : Boxed W' H 23 u := h.box.kept hg fun e => by
    have := hbl _ e.symm
    omega
  have hmbox : Boxed W' (H + 2) 59 (.map (some (H + 1))) := h.mbox.kept hg fun e => by
    have := hbl _ e.symm
    omega
  have hu : u.ownBlock = none ∨ u.ownBlock ≠ (U p.s).ownBlock := by
    cases hj : (U p.s).ownBlock with
    | none => cases u.ownBlock <;> simp
    | some j => exact .inr (h.apart _ _ hj).1
  have hrow1 : W'.ownsRow (H + 4) 26 2 u oa.length vs := o1.kept hg hu
  have hlt : ∀ {n : Nat} {l : List Value} {v : Value}, W.ownsRow (H + 4) 26 2 v n l → ∀ j, v.ownBlock = some j → j ≠ W.heap.size := fun ho j hj => by
    have := (ho.lt j hj).2
    omega
  have hv' : ∀ b, b < W.heap.size → ne (U p.s) b → ne v' b := fun b hb hn => ne_fresh hloc b hb hn
  have hmap : ∃ m n, W'.heap[H + 1]? = some (.map m n) := by
    obtain ⟨es, clock, hb, _⟩ := hmp
    exact ⟨es, clock, hb⟩
  refine ⟨W2, hrun, ⟨hbox.kept hg2 (fun e => by injection e with e; omega), hmbox.kept hg2 (fun e => by injection e with e; omega), ?_, fun s hs => ?_, ⟨vs, hrow1.kept hg2 (off_row hrow1 (by omega)), ?_⟩, fun s => ?_, fun s g hs => ?_⟩, kb_turn hg2 (by omega) (by have := hg.size; omega) (.inr ⟨by omega, fun vs t o e => ?_⟩), hg2⟩
  · rw [List.length_append]
    exact hmp2
  · by_cases e : s = p.s
    · subst e
      rw [if_pos rfl]
      obtain ⟨es, _, _, _, _, hD⟩ := hmp
      exact atKey_put_same ⟨_, hD⟩ ((string_keyed Try.underlying9).key (key_of hp)) _ _
    · rw [if_neg e, atKey_put_other (key_ne e)]
      exact h.look s hs
  · have e1 := o2.map fun _ _ e => rel_turned (q := fun b => pAll H (fun t => if t = p.s then v' else U t) u b) e hg (fun b hb _ e => absurd e (hb.1.2 p.s)) (fun b hb hlt => ⟨⟨hb.1.1, fun s => by
      show ne (if s = p.s then v' else U s) b
      by_cases e : s = p.s
      · rw [if_pos e]
        exact hv' b hlt (hb.1.2 p.s)
      · rw [if_neg e]
        exact hb.1.2 s⟩, hb.2⟩)
    exact e1.map fun _ _ e => rel_turned e hg2 (fun b hb _ e => by
      injection e with e
      have := hb.1.1
      omega) (fun b hb _ => hb)
  · by_cases e : s = p.s
    · subst e
      rw [if_pos rfl, named_snoc_same]
      obtain ⟨ks, k1, k2⟩ := hrow
      exact grp_turned ⟨ks, k1, k2⟩ hg2 fun j hj => by
        injection hj with hj
        refine ⟨by omega, fun e => ?_⟩
        have := (k1.lt j e).1
        omega
    · rw [if_neg e, named_snoc_other e]
      obtain ⟨ks, k1, k2⟩ := h.grp s
      have h1 := grp_turned ⟨ks, k1, k2⟩ hg fun j hj => ⟨by have := hbl j hj; omega, (h.apart _ _ hj).2 s e⟩
      obtain ⟨ks, k1, k2⟩ := h1
      exact grp_turned ⟨ks, k1, k2⟩ hg2 fun j hj => by
        injection hj with hj
        refine ⟨by omega, fun e => ?_⟩
        have := (k1.lt j e).1
        omega
  · have hold : ∀ t, t ≠ p.s → (U t).ownBlock = some g → v'.ownBlock ≠ some g := fun t ht hj e => by
      obtain ⟨ks, k1, _⟩ := h.grp t
      rcases hloc with h1 | h1
      · rw [h1] at e
        exact (h.apart _ _ hj).2 p.s (fun h => ht h.symm) e
      · rw [h1] at e
        injection e with e
        exact hlt k1 g hj e.symm
    by_cases e : s = p.s
    · rw [if_pos e] at hs
      refine ⟨fun e1 => ?_, fun t ht => ?_⟩
      · rcases hloc with h1 | h1
        · rw [h1] at hs
          exact (h.apart _ _ hs).1 e1
        · rw [h1] at hs
          injection hs with hs
          exact hlt o1 g e1 hs.symm
      · have ht' : t ≠ p.s := fun h => ht (h.trans e.symm)
        rw [if_neg ht']
        exact fun e1 => hold t ht' e1 hs
    · rw [if_neg e] at hs
      refine ⟨(h.apart _ _ hs).1, fun t ht => ?_⟩
      by_cases e2 : t = p.s
      · rw [if_pos e2]
        exact hold s e hs
      · rw [if_neg e2]
        exact (h.apart _ _ hs).2 t ht
  · obtain ⟨m, n, hm⟩ := hmap
    rw [hm] at e
    injection e with e
    cases e

/-- One more, put at the end of them all. -/
theorem Inv.allRun (h : Inv H og oa D U u W) (ty : TypeId) {p : Pr} {A : Option Addr} {c b : Nat} (hO : SlO W A p.f c) (hp : p.s.size ≤ maxLen) (hA : 0 < p.f.length → ∀ a, A = some a → pAll H U u a.block)
    (hb : IsRow W (some ⟨b, 0, none⟩) (encPr p A c)) (hsz : oa.length ≤ 100000000) (hH : H + 4 ≤ W.heap.size) :
    ∃ v' W1, (Builtin.append_ #[23, 23] ty #[u, .slice (some ⟨b, 0, none⟩) 1 1]).run Try.prog W = .ok v' W1 ∧ Boxed W1 H 23 u ∧
      Inv H og (oa ++ [p]) D U v' (W1.setCell ⟨H, 0, none⟩ v') ∧ W.grownBy W1 u.ownBlock ∧ KB H W (W1.setCell ⟨H, 0, none⟩ v') := by
  obtain ⟨vs, o1, o2⟩ := h.row
  obtain ⟨v', W1, r1, r2, r3, r4, r5⟩ := tyPr.append_at (K := KPr) (fun x => H + 4 ≤ x ∧ ∀ s, ne (U s) x) (w := W) ty (H + 4) u oa.length vs oa o1 o2 ⟨b, 0, none⟩ 1 1 (encPr p A c) [p] rfl hb
    ⟨encPr p A c, [], by rw [List.append_nil], ⟨A, c, rfl, hO, hp, fun h0 a ha => hA h0 a ha⟩, rfl⟩ (by omega) hH
  have hbl : ∀ j, u.ownBlock = some j → H + 4 ≤ j := fun j hj => (o1.lt j hj).1
  have hbox : Boxed W1 H 23 u := h.box.kept r4 fun e => by
    have := hbl _ e.symm
    omega
  have hmbox : Boxed W1 (H + 2) 59 (.map (some (H + 1))) := h.mbox.kept r4 fun e => by
    have := hbl _ e.symm
    omega
  have hmp : W1.ownsMap Try.prog 9 tok (H + 1) og.length D := h.mp.kept r4 fun e => by
    have := hbl _ e.symm
    omega
  have hg2 := grownBy_setCell' W1 H v'
  have hv : ∀ s g, (U s).ownBlock = some g → v'.ownBlock ≠ some g := fun s g hs e => by
    rcases r5 with h1 | h1
    · rw [h1] at e
      exact (h.apart _ _ hs).1 e
    · rw [h1] at e
      injection e with e
      obtain ⟨ks, k1, _⟩ := h.grp s
      have := (k1.lt g hs).2
      omega
  refine ⟨v', W1, r1, hbox, ⟨hbox.set v', hmbox.kept hg2 (fun e => by injection e with e; omega), hmp.kept hg2 (fun e => by injection e with e; omega), h.look, ⟨vs ++ encPr p A c, ?_, ?_⟩, fun s => ?_, fun s g hs => ⟨hv s g hs, (h.apart _ _ hs).2⟩⟩, r4, (kb_row r4 o1 (by omega)).trans (kb_turn hg2 (Nat.le_refl _) (by have := r4.size; omega) (.inl ⟨_, _, _, hbox, by unfold soft; decide⟩))⟩
  · rw [List.length_append]
    exact r2.kept hg2 (off_row r2 (by omega))
  · exact r3.map fun _ _ e => rel_turned e hg2 (fun b hb _ e => by
      injection e with e
      have := hb.1.1
      omega) (fun b hb _ => hb)
  · obtain ⟨ks, k1, k2⟩ := h.grp s
    have h1 := grp_turned ⟨ks, k1, k2⟩ r4 fun j hj => ⟨by have := hbl j hj; omega, fun e => (h.apart _ _ e).1 hj⟩
    obtain ⟨ks, k1, k2⟩ := h1
    exact grp_turned ⟨ks, k1, k2⟩ hg2 fun j hj => by
      injection hj with hj
      refine ⟨by omega, fun e => ?_⟩
      have := (k1.lt j e).1
      omega
end
end Go.Proofs.Ytochpomddfjkoaa.Ix

namespace Go.Proofs.Ytochpomddfjkoaa.Ex
open Go.RowKit Go.Proofs.Ytochpomddfjkoaa.BM Go.Proofs.Ytochpomddfjkoaa.LM Go.Proofs.Ytochpomddfjkoaa.VaM Go.Proofs.Ytochpomddfjkoaa.Va Go.Proofs.Ytochpomddfjkoaa.ExM

theorem op_append_o {w : World} {o : Oper} {a : Act} {K' : Act → World → Prop} {Q : Exit → Act → World → Prop} (s x : Operand)
    (ho : o.op = .call { callee := .builtin .append, args := #[s, x], argTypes := #[24, 24] })
    (base : Nat) (v : Value) (n : Nat) (l : List O) (hs : a.eval s = v) (hown : w.ownsRow base 57 5 v n (l.flatMap encO))
    (A : Option Addr) (m c : Nat) (r : List O) (hx : a.eval x = .slice A m c) (hm : r.length = m) (hB : SlO w A r c)
    (hsz : n + m ≤ 1000000000) (hbase : base ≤ w.heap.size)
    (hk : ∀ v' w', w'.ownsRow base 57 5 v' (n + m) ((l ++ r).flatMap encO) → w.grownBy w' v.ownBlock → K' (a.put o.dst v') w') : o.wp Try.prog a w K' Q := by
  obtain ⟨⟨⟨us, h1, h2⟩, _, h3, _⟩, _⟩ := hB
  obtain rfl := elems_is h2
  exact tyO.op_append (K := KO) (fun _ => True) s x ho base v n (l.flatMap encO) l hs hown (elems_o _ _ _) A m c (r.flatMap encO) r hx hm h1 (elems_o _ _ _) h3 hsz hbase fun v' w' g1 _ g3 => hk v' w' (by rw [List.flatMap_append]; exact g1) g3

theorem wp_append_o {w : World} {ops : Array Oper} {rest : List Oper} {o : Oper} {a : Act} {Q : Exit → Act → World → Prop} (hgd : o.guard = none) (s x : Operand)
    (ho : o.op = .call { callee := .builtin .append, args := #[s, x], argTypes := #[24, 24] })
    (base : Nat) (v : Value) (n : Nat) (l : List O) (hs : a.eval s = v) (hown : w.ownsRow base 57 5 v n (l.flatMap encO))
    (A : Option Addr) (m c : Nat) (r : List O) (hx : a.eval x = .slice A m c) (hm : r.length = m) (hB : SlO w A r c)
    (hsz : n + m ≤ 1000000000) (hbase : base ≤ w.heap.size)
    (hk : ∀ v' w', w'.ownsRow base 57 5 v' (n + m) ((l ++ r).flatMap encO) → w.grownBy w' v.ownBlock → wpList Try.prog ops Q rest (a.put o.dst v') w') : wpList Try.prog ops Q (o :: rest) a w :=
  wpList_plain hgd fun _ hK2 => op_append_o s x ho base v n l hs hown A m c r hx hm hB hsz hbase fun v' w' g1 g2 => hK2 _ _ (hk v' w' g1 g2)
end Go.Proofs.Ytochpomddfjkoaa.Ex

namespace Go.Proofs.Ytochpomddfjkoaa.Ix
open Go.RowKit Go.Proofs.Ytochpomddfjkoaa.BM Go.Proofs.Ytochpomddfjkoaa.LM Go.Proofs.Ytochpomddfjkoaa.VaM Go.Proofs.Ytochpomddfjkoaa.ExM
open Go.Proofs.Ytochpomddfjkoaa.Ex (SlO slO_none own_slO wp_append_o encO)

set_option maxRecDepth 100000 in
set_option maxHeartbeats 1000000 in
theorem CloneO_any (l : List O) (A : Option Addr) (c : Nat) (w : World) (hO : SlO w A l c) (hsz : l.length ≤ 100000000) :
    Calls Try.prog 29 #[.slice A l.length c] w fun e w' => ∃ A' c', e = .returned (.slice A' l.length c') ∧ SlO w' A' l c' ∧ (∀ a, A' = some a → w.heap.size ≤ a.block) ∧ Below w.heap.size w w' := by
  cases A with
  | none =>
    have hc := hO.1.2.2.1 rfl
    have hl : l.length = 0 := by have := hO.1.2.1; omega
    obtain rfl : l = [] := List.eq_nil_of_length_eq_zero hl
    subst hc
    have hq : ∀ W, (binOp .eql 24 (.slice none 0 0) (.slice none 0 0)).run Try.prog W = .ok (.bool true) W := fun W => by kernel_rfl
    clear hO hl
    go_enter Try.func29, Try.ntmps29
    go_wp2_with fail
    go_ret
    exact ⟨none, 0, rfl, slO_none _, (fun a h => by cases h), Below.refl _ _⟩
  | some ad =>
    have hown := World.ownsRow_lit (e := 57) (base := w.heap.size) (size := 5) w #[] 0 (Nat.le_refl _) (Nat.zero_le _) rfl
    have hb1 := (Below.refl w.heap.size w).alloc (Nat.le_refl _) (.cells #[] 57)
    have hz := hb1.size
    have hfin := hO.2
    obtain ⟨n, hn⟩ : ∃ n, n = l.length := ⟨_, rfl⟩
    have HOw := Lib.hid hown
    have HB1 := Lib.hid hb1
    have HS := Lib.hid (hO.kept hb1)
    have HFin := Lib.hid hfin
    have HN := Lib.hid hn
    rw [← hn] at hsz ⊢
    have hq : ∀ W, (binOp .eql 24 (.slice (some ad) n c) (.slice none 0 0)).run Try.prog W = .ok (.bool false) W := fun W => by kernel_rfl
    clear hown hb1 hO hfin hn
    go_enter Try.func29, Try.ntmps29
    go_wp2_with (at_builtin; refine wp_append_o rfl (.tmp 5) (.tmp 6) rfl w.heap.size _ 0 [] rfl HOw.out (some ad) n c l rfl HN.out.symm HS.out (by omega) hz ?_; intro u4 w4 hown4 hgrow4; refine pause ?_)
    rw [Nat.zero_add, List.nil_append] at hown4
    obtain ⟨A', c', hu, hl, hsl, hbl⟩ := own_slO hown4 HFin.out
    have HB4 := Lib.hid (HB1.out.grown hgrow4 hz (fun q hq => by injection hq with hq; simp only at hq; omega))
    have HSl := Lib.hid hsl
    have HBk := Lib.hid (show ∀ a, A' = some a → w.heap.size ≤ a.block from fun a ha => (hbl a ha).1)
    rw [← HN.out] at hu
    subst hu
    clear hown4 hgrow4 hsl hbl hl
    unfold Pause
    go_wp2_with fail
    go_ret
    exact ⟨A', c', rfl, HSl.out, HBk.out, HB4.out⟩
end Go.Proofs.Ytochpomddfjkoaa.Ix

namespace Go.Proofs.Ytochpomddfjkoaa.Ex
open Go.RowKit Go.Proofs.Ytochpomddfjkoaa.BM Go.Proofs.Ytochpomddfjkoaa.VaM Go.Proofs.Ytochpomddfjkoaa.Va Go.Proofs.Ytochpomddfjkoaa.ExM

theorem ops_iff {l m : List O} (h : l.length = m.length) : l = m ↔ ∀ j, j < l.length → l.getD j o0 = m.getD j o0 := by
  constructor
  · rintro rfl j _
    rfl
  · intro hh
    apply List.ext_getElem h
    intro i h1 h2
    have h3 := hh i h1
    rw [List.getD_eq_getElem?_getD, List.getD_eq_getElem?_getD, List.getElem?_eq_getElem h1, List.getElem?_eq_getElem h2] at h3
    exact h3

set_option maxRecDepth 100000 in
set_option maxHeartbeats 2000000 in
theorem equalO_any (A : Option Addr) (l : List O) (c : Nat) (B : Option Addr) (m : List O) (d : Nat) (w : World) (h : SlO w A l c) (k : SlO w B m d) :
    Calls Try.prog 38 #[.slice A l.length c, .slice B m.length d] w fun e w' => e = .returned (.bool (decide (l = m))) ∧ Below w.heap.size w w' := by
  have hl := slO_len h
  have hm := slO_len k
  have hbi := fun hh => ops_iff (l := l) (m := m) hh
  have hno : l.length ≠ m.length → ¬ l = m := fun h1 h2 => h1 (by rw [h2])
  obtain ⟨n, hn⟩ : ∃ n, n = l.length := ⟨_, rfl⟩
  obtain ⟨r, hr⟩ : ∃ r, r = m.length := ⟨_, rfl⟩
  rw [← hn, ← hr] at hbi hno ⊢
  rw [← hn] at hl
  rw [← hr] at hm
  have HN := Lib.hid hn
  have HR := Lib.hid hr
  have HS := Lib.hid h
  have HT := Lib.hid k
  have HBi := Lib.hid hbi
  have HNo := Lib.hid hno
  clear hbi hno hn hr h k
  by_cases hlt : n = r
  · subst hlt
    have HB := Lib.hid (HBi.out rfl)
    clear HBi HNo
    go_enter Try.func38, Try.ntmps38
    go_wp2_with fail
    go_loopw [13] (fun i wr => ∃ j : Nat, i = .int .i64 j ∧ j ≤ n ∧ (∀ x, x < j → l.getD x o0 = m.getD x o0) ∧ Below w.heap.size w wr) (fun i _ => n - (intOf i).toNat)
    case atStart => exact ⟨0, rfl, Nat.zero_le _, fun x hx => absurd hx (Nat.not_lt_zero x), Below.refl _ _⟩
    case round =>
      obtain ⟨j, rfl, hj, hsame, hbel⟩ := hrel
      have HSm := Lib.hid hsame
      have HBl := Lib.hid hbel
      clear hsame hbel
      by_cases hjr : j < n
      · obtain ⟨b1, q1, hix1, hc1, _⟩ := HS.out.at j (by rw [← HN.out]; omega)
        obtain ⟨b2, q2, hix2, hc2, _⟩ := HT.out.at j (by rw [← HR.out]; omega)
        obtain ⟨⟨oc1, oa1, ⟨k1, n1, s1⟩⟩, hf1⟩ : ∃ f, f = l.getD j o0 := ⟨_, rfl⟩
        obtain ⟨⟨oc2, oa2, ⟨k2, n2, s2⟩⟩, hf2⟩ : ∃ f, f = m.getD j o0 := ⟨_, rfl⟩
        rw [← hf1] at hc1
        rw [← hf2] at hc2
        obtain ⟨c0, c1, c2, c3, c4⟩ := hc2 wr HBl.out
        obtain ⟨e0, e1, e2, e3, e4⟩ := hc1 wr HBl.out
        simp only at c0 c1 c2 c3 c4 e0 e1 e2 e3 e4
        have hi1 := fun W => hix1 W n c (by omega)
        have hi2 := fun W => hix2 W n d hjr
        have hne := fun W => neq_o ⟨oc1, oa1, ⟨k1, n1, s1⟩⟩ ⟨oc2, oa2, ⟨k2, n2, s2⟩⟩ W
        unfold agO at hne
        have HF1 := Lib.hid hf1
        have HF2 := Lib.hid hf2
        clear hc1 hc2 hix1 hix2 hf1 hf2
        by_cases he : (⟨oc1, oa1, ⟨k1, n1, s1⟩⟩ : O) = ⟨oc2, oa2, ⟨k2, n2, s2⟩⟩
        · have hsucc : ∀ x, x < j + 1 → l.getD x o0 = m.getD x o0 := fun x hx => by
            by_cases e : x = j
            · rw [e, ← HF1.out, ← HF2.out, he]
            · exact HSm.out x (by omega)
          simp only [decide_eq_true he, Bool.not_true] at hne
          have HSu := Lib.hid hsucc
          clear he hsucc
          go_wp2_with fail
          go_quiet (fail)
          go_wp2_with fail
          go_roundw
          case rel => exact ⟨j + 1, by go_num, by omega, HSu.out, below_drewN HBl.out _⟩
          case measure => simp [intOf]; omega
        · simp only [decide_eq_false he, Bool.not_false] at hne
          have HNo := Lib.hid (show ¬ l = m from fun h => he (by rw [HF1.out, HF2.out]; exact HB.out.1 h j hjr))
          clear he
          go_wp2_with fail
          go_quiet (fail)
          go_wp2_with fail
          go_ret
          exact ⟨ret_v (x := .bool false) (by rw [decide_eq_false HNo.out]), below_drewN HBl.out _⟩
      · obtain rfl : j = n := by omega
        have HYes := Lib.hid (HB.out.2 HSm.out)
        go_wp2_with fail
        go_ret
        exact ⟨ret_v (x := .bool true) (by rw [decide_eq_true HYes.out]), HBl.out⟩
  · have HNo' := Lib.hid (HNo.out hlt)
    have hd1 : ((n : Int) == r) = false := by rw [beq_eq_false_iff_ne]; omega
    go_enter Try.func38, Try.ntmps38
    go_wp2_with fail
    go_ret
    exact ⟨ret_v (x := .bool false) (by rw [decide_eq_false HNo'.out]), Below.refl _ _⟩

set_option maxRecDepth 100000 in
theorem Same_any (a b : List O) (A : Option Addr) (c : Nat) (B : Option Addr) (d : Nat) (w : World) (h : SlO w A a c) (k : SlO w B b d) :
    Calls Try.prog 33 #[.slice A a.length c, .slice B b.length d] w fun e w' => e = .returned (.bool (decide (a = b))) ∧ Below w.heap.size w w' := by
  have HE := Lib.hid (equalO_any A a c B b d w h k)
  clear h k
  go_enter Try.func33, Try.ntmps33
  go_wp2_with fail
  refine HE.out.mono ?_
  rintro e w1 ⟨rfl, hb1⟩
  go_wp2_with fail
  go_ret
  exact ⟨rfl, hb1⟩
end Go.Proofs.Ytochpomddfjkoaa.Ex

namespace Go.Proofs.Ytochpomddfjkoaa.Ix
open Go.RowKit Go.Proofs.Ytochpomddfjkoaa.BM Go.Proofs.Ytochpomddfjkoaa.LM Go.Proofs.Ytochpomddfjkoaa.VaM Go.Proofs.Ytochpomddfjkoaa.ExM Go.Proofs.Ytochpomddfjkoaa.QyM Go.Proofs.Ytochpomddfjkoaa.IxM
open Go.Proofs.Ytochpomddfjkoaa.Ex (SlO slO_none)
open Go.Proofs.Ytochpomddfjkoaa.Va (ret_v toList_beq)

set_option maxRecDepth 100000 in
set_option maxHeartbeats 4000000 in
theorem asks_any (x p : Pr) (A : Option Addr) (c : Nat) (B : Option Addr) (d g : Nat) (w : World) (hA : SlO w A x.f c) (hB : SlO w B p.f d) (hK : BxPr w g p.s B p.f.length d) :
    Calls Try.prog 32 #[agPr x A c, .pointer (some ⟨g, 0, none⟩)] w fun e w' => e = .returned (.bool (decide (x = p))) ∧ Below w.heap.size w w' := by
  have hh := fun W (h : Below w.heap.size w W) => Ex.Same_any x.f p.f A c B d W (hA.kept h) (hB.kept h)
  have hdec : decide (x = p) = (decide (x.s = p.s) && decide (x.f = p.f)) := by
    rw [Bool.eq_iff_iff]
    simp only [Bool.and_eq_true, decide_eq_true_eq]
    exact Pr.iff
  rw [hdec]
  unfold agPr
  obtain ⟨H, hH⟩ : ∃ H, H = decide (x.f = p.f) := ⟨_, rfl⟩
  simp only [← hH] at hh ⊢
  obtain ⟨xs, xf⟩ := x
  obtain ⟨ps, pf⟩ := p
  simp only at hh hK ⊢
  obtain ⟨n, hn⟩ : ∃ n, n = xf.length := ⟨_, rfl⟩
  obtain ⟨m, hm⟩ : ∃ n, n = pf.length := ⟨_, rfl⟩
  simp only [← hn, ← hm] at hh hK ⊢
  obtain ⟨b2, hb2⟩ : ∃ z, (xs.toList == ps.toList) = z := ⟨_, rfl⟩
  have hb2' : decide (xs = ps) = b2 := by rw [← hb2, toList_beq]
  rw [hb2']
  have HH := Lib.hid hh
  have hb1 := below_pr w xs A n c
  have hx1 := bxPr_new w xs A n c
  have HB := Lib.hid hb1
  obtain ⟨p0, p1⟩ := hx1.cells
  obtain ⟨q0, q1⟩ := (hK.kept hb1).cells
  clear hb1 hx1 hh hH hn hm hb2' hdec hA hB hK
  go_enter Try.func32, Try.ntmps32
  cases b2
  case false =>
    go_wp2_with fail
    go_ret
    exact ⟨ret_v (by first | rfl | simp), HB.out⟩
  case true =>
    go_wp2_with fail
    refine (HH.out _ HB.out).mono ?_
    rintro r w1 ⟨rfl, hb⟩
    have HB1 := Lib.hid (bt HB.out hb)
    clear hb p0 p1 q0 q1
    go_wp2_with fail
    go_ret
    exact ⟨ret_v (by first | rfl | simp), HB1.out⟩

set_option maxRecDepth 100000 in
set_option maxHeartbeats 4000000 in
theorem IndexFunc_any (l : List Pr) (p : Pr) (A : Option Addr) (c : Nat) (B : Option Addr) (d g : Nat) (w : World) (hS : SlPr w A l c) (hB : SlO w B p.f d) (hK : BxPr w g p.s B p.f.length d) :
    Calls Try.prog 31 #[.slice A l.length c, .func (.func 32) #[] #[.pointer (some ⟨g, 0, none⟩)]] w fun e w' => e = .returned (.int .i64 (find l p)) ∧ Below w.heap.size w w' := by
  have hl := slPr_len hS
  have hcall := fun x K k W (h : Below w.heap.size w W) (hx : SlO W K x.f k) => asks_any x p K k B d g W hx (hB.kept h) (hK.kept h)
  have hfs := fun (i : Nat) => @find_some l p i
  have hfn := @find_none l p
  obtain ⟨F, hF⟩ : ∃ F, F = find l p := ⟨_, rfl⟩
  rw [← hF] at hfn ⊢
  simp only [← hF] at hfs
  obtain ⟨n, hn⟩ : ∃ n, n = l.length := ⟨_, rfl⟩
  simp only [← hn] at hfs
  rw [← hn] at hl ⊢
  have HS := Lib.hid hS
  have HCall := Lib.hid hcall
  have HLen := Lib.hid hn
  have HFs := Lib.hid hfs
  have HFn := Lib.hid hfn
  clear hS hB hK hcall hn hF hfs hfn
  go_enter Try.func31, Try.ntmps31
  go_wp2_with fail
  go_loopw [8] (fun i wr => ∃ j : Nat, i = .int .i64 (j : Int) ∧ j ≤ n ∧ (∀ k, k < j → l.getD k p0 ≠ p) ∧ Below w.heap.size w wr) (fun i _ => n - (intOf i).toNat)
  case atStart => exact ⟨0, rfl, Nat.zero_le _, (fun k hk => absurd hk (Nat.not_lt_zero _)), Below.refl _ _⟩
  case round =>
    obtain ⟨j, rfl, hj, hno, hbel⟩ := hrel
    have HNo := Lib.hid hno
    have HBl := Lib.hid hbel
    clear hno hbel
    by_cases hjn : j < n
    · obtain ⟨b1, q1, A1, c1, hix, hc, _⟩ := HS.out.at j (by rw [← HLen.out]; exact hjn)
      have hi := fun W => hix W n c hjn
      obtain ⟨x, hx⟩ : ∃ x, x = l.getD j p0 := ⟨_, rfl⟩
      rw [← hx] at hc
      obtain ⟨⟨x0, x1⟩, hso⟩ := hc wr HBl.out
      have hcl := HCall.out x A1 c1 wr HBl.out hso
      obtain ⟨b2, hb2⟩ : ∃ b, b = decide (x = p) := ⟨_, rfl⟩
      rw [← hb2] at hcl
      have HX := Lib.hid hx
      have HB2 := Lib.hid hb2
      obtain ⟨xs, xf⟩ := x
      unfold agPr at hcl
      simp only at hcl x0 x1
      obtain ⟨k, hk⟩ : ∃ k, k = xf.length := ⟨_, rfl⟩
      rw [← hk] at hcl x1
      have HCl := Lib.hid hcl
      clear hc hix hx hso hcl hb2 hk
      go_wp2_with fail
      refine HCl.out.mono ?_
      rintro e w2 ⟨rfl, hb⟩
      have HBw := Lib.hid (bt HBl.out hb)
      clear hb HCl x0 x1
      cases b2 with
      | true =>
        have HR := Lib.hid (show (j : Int) = F from (HFs.out j hjn (by rw [← HX.out]; exact of_decide_eq_true HB2.out.symm) HNo.out).symm)
        go_wp2_with fail
        go_ret
        exact ⟨ret_v (x := .int .i64 (j : Int)) (by rw [HR.out]), HBw.out⟩
      | false =>
        go_wp2_with fail
        go_roundw
        case rel =>
          refine ⟨j + 1, by go_num, by omega, fun r hr => ?_, HBw.out⟩
          by_cases e : r = j
          · rw [e, ← HX.out]
            exact of_decide_eq_false HB2.out.symm
          · exact HNo.out r (by omega)
        case measure => simp [intOf]; omega
    · obtain rfl : j = n := by omega
      have HR := Lib.hid (show (-1 : Int) = F from (HFn.out (fun hp => by
        obtain ⟨i, hi, e⟩ := List.getElem_of_mem hp
        have h := HNo.out i (by rw [HLen.out]; exact hi)
        rw [List.getD_eq_getElem?_getD, List.getElem?_eq_getElem hi] at h
        exact h e)).symm)
      go_wp2_with fail
      go_ret
      exact ⟨ret_v (x := .int .i64 (-1)) (by rw [HR.out]), HBl.out⟩

set_option maxRecDepth 100000 in
set_option maxHeartbeats 4000000 in
theorem Find_any (l : List Pr) (p : Pr) (A : Option Addr) (c : Nat) (B : Option Addr) (d : Nat) (w : World) (hS : SlPr w A l c) (hO : SlO w B p.f d) :
    Calls Try.prog 21 #[.slice A l.length c, agPr p B d] w fun e w' => e = .returned (.int .i64 (find l p)) ∧ Below w.heap.size w w' := by
  have hmf : ∀ (fn : Fn) (first cap : Array Value) (w : World), (Instr.makeFunc fn first cap).run Try.prog w = .ok (.func fn first cap) w := fun _ _ _ _ => rfl
  have hb1 := below_pr w p.s B p.f.length d
  have hx1 := bxPr_new w p.s B p.f.length d
  have HI := Lib.hid (IndexFunc_any l p A c B d w.heap.size _ (hS.kept hb1) (hO.kept hb1) hx1)
  have HB1 := Lib.hid hb1
  unfold agPr
  obtain ⟨R, hR⟩ : ∃ R, R = find l p := ⟨_, rfl⟩
  rw [← hR] at HI ⊢
  obtain ⟨n, hn⟩ : ∃ n, n = l.length := ⟨_, rfl⟩
  obtain ⟨m, hm⟩ : ∃ n, n = p.f.length := ⟨_, rfl⟩
  rw [← hn, ← hm] at HI ⊢
  rw [← hm] at HB1
  obtain ⟨ps, pf⟩ := p
  simp only at HI HB1 ⊢
  clear hn hm hR hS hO hb1 hx1
  go_enter Try.func21, Try.ntmps21
  go_wp2_with fail
  refine HI.out.mono ?_
  rintro e w2 ⟨rfl, hb2⟩
  have HB2 := Lib.hid (bt HB1.out hb2)
  clear hb2 HI
  go_wp2_with fail
  go_ret
  exact ⟨rfl, HB2.out⟩
end Go.Proofs.Ytochpomddfjkoaa.Ix

namespace Go.Proofs.Ytochpomddfjkoaa.RegM
open Go.RowKit Go.Proofs.Ytochpomddfjkoaa.Reg Go.Proofs.Ytochpomddfjkoaa.RegB

section
variable {P : Program} {md : Region.Mode} {ops : Array Oper} {Q : Exit → Act → World → Prop} {S : World → Prop}

/-- Has each operation come up? -/
def full (listed : Array Bool) : Bool := listed.all id

theorem full_no {listed : Array Bool} {d : Nat} (h : listed.getD d true = false) : full listed = false := by
  unfold full
  rw [Bool.eq_false_iff]
  intro hf
  rw [Array.all_eq_true] at hf
  rcases Nat.lt_or_ge d listed.size with hd | hd
  · have h1 := hf d hd
    simp only [id] at h1
    simp [Array.getD, hd, h1] at h
  · simp [Array.getD, Nat.not_lt.2 hd] at h

/-- Whatever order is drawn: S holds behind each operation, but for the last one. -/
def AnyM (P : Program) (md : Region.Mode) (ops : Array Oper) (Q : Exit → Act → World → Prop) (S : World → Prop) : Nat → Array Bool → Act → World → Prop
  | 0, l, a, w => Q .normal a w ∧ Region.ready md ops l = []
  | n + 1, l, a, w => (∀ k ∈ Region.ready md ops l, wpOp P ops Q k (fun b x => AnyM P md ops Q S n (l.setIfInBounds k true) b x ∧ (full (l.setIfInBounds k true) = true ∨ S x)) a w) ∧ (Region.ready md ops l = [] → Q .normal a w)

theorem any_of : ∀ (n : Nat) (l : Array Bool) (a : Act) (w : World), AnyM P md ops Q S n l a w → wpAny P md ops Q n l a w
  | 0, _, _, _, h => ⟨h.2, h.1⟩
  | n + 1, _, _, _, h => ⟨h.2, fun k hk => wpOp_mono (fun b x hx => any_of n _ b x hx.1) (h.1 k hk)⟩

/-- An operation that reads, and that another one waits for, may be taken first. -/
theorem first {i d : Nat} {o o' : Oper} {v : Value} (hi : ops[i]? = some o) (hd : ops[d]? = some o') (hw : ∃ e ∈ o'.after, Region.binds md e = true ∧ e.on = i)
    (hsel : ∀ (j : Nat) (q : Oper) cs b, ops[j]? = some q → q.op ≠ .select cs b) (hQ : ∀ c a w, Q (.panic c) (a.put o.dst v) w → Q (.panic c) a w) :
    ∀ (n : Nat) (l : Array Bool) (a : Act) (w : World),
      (∀ j q, ops[j]? = some q → j ≠ i → l.getD j true = false → (∀ e ∈ q.after, Region.binds md e = true → e.on ≠ i) → o.apart ops q = true) →
      i ∈ Region.ready md ops l → l.getD d true = false → d ≠ i → YieldsIf P ops S o v a → S w → AnyM P md ops Q S n (l.setIfInBounds i true) (a.put o.dst v) w → AnyM P md ops Q S (n + 1) l a w := by
  intro n
  induction n with
  | zero =>
    intro l a w _ hr hun hdi hy hS H
    refine ⟨fun j hj => ?_, fun h => by rw [h] at hr; cases hr⟩
    by_cases hji : j = i
    · subst hji
      exact hy.wpOp hi hS ⟨H, Or.inr hS⟩
    · have h0 := ready_mono hj hji
      rw [H.2] at h0
      cases h0
  | succ n ih =>
    intro l a w hfree hr hun hdi hy hS H
    refine ⟨fun j hj => ?_, fun h => by rw [h] at hr; cases hr⟩
    by_cases hji : j = i
    · subst hji
      exact hy.wpOp hi hS ⟨H, Or.inr hS⟩
    · obtain ⟨hju, q, hq, hall⟩ := mem_ready.1 hj
      have waits : ∀ e ∈ q.after, Region.binds md e = true → e.on ≠ i := by
        intro e he hb heq
        have h1 := hall e he hb
        have h0 := (mem_ready.1 hr).1
        rw [heq] at h1
        rcases Nat.lt_or_ge i l.size with h' | h'
        · simp [h'] at h0 h1
          rw [h0] at h1
          cases h1
        · simp [Array.getElem?_eq_none h'] at h1
      have hdj : d ≠ j := by
        rintro rfl
        rw [hd] at hq
        injection hq with hq
        subst hq
        obtain ⟨e, he, hb, hon⟩ := hw
        exact waits e he hb hon
      have hunj : (l.setIfInBounds j true).getD d true = false := by
        rw [getD_set_ne true (Ne.symm hdj)]
        exact hun
      have huni : ((l.setIfInBounds i true).setIfInBounds j true).getD d true = false := by
        rw [getD_set_ne true (Ne.symm hdj), getD_set_ne true (Ne.symm hdi)]
        exact hun
      have hput := wpOp_putIf hq (hfree j q hq hji hju waits) (fun cs b => hsel i o cs b hi) (fun cs b => hsel j q cs b hq) hQ hy (H.1 j (ready_mono hj hji))
      refine wpOp_mono (fun b x hx => ?_) hput
      have hSx : S x := by
        rcases hx.2.2 with hf | hs
        · rw [full_no huni] at hf
          cases hf
        · exact hs
      refine ⟨ih (l.setIfInBounds j true) b x ?_ (ready_mono hr (Ne.symm hji)) hunj hdi hx.1 hSx ?_, Or.inr hSx⟩
      · intro k r hk hki hku hkw
        refine hfree k r hk hki ?_ hkw
        by_cases hjk : j = k
        · subst hjk
          exact hju
        · rw [getD_set_ne true hjk] at hku
          exact hku
      · rw [Array.setIfInBounds_comm _ _ hji]
        exact hx.2.1

/-- What is left of a region. -/
def GM (P : Program) (ops : Array Oper) (Q : Exit → Act → World → Prop) (S : World → Prop) (n : Nat) (l : Array Bool) (a : Act) (w : World) : Prop :=
  Frameless Q → S w → AnyM P .any ops Q S n l a w

theorem GM_start {id : Nat} {a : Act} {w : World} (S : World → Prop) (hm : P.follows .mixedOrders = true) (hQ : Frameless Q) (hS : ∀ W, Below w.heap.size w W → S W)
    (h : ∀ W, Below w.heap.size w W → GM P ops Q S ops.size (Array.replicate ops.size false) a W) : (Code.region id ops true).wp P Q a w :=
  wp_region_any hm (any_of _ _ _ _ (h w.drew (Below.refl _ _).drew hQ (hS w.drew (Below.refl _ _).drew)))

/-- Does operation d wait for i, and is it to come? -/
def waitsB (ops : Array Oper) (l : Array Bool) (d i : Nat) : Bool :=
  match nth ops.toList d with
  | some q => q.after.toList.any (fun e => Region.binds .any e && e.on == i) && !(l.getD d true) && d != i
  | none => false

/-- A plain operation i, for which d waits, is taken first. -/
theorem GM_step {i : Nat} (d : Nat) {o : Oper} {n : Nat} {l : Array Bool} {a : Act} {w : World} (ho' : nth ops.toList i = some o) (hok : stepOk ops l i = true) (hwt : waitsB ops l d i = true) (hw : Region.wanted o (yielded ops a.tmps) = true)
    (h : ∀ K : Act → Prop, (∀ a', GM P ops Q S n (l.setIfInBounds i true) a' w → K a') → o.quiet P a (fun w' => ∃ x : At S, w' = x.world) K) : GM P ops Q S (n + 1) l a w := by
  intro hQ hSw
  have ho := at_of_nth ho'
  simp only [stepOk, ho, Bool.and_eq_true] at hok
  obtain ⟨⟨⟨hp, hs⟩, hf⟩, hr⟩ := hok
  unfold waitsB at hwt
  cases hd : nth ops.toList d with
  | none => rw [hd] at hwt; cases hwt
  | some q =>
    rw [hd] at hwt
    simp only [Bool.and_eq_true, List.any_eq_true, beq_iff_eq, bne_iff_ne, ne_eq, Bool.not_eq_true', Array.mem_toList_iff] at hwt
    obtain ⟨⟨⟨e, he, hb, hon⟩, hun⟩, hdi⟩ := hwt
    obtain ⟨v, h1, h2⟩ := h _ (fun _ h => h)
    refine first ho (at_of_nth hd) ⟨e, he, hb, hon⟩ (Region.noSelect_spec hs) (fun c a w => hQ c a _ _ w) n l a w (Region.free_spec ho hf) (by simpa using hr) hun hdi (.inl ⟨hw, fun w' hw' => ?_⟩) hSw (h2 hQ hSw)
    have h3 := h1 w' ⟨⟨w', hw'⟩, rfl⟩
    unfold Oper.quietAt at h3
    cases hrun : (execOp a.eval o).run P w' with
    | ok nx w1 =>
      obtain ⟨u, rfl⟩ := plain_value hp hrun
      rw [hrun] at h3
      simp only [Oper.quietUpon] at h3
      rw [h3.1, h3.2]
    | halt x w1 =>
      rw [hrun] at h3
      exact h3.elim

/-- Operation number i alone may come up: it is carried out. -/
theorem GM_event {i : Nat} {o : Oper} {n : Nat} {l : Array Bool} {a : Act} {w : World} (ho' : nth ops.toList i = some o) (hr : Region.ready .any ops l = [i])
    (hw : Region.wanted o (yielded ops a.tmps) = true)
    (h : ∀ K : Act → World → Prop, (∀ a' w', S w' → GM P ops Q S n (l.setIfInBounds i true) a' w' → K a' w') → o.wp P a w K Q) : GM P ops Q S (n + 1) l a w := by
  intro hQ _
  refine ⟨fun j hj => ?_, fun h0 => by rw [hr] at h0; cases h0⟩
  rw [hr] at hj
  obtain rfl : j = i := by simpa using hj
  unfold wpOp
  simp only [at_of_nth ho', hw, if_true]
  exact .inl (h _ (fun a' w' hs hg => ⟨hg hQ hs, Or.inr hs⟩))

/-- The last operation. -/
theorem GM_last {i : Nat} {o : Oper} {n : Nat} {l : Array Bool} {a : Act} {w : World} (ho' : nth ops.toList i = some o) (hr : Region.ready .any ops l = [i])
    (hw : Region.wanted o (yielded ops a.tmps) = true) (hf : full (l.setIfInBounds i true) = true) (hr2 : Region.ready .any ops (l.setIfInBounds i true) = [])
    (h : ∀ K : Act → World → Prop, (∀ a' w', Q .normal a' w' → K a' w') → o.wp P a w K Q) : GM P ops Q S (n + 1) l a w := by
  intro hQ _
  refine ⟨fun j hj => ?_, fun h0 => by rw [hr] at h0; cases h0⟩
  rw [hr] at hj
  obtain rfl : j = i := by simpa using hj
  unfold wpOp
  simp only [at_of_nth ho', hw, if_true]
  refine .inl (h _ (fun a' w' hg => ⟨?_, Or.inl hf⟩))
  cases n with
  | zero => exact ⟨hg, hr2⟩
  | succ n => exact ⟨fun k hk => (by rw [hr2] at hk; cases hk), fun _ => hg⟩
end
end Go.Proofs.Ytochpomddfjkoaa.RegM

namespace Go.Proofs.Ytochpomddfjkoaa.RegI
open Go.RowKit Go.Proofs.Ytochpomddfjkoaa.Reg Go.Proofs.Ytochpomddfjkoaa.RegB Go.Proofs.Ytochpomddfjkoaa.RegM

section
variable {P : Program} {md : Region.Mode} {ops : Array Oper} {Q : Exit → Act → World → Prop} {S : World → Prop} {l n : Nat}

theorem rows_in {row : String} {args : Array Value} {w : World} {R : Value → World → Prop} (h : Rows P row args w R) : RowsIn (Fence.wide.inRound l) n P row args w R := fun c cs _ => by
  obtain ⟨v, w', r, s⟩ := h c cs
  exact ⟨v, w', r, stepsIn_wide.2 s⟩

theorem oper_in {o : Oper} {a : Act} {w : World} {K : Act → World → Prop} (hd : ∀ c, o.op ≠ .defer c) (h : o.wp P a w K Q) : o.wpIn (Fence.wide.inRound l) n P a w K Q := by
  unfold Oper.wpIn
  refine ⟨fun _ _ => trivial, ?_⟩
  unfold Oper.wp at h
  rw [show (Fence.wide.inRound l).round = some l from rfl, Oper.semAt_some l _ _ hd]
  generalize (execOp a.eval o).run P w = r at h ⊢
  cases r with
  | ok x w' =>
    cases x
    case enter f args => exact ⟨(fun e => by cases e), CallsIn.inRound l (callsIn_wide.2 h)⟩
    case row row args => exact ⟨(fun e => by cases e), rows_in h⟩
    case round => exact h.elim
    all_goals exact h
  | halt x w' => cases x <;> exact h

/-- Does no operation put a call off? -/
def noDefer (ops : Array Oper) : Bool := ops.toList.all fun o => match o.op with
  | .defer _ => false
  | _ => true

theorem noDefer_at (h : noDefer ops = true) {i : Nat} {o : Oper} (ho : ops[i]? = some o) : ∀ c, o.op ≠ .defer c := by
  intro c e
  have h1 := List.all_eq_true.1 h o (Array.mem_toList_iff.2 (Array.mem_of_getElem? ho))
  rw [e] at h1
  cases h1

theorem any_in (hd : noDefer ops = true) (hlo : ¬ LetsOut Q) : ∀ (fuel : Nat) (listed : Array Bool) (a : Act) (w : World), wpAny P md ops Q fuel listed a w → wpAnyIn (Fence.wide.inRound l) n P md ops Q fuel listed a w
  | 0, _, _, _, h => h
  | fuel + 1, listed, a, w, h => by
    refine ⟨h.1, fun i hi => ?_⟩
    have h1 := wpOp_mono (fun a' w' => any_in hd hlo fuel (listed.setIfInBounds i true) a' w') (h.2 i hi)
    unfold wpOp at h1
    unfold wpOpIn
    cases ho : ops[i]? with
    | none => rw [ho] at h1; exact h1
    | some o =>
      rw [ho] at h1
      simp only at h1 ⊢
      split
      · rename_i hw
        simp only [hw, if_true] at h1
        exact oper_in (noDefer_at hd ho) (h1.elim id fun h => absurd h.2 hlo)
      · rename_i hw
        simp only [hw] at h1
        exact ⟨fun _ _ => trivial, h1⟩

theorem GM_in {id : Nat} {a : Act} {w : World} (S : World → Prop) (hm : P.follows .mixedOrders = true) (hd : noDefer ops = true) (hlo : ¬ LetsOut Q) (hQ : Frameless Q) (hS : ∀ W, Below w.heap.size w W → S W)
    (h : ∀ W, Below w.heap.size w W → GM P ops Q S ops.size (Array.replicate ops.size false) a W) : (Code.region id ops true).wpIn (Fence.wide.inRound l) n P Q a w :=
  wpIn_region_any hm (any_in hd hlo _ _ _ _ (any_of _ _ _ _ (h w.drew (Below.refl _ _).drew hQ (hS w.drew (Below.refl _ _).drew))))

/-- Operation number i yields v in whatever world of which S holds, and another one waits for it: it is taken first. -/
theorem GM_yield {i : Nat} (d : Nat) {o : Oper} (v : Value) {m : Nat} {L : Array Bool} {a : Act} {w : World} (ho' : nth ops.toList i = some o)
    (hok : (Region.noSelect ops && Region.free .any ops L i && (Region.ready .any ops L).contains i) = true) (hwt : waitsB ops L d i = true) (hw : Region.wanted o (yielded ops a.tmps) = true)
    (hy : ∀ x, S x → (execOp a.eval o).run P x = .ok (.value v) x)
    (h : GM P ops Q S m (L.setIfInBounds i true) (a.put o.dst v) w) : GM P ops Q S (m + 1) L a w := by
  intro hQ hSw
  have ho := at_of_nth ho'
  simp only [Bool.and_eq_true] at hok
  obtain ⟨⟨hs, hf⟩, hr⟩ := hok
  unfold waitsB at hwt
  cases hd : nth ops.toList d with
  | none => rw [hd] at hwt; cases hwt
  | some q =>
    rw [hd] at hwt
    simp only [Bool.and_eq_true, List.any_eq_true, beq_iff_eq, bne_iff_ne, ne_eq, Bool.not_eq_true', Array.mem_toList_iff] at hwt
    obtain ⟨⟨⟨e, he, hb, hon⟩, hun⟩, hdi⟩ := hwt
    exact first ho (at_of_nth hd) ⟨e, he, hb, hon⟩ (Region.noSelect_spec hs) (fun c a w => hQ c a _ _ w) m L a w (Region.free_spec ho hf) (by simpa using hr) hun hdi (.inl ⟨hw, hy⟩) hSw (h hQ hSw)

theorem own_no {α : Type} {B : Nat} {Kp : World → World → Prop} {I : List α → World → Prop} {Ix : Code → List α → World → Prop} {xs : List α} {W : World} : ¬ LetsOut (ownPostG B Kp I Ix xs W) := fun ⟨_, _, h⟩ => h
theorem then_no {K : Act → World → Prop} (h : ¬ LetsOut Q) : ¬ LetsOut (Exit.then K Q) := fun ⟨a, w, k⟩ => h ⟨a, w, k⟩
theorem inBlock_no {id : Nat} (h : ¬ LetsOut Q) : ¬ LetsOut (Exit.inBlock id Q) := fun ⟨a, w, k⟩ => h ⟨a, w, k⟩

theorem frameless_own {α : Type} {B : Nat} {Kp : World → World → Prop} {I : List α → World → Prop} {Ix : Code → List α → World → Prop} {xs : List α} {W : World} : Frameless (ownPostG B Kp I Ix xs W) := fun _ _ _ _ _ h => h
end
end Go.Proofs.Ytochpomddfjkoaa.RegI

namespace Go.Proofs.Ytochpomddfjkoaa.Ix
open Go.RowKit Go.Shelf Go.Proofs.Ytochpomddfjkoaa.BM Go.Proofs.Ytochpomddfjkoaa.LM Go.Proofs.Ytochpomddfjkoaa.VaM Go.Proofs.Ytochpomddfjkoaa.ExM Go.Proofs.Ytochpomddfjkoaa.QyM Go.Proofs.Ytochpomddfjkoaa.IxM
open Go.Proofs.Ytochpomddfjkoaa.Ex (SlO slO_none)
open Go.Proofs.Ytochpomddfjkoaa.Qy (SlQ slQ_len slO_lt)
open Go.Proofs.Ytochpomddfjkoaa.Va (ret_v)

attribute [local go_sem] Oper.semAt_some

theorem find_ge {l : List Pr} {p : Pr} : decide (find l p ≥ 0) = decide (p ∈ l) := by
  rw [Bool.eq_iff_iff, decide_eq_true_eq, decide_eq_true_eq]
  have h := @find_lt l p
  constructor
  · intro h1
    exact Decidable.not_not.1 fun h2 => by
      have := h.2 h2
      omega
  · intro h1
    have h2 : ¬ find l p < 0 := fun h3 => h.1 h3 h1
    omega

set_option maxRecDepth 100000 in
set_option maxHeartbeats 8000000 in
theorem All_any (l : List Q) (A : Option Addr) (c : Nat) (w : World) (hS : SlQ w A l c) (hsz : (l.flatMap askQ).length ≤ 100000000) (hf : ∀ p ∈ l.flatMap askQ, p.f.length ≤ 100000000) :
    Calls Try.prog 15 #[.slice A l.length c] w (AllB l w) := by
  refine (callsIn_wide (n := 8)).1 ?_
  obtain ⟨n, hn⟩ : ∃ n, n = l.length := ⟨_, rfl⟩
  have hmm := @run_makeMap Try.prog
  have hstops := fun W0 h1 h2 => asked_stops Fence.wide 7 trivial rfl (by omega) (w.heap.size + 1 + 1 + 1) A l c w W0 hS hf h1 h2
  rw [← hn] at hstops ⊢
  have HStops := Lib.hid hstops
  have HN := Lib.hid hn
  have HS := Lib.hid hS
  clear hstops hn hS hf
  refine callsIn_of_wp_marks Try.func15 rfl trivial ?_ rfl
  simp only [Try.ntmps15, List.size_toArray, List.length_cons, List.length_nil, Nat.reduceAdd, Nat.reduceSub, Array.replicate_succ, Array.replicate_zero, List.push_toArray, List.append_toArray, List.nil_append, List.cons_append]
  gi_wp2_with (refine ⟨trivial, ?_⟩; gi_at_call 28; refine (asked_in Fence.wide _ trivial rfl _ _ _ _).mono ?_; rintro e w' ⟨rfl, rfl⟩)
  clear hmm
  obtain ⟨W0, hW0⟩ : ∃ W0, W0 = (((w.alloc (.cells #[.slice none 0 0] 23)).alloc (.map #[] 0)).alloc (.cells #[.map (some (w.heap.size + 1))] 59)).alloc (.cells #[.slice A n c] 22) := ⟨_, rfl⟩
  have hsz0 : W0.heap.size = w.heap.size + 4 := by rw [hW0]; simp
  have hb0 : Below w.heap.size w W0 := by
    rw [hW0]
    exact ((((Below.refl _ w).alloc (Nat.le_refl _) _).alloc (by simp) _).alloc (by simp; omega) _).alloc (by simp; omega) _
  have hx0 : W0.cell? ⟨w.heap.size + 1 + 1 + 1, 0, none⟩ = some (.slice A n c) := by
    have h := Boxed.new (((w.alloc (.cells #[.slice none 0 0] 23)).alloc (.map #[] 0)).alloc (.cells #[.map (some (w.heap.size + 1))] 59)) 22 (.slice A n c)
    rw [← hW0] at h
    simp only [World.size_alloc] at h
    exact h.cell
  have hinv : Inv w.heap.size [] [] (.map []) (fun _ => nilS) nilS W0 := by
    refine inv_new ?_ ?_ ?_
    · rw [hW0]
      exact (((Boxed.new w 23 nilS).alloc _).alloc _).alloc _
    · have h := (Boxed.new ((w.alloc (.cells #[.slice none 0 0] 23)).alloc (.map #[] 0)) 59 (.map (some (w.heap.size + 1)))).alloc (.cells #[.slice A n c] 22)
      rw [← hW0] at h
      simp only [World.size_alloc] at h
      exact h
    · have h := ((World.ownsMap_made (w.alloc (.cells #[.slice none 0 0] 23)) Try.prog 9 tok).alloc (.cells #[.map (some (w.heap.size + 1))] 59)).alloc (.cells #[.slice A n c] 22)
      rw [← hW0] at h
      simp only [World.size_alloc] at h
      exact h
  rw [← hW0]
  clear hW0
  have hst := HStops.out W0 hx0 hb0
  obtain ⟨N, hNl⟩ : ∃ N, N = (l.flatMap askQ).length := ⟨_, rfl⟩
  rw [← hNl] at hst hsz
  have HNl := Lib.hid hNl
  clear hNl hx0 HStops
  refine wpIn_rangeFunc_ownH rfl (by omega) (gf := 36) (lb := #[.pointer (some ⟨w.heap.size + 1 + 1 + 1, 0, none⟩)]) rfl trivial (enters_of Try.func36 (by kernel_rfl) rfl)
    hst KpT.trans (fun W l o o' hl ho hc _ => kpT_obj (B := W0.heap.size) (by omega) W l o o' hl ho hc) (Below.refl _ _) (fun _ => rfl)
    (fun pre W => ∃ D U u, Inv w.heap.size (pushes [] (pre.map (·.p))) (pushes [] (pre.map (·.p))) D U u W ∧ Below w.heap.size w W)
    (fun _ _ _ => False)
    (fun s X Y row hs hg hr => by
      obtain ⟨D, U, u, h1, h2⟩ := hs
      exact ⟨D, U, u, h1.turned hg fun j hj => ⟨by have := (hr j hj).1; omega, (hr j hj).2⟩, h2.grown hg h2.size fun j hj => by have := (hr j hj).1; omega⟩)
    (fun _ _ _ _ _ h _ _ => h)
    ⟨_, _, _, hinv, hb0⟩
    (fun x a' W => ∃ b5, Whole W b5 #[.string x.p.s, .slice x.A x.p.f.length x.c] 26 ∧ (∃ og oa D U u, Inv w.heap.size og oa D U u W ∧ u.ownBlock ≠ some b5 ∧ ∀ s, (U s).ownBlock ≠ some b5) ∧ a' = { tmps := #[.slice A n c, undef, .slice none 0 0, .pointer (some ⟨w.heap.size, 0, none⟩), .pointer (some ⟨w.heap.size + 1 + 1, 0, none⟩), .pointer (some ⟨b5, 0, none⟩), .map (some (w.heap.size + 1)), .slice A n c, .func (.func 36) #[] #[.pointer (some ⟨w.heap.size + 1 + 1 + 1, 0, none⟩)], agPr x.p x.A x.c, undef, undef, undef, undef, undef, undef, undef, undef, undef, undef, undef, undef, undef, undef, undef, undef, undef, undef, undef, undef, undef, undef, undef, undef, undef, undef, undef], defers := [] })
    (fun x a' _ X Y row hs hg hr => by
      obtain ⟨b5, h1, ⟨og, oa, D, U, u, g1, g2⟩, h2⟩ := hs
      refine ⟨b5, ?_, ⟨og, oa, D, U, u, g1.turned hg fun j hj => ⟨by have := (hr j hj).1; omega, (hr j hj).2⟩, g2⟩, h2⟩
      refine (hg.block b5 (Array.getElem?_eq_some_iff.1 h1).1 fun e => ?_).trans h1
      obtain ⟨o, ho, hc⟩ := (hr b5 e.symm).2
      rw [show X.heap[b5]? = _ from h1] at ho
      injection ho with ho
      rw [← ho] at hc
      cases hc)
    ?assign ?body ?done ?stop
  case assign =>
    rintro lo pre x W K ⟨D, U, u, h1, h2⟩ hK
    have hz := h2.size
    have hal := (Below.refl W.heap.size W).alloc (Nat.le_refl _) (.cells #[.string x.p.s, .slice x.A x.p.f.length x.c] 26)
    have hfin := hK { tmps := #[.slice A n c, undef, .slice none 0 0, .pointer (some ⟨w.heap.size, 0, none⟩), .pointer (some ⟨w.heap.size + 1 + 1, 0, none⟩), .pointer (some ⟨W.heap.size, 0, none⟩), .map (some (w.heap.size + 1)), .slice A n c, .func (.func 36) #[] #[.pointer (some ⟨w.heap.size + 1 + 1 + 1, 0, none⟩)], agPr x.p x.A x.c, undef, undef, undef, undef, undef, undef, undef, undef, undef, undef, undef, undef, undef, undef, undef, undef, undef, undef, undef, undef, undef, undef, undef, undef, undef, undef, undef], defers := [] } _
      ((KeepsOthers.alloc W (.cells #[.string x.p.s, .slice x.A x.p.f.length x.c] 26)).from _) (kpT_below hal hz) ⟨D, U, u, h1.below hal, h2.trans (hal.mono hz)⟩ ⟨W.heap.size, whole_new W _ _, ⟨_, _, _, _, _, h1.below hal, h1.fresh⟩, rfl⟩
    have HFin := Lib.hid hfin
    clear hfin hK h1 h2
    simp only [encA, agPr]
    gi_wp2
    exact HFin.out
  case body =>
    rintro lo pre x a' W hl ⟨r, hr⟩ ⟨D, U, u, hinv, hbel⟩ ⟨b5, hwh, ⟨og', oa', D', U', u', hinv', hu5, hU5'⟩, rfl⟩ hlt
    obtain ⟨H, hH⟩ : ∃ H, H = w.heap.size := ⟨_, rfl⟩
    obtain ⟨hsu, hsU⟩ := hinv'.same hinv
    have hzl : H + 4 ≤ W.heap.size := by
      have := (Array.getElem?_eq_some_iff.1 hr).1
      omega
    obtain ⟨⟨ps, pf⟩, pA, pc, hO0, hps, hpf⟩ := x
    simp only at hO0 hps hpf hwh
    have hO := hO0.kept hbel
    have hOk := fun X (h : Below w.heap.size w X) => hO0.kept h
    rw [hsu] at hu5
    have hU5 := hU5' ps
    rw [hsU ps hps] at hU5
    clear hinv' hsu hsU hU5' og' oa' D' U' u'
    have hOlt : 0 < pf.length → ∀ a, pA = some a → a.block < H := fun h0 a ha => hH ▸ slO_lt hO0 h0 ha
    obtain ⟨o, ho⟩ : ∃ o, o = pushes [] (pre.map (·.p)) := ⟨_, rfl⟩
    have hol : o.length ≤ 100000000 := by
      have h1 := (pushes_len (pre.map (·.p)) []).2
      rw [← ho, List.length_nil, List.length_map] at h1
      omega
    have hnew : pushes [] ((pre ++ [(⟨⟨ps, pf⟩, pA, pc, hO0, hps, hpf⟩ : Ask w)]).map (·.p)) = push o ⟨ps, pf⟩ := by
      rw [List.map_append, pushes_app, ← ho]
      rfl
    rw [← ho, ← hH] at hinv
    rw [← hH] at hbel hsz0 ⊢
    simp only [← hH] at hOk
    have HOk := Lib.hid hOk
    have HU5 := Lib.hid hU5
    have Hu5 := Lib.hid hu5
    clear hOk hU5 hu5
    obtain ⟨Ag, cg, hUg, hSlg⟩ := hinv.grpSl ps
    have hfind := Find_any (named o ps) ⟨ps, pf⟩ Ag cg pA pc W hSlg hO
    have hge := @find_ge (named o ps) ⟨ps, pf⟩
    rw [show decide ((⟨ps, pf⟩ : Pr) ∈ named o ps) = decide ((⟨ps, pf⟩ : Pr) ∈ o) from by rw [Bool.eq_iff_iff, decide_eq_true_eq, decide_eq_true_eq]; exact @mem_named o ⟨ps, pf⟩] at hge
    have hlk := look_run hinv.mp hinv.look hps
    rw [hUg] at hlk
    have c4 := hinv.mbox.cell
    have c50 := hwh.at 0 _ rfl
    have c51 := hwh.at 1 _ rfl
    obtain ⟨F, hF⟩ : ∃ F, F = find (named o ps) ⟨ps, pf⟩ := ⟨_, rfl⟩
    rw [← hF] at hfind hge
    obtain ⟨ng, hng⟩ : ∃ n, n = (named o ps).length := ⟨_, rfl⟩
    obtain ⟨n1, hn1⟩ : ∃ n, n = pf.length := ⟨_, rfl⟩
    unfold agPr at hfind
    simp only at hfind
    rw [← hng] at hUg hfind hlk
    rw [← hn1] at hfind hwh c51
    simp only
    obtain ⟨b4, hb4⟩ : ∃ b, b = H + 1 + 1 := ⟨_, rfl⟩
    rw [← hb4]
    rw [show H + 2 = b4 from hb4.symm] at c4
    obtain ⟨bm, hbm⟩ : ∃ b, b = H + 1 := ⟨_, rfl⟩
    rw [← hbm] at hlk c4 ⊢
    have HInv := Lib.hid hinv
    have HBel := Lib.hid hbel
    have HWh := Lib.hid hwh
    have HOlt := Lib.hid hOlt
    have HPs := Lib.hid hps
    have HPf := Lib.hid hpf
    have HNew := Lib.hid hnew
    have HPl := Lib.hid hol
    have HFind := Lib.hid hfind
    have HGe := Lib.hid hge
    have HUg := Lib.hid hUg
    have HNg := Lib.hid hng
    have HN1 := Lib.hid hn1
    have HB4 := Lib.hid hb4
    have HBm := Lib.hid hbm
    have HHw := Lib.hid hH
    have HZ0 := Lib.hid hsz0
    clear hst hinv hbel hwh hO hOlt hnew hfind hge hUg hng hn1 hb4 hbm hH hsz0 hF ho hSlg hb0 hl hr r
    gi_wp2
    refine ⟨trivial, (CallsIn.inRound lo (callsIn_wide.2 HFind.out)).mono ?_⟩
    rintro e w3 ⟨rfl, hb3⟩
    have HKB3 := Lib.hid (show KB H W w3 from kb_below hb3 (by omega))
    have HInv3 := Lib.hid (HInv.out.below hb3)
    have HBel3 := Lib.hid (HBel.out.trans (hb3.mono (by omega)))
    have HWh3 := Lib.hid (HWh.out.below hb3)
    have hz3 : H + 4 ≤ w3.heap.size := Nat.le_trans hzl hb3.size
    clear hb3 hlk c4 c50 c51 HFind HInv HWh hzl
    by_cases hin : (⟨ps, pf⟩ : Pr) ∈ o
    · have hge : decide (0 ≤ F) = true := by
        have h := HGe.out
        rw [decide_eq_true hin] at h
        exact h
      have HPu := Lib.hid (push_in hin)
      clear hin
      gi_wp2
      refine ⟨?_, HKB3.out.2, D, U, u, ?_, HBel3.out⟩
      · rw [HZ0.out]
        exact HKB3.out.1
      · rw [HNew.out, HPu.out]
        exact HInv3.out
    · have hge : decide (0 ≤ F) = false := by
        have h := HGe.out
        rw [decide_eq_false hin] at h
        exact h
      have HPu := Lib.hid (push_new hin)
      have hUg := HUg.out
      have HIn := Lib.hid hin
      clear hin hUg
      gi_wp2
      refine RegI.GM_in (fun x => x.cell? ⟨b4, 0, none⟩ = some (.map (some bm)) ∧ x.cell? ⟨b5, 0, none⟩ = some (.string ps) ∧ x.cell? ⟨b5, 1, none⟩ = some (.slice pA n1 pc) ∧ x.ownsMap Try.prog 9 tok (H + 1) o.length D) (by kernel_rfl) (by kernel_rfl) (RegI.then_no (RegI.inBlock_no RegI.own_no)) (Reg.frameless_then (Reg.frameless_inBlock RegI.frameless_own)) (fun W1 hW1 => ?_) (fun W1 hW1 => ?_)
      · have hI := HInv3.out.below hW1
        have hwh := HWh3.out.below hW1
        have hc := hI.mbox.cell
        rw [← HBm.out, show H + 2 = b4 from HB4.out.symm] at hc
        exact ⟨hc, hwh.at 0 _ rfl, hwh.at 1 _ rfl, hI.mp⟩
      have hI1 := HInv3.out.below hW1
      have hwh1 := HWh3.out.below hW1
      have HBel1 := Lib.hid (HBel3.out.trans (hW1.mono (by omega)))
      have hz1 : H + 4 ≤ W1.heap.size := Nat.le_trans hz3 hW1.size
      have HKB1 := Lib.hid (HKB3.out.trans (kb_below hW1 (by omega)))
      have hlook := hI1.look
      have hc1 := hI1.mbox.cell
      rw [← HBm.out, show H + 2 = b4 from HB4.out.symm] at hc1
      obtain ⟨S, hS⟩ : ∃ S : World → Prop, S = fun x => x.cell? ⟨b4, 0, none⟩ = some (.map (some bm)) ∧ x.cell? ⟨b5, 0, none⟩ = some (.string ps) ∧ x.cell? ⟨b5, 1, none⟩ = some (.slice pA n1 pc) ∧ x.ownsMap Try.prog 9 tok (H + 1) o.length D := ⟨_, rfl⟩
      have hso : ∀ x, S x → x.cell? ⟨b4, 0, none⟩ = some (.map (some bm)) ∧ x.cell? ⟨b5, 0, none⟩ = some (.string ps) ∧ x.cell? ⟨b5, 1, none⟩ = some (.slice pA n1 pc) ∧ x.ownsMap Try.prog 9 tok (H + 1) o.length D := fun x h => by rw [hS] at h; exact h
      have x4 : ∀ x : RegB.At S, x.world.cell? ⟨b4, 0, none⟩ = some (.map (some bm)) := fun x => (hso _ x.ok).1
      have x50 : ∀ x : RegB.At S, x.world.cell? ⟨b5, 0, none⟩ = some (.string ps) := fun x => (hso _ x.ok).2.1
      have x51 : ∀ x : RegB.At S, x.world.cell? ⟨b5, 1, none⟩ = some (.slice pA n1 pc) := fun x => (hso _ x.ok).2.2.1
      have HLk := Lib.hid (show ∀ x, S x → (Instr.lookup 59 (.map (some bm)) (.string ps) false).run Try.prog x = .ok (U ps) x from fun x h => by rw [HBm.out]; exact look_run (hso x h).2.2.2 hlook HPs.out)
      have HSi := Lib.hid (show ∀ x, x.cell? ⟨b4, 0, none⟩ = some (.map (some bm)) → x.cell? ⟨b5, 0, none⟩ = some (.string ps) → x.cell? ⟨b5, 1, none⟩ = some (.slice pA n1 pc) → x.ownsMap Try.prog 9 tok (H + 1) o.length D → S x from fun x h1 h2 h3 h4 => by rw [hS]; exact ⟨h1, h2, h3, h4⟩)
      rw [← hS]
      haveI hne5 : Nonempty (RegB.At S) := ⟨⟨W1, HSi.out W1 hc1 (hwh1.at 0 _ rfl) (hwh1.at 1 _ rfl) hI1.mp⟩⟩
      have HInv1 := Lib.hid hI1
      have HWh1 := Lib.hid hwh1
      clear hS hso hlook hI1 hwh1 hc1 hW1 HInv3 HWh3 HBel3 HKB3 hz3
      refine RegM.GM_step (i := 0) 10 rfl (by kernel_rfl) (by kernel_rfl) (by rfl) (fun K hK => ?_); go_big_quiet_op; refine hK _ ?_; clear hK K
      refine RegM.GM_step (i := 1) 2 rfl (by kernel_rfl) (by kernel_rfl) (by rfl) (fun K hK => ?_); go_big_quiet_op; refine hK _ ?_; clear hK K
      refine RegM.GM_step (i := 2) 10 rfl (by kernel_rfl) (by kernel_rfl) (by rfl) (fun K hK => ?_); go_big_quiet_op; refine hK _ ?_; clear hK K
      refine RegM.GM_step (i := 3) 6 rfl (by kernel_rfl) (by kernel_rfl) (by rfl) (fun K hK => ?_); go_big_quiet_op; refine hK _ ?_; clear hK K
      refine RegM.GM_step (i := 4) 5 rfl (by kernel_rfl) (by kernel_rfl) (by rfl) (fun K hK => ?_); go_big_quiet_op; refine hK _ ?_; clear hK K
      refine RegM.GM_step (i := 5) 6 rfl (by kernel_rfl) (by kernel_rfl) (by rfl) (fun K hK => ?_); go_big_quiet_op; refine hK _ ?_; clear hK K
      refine RegI.GM_yield (i := 6) 9 (U ps) rfl (by kernel_rfl) (by kernel_rfl) (by rfl) (fun x hx => op_lookup (.tmp 20) (.tmp 22) rfl rfl rfl (HLk.out x hx)) ?_
      simp only [Act.put, List.setIfInBounds_toArray, List.set_cons_zero, List.set_cons_succ]
      refine RegM.GM_step (i := 7) 8 rfl (by kernel_rfl) (by kernel_rfl) (by rfl) (fun K hK => ?_); go_big_quiet_op; refine hK _ ?_; clear hK K
      have ha2 := below_pr W1 ps pA n1 pc
      have hnew := RG.elem_new (K := KPr) (p := fun _ => True) W1 26 ⟨ps, pf⟩ (encPr ⟨ps, pf⟩ pA pc) ⟨pA, pc, rfl, HOk.out _ HBel1.out, HPs.out, fun _ _ _ => trivial⟩
      have hrow := hnew.1
      unfold encPr at hrow
      simp only [← HN1.out] at hrow
      obtain ⟨W2, hW2⟩ : ∃ W, W = W1.alloc (.cells #[.string ps, .slice pA n1 pc] 26) := ⟨_, rfl⟩
      rw [show (List.toArray [Value.string ps, .slice pA n1 pc]) = #[Value.string ps, .slice pA n1 pc] from rfl, ← hW2] at hrow
      rw [← hW2] at ha2
      have hI2 := HInv1.out.below ha2
      have hwh2 := HWh1.out.below ha2
      have hBel2 := HBel1.out.trans (ha2.mono (by omega))
      have hz2 : H + 4 ≤ W2.heap.size := Nat.le_trans hz1 ha2.size
      have hKB2 := HKB1.out.trans (kb_below ha2 (by omega))
      have hc2 := hI2.mbox.cell
      rw [← HBm.out, show H + 2 = b4 from HB4.out.symm] at hc2
      have HS2 := Lib.hid (HSi.out W2 hc2 (hwh2.at 0 _ rfl) (hwh2.at 1 _ rfl) hI2.mp)
      obtain ⟨v', W3, r1, r2, r3, r4⟩ := hI2.grpRun 23 (p := ⟨ps, pf⟩) (HOk.out _ hBel2) HPs.out HOlt.out (by unfold encPr; simp only [← HN1.out]; exact hrow) HPl.out hz2
      obtain ⟨W4, m1, m2, m3, m4⟩ := hI2.grpApp (p := ⟨ps, pf⟩) r3 r2 r4 HPs.out HPl.out hz2
      simp only at r1 r2 r3 m1 m2
      have hgb : ∀ j, (U ps).ownBlock = some j → H + 4 ≤ j := fun j hj => by
        obtain ⟨gs, g1, _⟩ := hI2.grp ps
        exact (g1.lt j hj).1
      have hwh3 : Whole W3 b5 _ _ := (r3.block b5 (Array.getElem?_eq_some_iff.1 hwh2).1 (fun e => HU5.out e.symm)).trans hwh2
      have hc3 : W3.cell? ⟨b4, 0, none⟩ = some (.map (some bm)) := by
        have h := (hI2.mbox.kept r3 fun e => by have := hgb _ e.symm; omega).cell
        rw [← HBm.out, show H + 2 = b4 from HB4.out.symm] at h
        exact h
      have hm3 := hI2.mp.kept r3 fun e => by have := hgb _ e.symm; omega
      have HS3 := Lib.hid (HSi.out W3 hc3 (hwh3.at 0 _ rfl) (hwh3.at 1 _ rfl) hm3)
      have hKB3 : KB H W W3 := by
        obtain ⟨gs, g1, _⟩ := hI2.grp ps
        exact hKB2.trans (kb_row r3 g1 (by omega))
      have HKB4 := Lib.hid (hKB3.trans m3)
      obtain ⟨D4, U4, hi4⟩ : ∃ D U, Inv H (o ++ [⟨ps, pf⟩]) o D U u W4 := ⟨_, _, m2⟩
      have HInv4 := Lib.hid hi4
      clear hi4
      have HBel4 := Lib.hid (HBel.out.trans (hKB3.trans m3).2.1)
      have hWh3 := hwh3
      have hne3 : b5 ≠ H + 1 := fun e => by
        obtain ⟨es, clock, hb, _⟩ := hm3
        rw [← e, show W3.heap[b5]? = _ from hwh3] at hb
        cases hb
      have hwh4 : Whole W4 b5 #[.string ps, .slice pA n1 pc] 26 := (m4.block b5 (Array.getElem?_eq_some_iff.1 hwh3).1 (fun e => hne3 (by injection e))).trans hwh3
      have hz4 : H + 4 ≤ W4.heap.size := Nat.le_trans (Nat.le_trans hz2 r3.size) m4.size
      have HWh4 := Lib.hid hwh4
      have HR1 := Lib.hid r1
      have HM1 := Lib.hid m1
      have HW2 := Lib.hid hW2
      clear hz2 hne3 hwh3 hWh3 hm3 hc3 hwh2 hc2 hI2 hBel2 hKB2 hKB3 hgb ha2 hnew hrow r1 r2 r3 r4 m1 m2 m3 m4 hW2 HInv1 HWh1 HBel1 HKB1 hz1
      refine RegM.GM_event (i := 8) rfl (by kernel_rfl) (by rfl) (fun K hK => ?_)
      go_simp
      rw [← HW2.out]
      refine hK _ _ HS2.out ?_
      clear hK K HW2
      refine RegM.GM_event (i := 9) rfl (by kernel_rfl) (by rfl) (fun K hK => ?_)
      refine op_append_run (.tmp 23) (.tmp 25) rfl rfl rfl HR1.out ?_
      refine hK _ _ HS3.out ?_
      clear hK K HR1
      simp only [Act.put, List.setIfInBounds_toArray, List.set_cons_zero, List.set_cons_succ]
      refine RegM.GM_last (i := 10) rfl (by kernel_rfl) (by rfl) (by kernel_rfl) (by kernel_rfl) (fun K hK => ?_)
      refine op_mapUpdate (.tmp 17) (.tmp 19) (.tmp 26) rfl rfl rfl rfl (by rw [HBm.out]; exact HM1.out) ?_
      refine hK _ _ ?_
      simp only [Act.put]
      clear hK K HM1 HS2 HS3 HSi HLk x4 x50 x51 hne5 S W2 W3
      gi_wp2
      refine RegI.GM_in (fun x => x.cell? ⟨H, 0, none⟩ = some u ∧ x.cell? ⟨b5, 0, none⟩ = some (.string ps) ∧ x.cell? ⟨b5, 1, none⟩ = some (.slice pA n1 pc)) (by kernel_rfl) (by kernel_rfl) (RegI.inBlock_no RegI.own_no) (Reg.frameless_inBlock RegI.frameless_own) (fun W5 hW5 => ?_) (fun W5 hW5 => ?_)
      · have hI := HInv4.out.below hW5
        have hwh := HWh4.out.below hW5
        exact ⟨hI.box.cell, hwh.at 0 _ rfl, hwh.at 1 _ rfl⟩
      have hI5 := HInv4.out.below hW5
      have hwh5 := HWh4.out.below hW5
      have HBel5 := Lib.hid (HBel4.out.trans (hW5.mono (by omega)))
      have hz5 : H + 4 ≤ W5.heap.size := Nat.le_trans hz4 hW5.size
      have HKB5 := Lib.hid (HKB4.out.trans (kb_below hW5 (by omega)))
      obtain ⟨S, hS⟩ : ∃ S : World → Prop, S = fun x => x.cell? ⟨H, 0, none⟩ = some u ∧ x.cell? ⟨b5, 0, none⟩ = some (.string ps) ∧ x.cell? ⟨b5, 1, none⟩ = some (.slice pA n1 pc) := ⟨_, rfl⟩
      have hso : ∀ x, S x → x.cell? ⟨H, 0, none⟩ = some u ∧ x.cell? ⟨b5, 0, none⟩ = some (.string ps) ∧ x.cell? ⟨b5, 1, none⟩ = some (.slice pA n1 pc) := fun x h => by rw [hS] at h; exact h
      have x3 : ∀ x : RegB.At S, x.world.cell? ⟨H, 0, none⟩ = some u := fun x => (hso _ x.ok).1
      have x50 : ∀ x : RegB.At S, x.world.cell? ⟨b5, 0, none⟩ = some (.string ps) := fun x => (hso _ x.ok).2.1
      have x51 : ∀ x : RegB.At S, x.world.cell? ⟨b5, 1, none⟩ = some (.slice pA n1 pc) := fun x => (hso _ x.ok).2.2
      have HSi := Lib.hid (show ∀ x, x.cell? ⟨H, 0, none⟩ = some u → x.cell? ⟨b5, 0, none⟩ = some (.string ps) → x.cell? ⟨b5, 1, none⟩ = some (.slice pA n1 pc) → S x from fun x h1 h2 h3 => by rw [hS]; exact ⟨h1, h2, h3⟩)
      rw [← hS]
      haveI hne5 : Nonempty (RegB.At S) := ⟨⟨W5, HSi.out W5 hI5.box.cell (hwh5.at 0 _ rfl) (hwh5.at 1 _ rfl)⟩⟩
      obtain ⟨Au, cu, hu, _⟩ := hI5.allSl
      obtain ⟨no, hno⟩ : ∃ n, n = o.length := ⟨_, rfl⟩
      rw [← hno] at hu
      have hcl := CloneO_any pf pA pc W5 (HOk.out _ HBel5.out) HPf.out
      rw [← HN1.out] at hcl
      have HCl := Lib.hid hcl
      have HInv5 := Lib.hid hI5
      have HWh5 := Lib.hid hwh5
      have HU := Lib.hid hu
      have HNo := Lib.hid hno
      clear hS hso hI5 hwh5 hW5 hu hno hcl HInv4 HWh4 HKB4 hz4
      refine RegM.GM_step (i := 0) 8 rfl (by kernel_rfl) (by kernel_rfl) (by rfl) (fun K hK => ?_); go_big_quiet_op; refine hK _ ?_; clear hK K
      refine RegM.GM_step (i := 1) 2 rfl (by kernel_rfl) (by kernel_rfl) (by rfl) (fun K hK => ?_); go_big_quiet_op; refine hK _ ?_; clear hK K
      refine RegM.GM_step (i := 2) 6 rfl (by kernel_rfl) (by kernel_rfl) (by rfl) (fun K hK => ?_); go_big_quiet_op; refine hK _ ?_; clear hK K
      refine RegM.GM_step (i := 3) 4 rfl (by kernel_rfl) (by kernel_rfl) (by rfl) (fun K hK => ?_); go_big_quiet_op; refine hK _ ?_; clear hK K
      refine RegM.GM_step (i := 4) 5 rfl (by kernel_rfl) (by kernel_rfl) (by rfl) (fun K hK => ?_); go_big_quiet_op; refine hK _ ?_; clear hK K
      clear x3 x50 x51
      refine RegM.GM_event (i := 5) rfl (by kernel_rfl) (by rfl) (fun K hK => ?_)
      go_simp
      refine HCl.out.mono ?_
      rintro e W6 ⟨A6, c6, rfl, hsl6, hbk6, hb6⟩
      have hI6 := HInv5.out.below hb6
      have hwh6 := HWh5.out.below hb6
      have HS6 := Lib.hid (HSi.out W6 hI6.box.cell (hwh6.at 0 _ rfl) (hwh6.at 1 _ rfl))
      refine hK _ _ HS6.out ?_
      clear hK K HCl
      -- the block of the new one
      have hz6 : H + 4 ≤ W6.heap.size := Nat.le_trans hz5 hb6.size
      have hKB6 := HKB5.out.trans (kb_below hb6 (by omega))
      have ha7 := below_pr W6 ps A6 n1 c6
      have hnew := RG.elem_new (K := KPr) (p := fun _ => True) W6 26 ⟨ps, pf⟩ (encPr ⟨ps, pf⟩ A6 c6) ⟨A6, c6, rfl, hsl6, HPs.out, fun _ _ _ => trivial⟩
      have hrow := hnew.1
      unfold encPr at hrow
      simp only [← HN1.out] at hrow
      obtain ⟨W7, hW7⟩ : ∃ W, W = W6.alloc (.cells #[.string ps, .slice A6 n1 c6] 26) := ⟨_, rfl⟩
      rw [show (List.toArray [Value.string ps, .slice A6 n1 c6]) = #[Value.string ps, .slice A6 n1 c6] from rfl, ← hW7] at hrow
      rw [← hW7] at ha7
      have hI7 := hI6.below ha7
      have hwh7 := hwh6.below ha7
      have hz7 : H + 4 ≤ W7.heap.size := Nat.le_trans hz6 ha7.size
      have hKB7 := hKB6.trans (kb_below ha7 (by omega))
      have HS7 := Lib.hid (HSi.out W7 hI7.box.cell (hwh7.at 0 _ rfl) (hwh7.at 1 _ rfl))
      have hpa : 0 < pf.length → ∀ a, A6 = some a → pAll H U4 u a.block := fun _ a ha => by
        have h1 := hbk6 a ha
        obtain ⟨vs, o1, _⟩ := HInv5.out.row
        refine ⟨⟨by omega, fun s e => ?_⟩, fun e => ?_⟩
        · obtain ⟨gs, g1, _⟩ := HInv5.out.grp s
          have := (g1.lt _ e.symm).2
          omega
        · have := (o1.lt _ e.symm).2
          omega
      obtain ⟨v8, W8, r1, r2, r3, r4, r5⟩ := hI7.allRun 23 (p := ⟨ps, pf⟩) (hsl6.kept ha7) HPs.out hpa (by unfold encPr; simp only [← HN1.out]; exact hrow) HPl.out hz7
      have hwh8 : Whole W8 b5 _ _ := (r4.block b5 (Array.getElem?_eq_some_iff.1 hwh7).1 (fun e => Hu5.out e.symm)).trans hwh7
      have HS8 := Lib.hid (HSi.out W8 r2.cell (hwh8.at 0 _ rfl) (hwh8.at 1 _ rfl))
      obtain ⟨A8, c8, hv8, _⟩ := r3.allSl
      obtain ⟨n8, hn8⟩ : ∃ n, n = (o ++ [(⟨ps, pf⟩ : Pr)]).length := ⟨_, rfl⟩
      rw [← hn8] at hv8
      have y0 := r2.cell
      have y1 := r2.frozen
      rw [hv8] at r1 r3 r5
      rw [HU.out] at y0
      have HR1 := Lib.hid r1
      have HR3 := Lib.hid r3
      have HKB8 := Lib.hid (hKB7.trans r5)
      have HW7 := Lib.hid hW7
      clear hz6 hKB6 ha7 hnew hrow hI7 hwh7 hz7 hKB7 hpa r1 r2 r3 r4 r5 hwh8 hv8 hn8 hW7 hI6 hwh6 hsl6 hbk6 hb6 HInv5 HWh5 HBel5 HKB5 hz5
      refine RegM.GM_event (i := 6) rfl (by kernel_rfl) (by rfl) (fun K hK => ?_)
      go_simp
      refine hK _ _ HS6.out ?_
      clear hK K
      refine RegM.GM_event (i := 7) rfl (by kernel_rfl) (by rfl) (fun K hK => ?_)
      go_simp
      rw [← HW7.out]
      refine hK _ _ HS7.out ?_
      clear hK K HW7
      refine RegM.GM_event (i := 8) rfl (by kernel_rfl) (by rfl) (fun K hK => ?_)
      refine op_append_run (.tmp 27) (.tmp 34) rfl rfl rfl HR1.out ?_
      refine hK _ _ HS8.out ?_
      clear hK K HR1
      simp only [Act.put, List.setIfInBounds_toArray, List.set_cons_zero, List.set_cons_succ]
      rw [HU.out]
      refine RegM.GM_last (i := 9) rfl (by kernel_rfl) (by rfl) (by kernel_rfl) (by kernel_rfl) (fun K hK => ?_)
      go_simp
      refine hK _ _ ?_
      clear hK K y0 y1 HS6 HS7 HS8 HSi hne5
      gi_wp2
      refine ⟨?_, HKB8.out.2, D4, U4, .slice A8 n8 c8, ?_, HBel.out.trans HKB8.out.2.1⟩
      · rw [HZ0.out]
        exact HKB8.out.1
      · rw [HNew.out, HPu.out]
        exact HR3.out
  case done =>
    rintro D ys W hD hys ⟨D', U, u, hinv, hbel⟩ hK
    rw [hys] at hinv
    have hg := grownBy_putObj' W D (.deferred none)
    have hI := hinv.turned hg fun j e => by
      injection e with e
      subst e
      exact ⟨by omega, _, hK, rfl⟩
    obtain ⟨A1, c1, hu, _⟩ := hinv.allSl
    obtain ⟨A2, c2, hu2, hsl⟩ := hI.allSl
    have hb : Below w.heap.size w (W.putObj D (.deferred none)) := hbel.grown hg hbel.size fun j e => by
      injection e with e
      omega
    have hsl1 : SlPr (W.putObj D (.deferred none)) A1 (all l) c1 := by
      rw [hu] at hu2
      injection hu2 with h1 _ h3
      rw [h1, h3]
      exact hsl
    have cb := hinv.box.cell
    have hul : u = .slice A1 (all l).length c1 := hu
    obtain ⟨ml, hml⟩ : ∃ n, n = (all l).length := ⟨_, rfl⟩
    rw [← hml] at hul
    have HMl := Lib.hid hml
    have HSl := Lib.hid hsl1
    have HB := Lib.hid hb
    have HK := Lib.hid hK
    subst hul
    clear hinv hbel hg hI hu hu2 hsl hb hsl1 hys hml hD hsz0 hb0 hst hK
    gi_wp2
    refine ⟨by simp, .inl ⟨_, _, rfl, run_takeDeferred HK.out, ?_⟩⟩
    refine ⟨_, results_tmp rfl _ _ _, ?_⟩
    exact ⟨A1, c1, by rw [HMl.out]; rfl, HSl.out, HB.out⟩
  case stop =>
    rintro D c' pre W hD _ h hK
    exact h.elim
end Go.Proofs.Ytochpomddfjkoaa.Ix

namespace Go.Proofs.Ytochpomddfjkoaa.Qy
open Go.RowKit Go.Proofs.Ytochpomddfjkoaa.BM Go.Proofs.Ytochpomddfjkoaa.VaM Go.Proofs.Ytochpomddfjkoaa.ExM Go.Proofs.Ytochpomddfjkoaa.QyM

/-- The example's step, and query. -/
def exX : St := ⟨⟨#[97]⟩, [], 1, 1, false, e0, []⟩
def exQ : Q := ⟨[exX], 0, 0, 0, 0⟩
end Go.Proofs.Ytochpomddfjkoaa.Qy

namespace Go.Proofs.Ytochpomddfjkoaa.Qy
open Go.RowKit Go.Proofs.Ytochpomddfjkoaa.BM Go.Proofs.Ytochpomddfjkoaa.LM Go.Proofs.Ytochpomddfjkoaa.LeM Go.Proofs.Ytochpomddfjkoaa.VaM Go.Proofs.Ytochpomddfjkoaa.ExM Go.Proofs.Ytochpomddfjkoaa.QyM
open Go.Proofs.Ytochpomddfjkoaa.Ex (SlO slO_none)
open Go.Proofs.Ytochpomddfjkoaa.Va (ret_v bx_new_t)

theorem slSt_one (w : World) : SlSt (w.alloc (.cells #[.string ⟨#[97]⟩, .slice none 0 0, .int .i64 1, .int .i64 1, .bool false, .string ⟨#[]⟩, .slice none 0 0] 47)) (some ⟨w.heap.size, 0, none⟩) [exX] 1 := by
  have hrel : KSt.rel (fun _ => True) w exX (encSt exX none 0 none 0) := ⟨none, 0, none, 0, rfl, slO_none _, slO_none _, ⟨⟨by unfold maxLen; decide, by unfold maxLen; decide⟩, ⟨by decide, by decide⟩, by decide, by decide⟩, (fun h => absurd h (by decide)), (fun h => absurd h (by decide))⟩
  have h := RG.elem_new w 47 exX (encSt exX none 0 none 0) hrel
  exact ⟨⟨_, h.1, h.2⟩, Nat.le_refl _, (fun e => by cases e), by unfold maxLen; decide⟩

set_option maxRecDepth 100000 in
set_option maxHeartbeats 1000000 in
theorem One_any (w : World) : Calls Try.prog 25 #[] w fun e w' => ∃ A, e = .returned (.agg #[.slice A 1 1, .int .i64 0, .int .i64 0, .int .i64 0, .int .i64 0]) ∧ SlSt w' A exQ.p 1 ∧ Below w.heap.size w w' := by
  obtain ⟨u1, hu1⟩ : ∃ u, u = w.alloc (.cells #[.slice (some ⟨w.heap.size + 1, 0, none⟩) 1 1, .int .i64 0, .int .i64 0, .int .i64 0, .int .i64 0] 45) := ⟨_, rfl⟩
  have hs1 : u1.heap.size = w.heap.size + 1 := by rw [hu1]; simp
  have hN0 := RG.bxN_new w 45 [.slice (some ⟨w.heap.size + 1, 0, none⟩) 1 1, .int .i64 0, .int .i64 0, .int .i64 0, .int .i64 0]
  have ha0 := (Below.refl w.heap.size w).alloc (Nat.le_refl _) (.cells #[.slice (some ⟨w.heap.size + 1, 0, none⟩) 1 1, .int .i64 0, .int .i64 0, .int .i64 0, .int .i64 0] 45)
  rw [show (List.toArray [Value.slice (some ⟨w.heap.size + 1, 0, none⟩) 1 1, .int .i64 0, .int .i64 0, .int .i64 0, .int .i64 0]) = #[Value.slice (some ⟨w.heap.size + 1, 0, none⟩) 1 1, .int .i64 0, .int .i64 0, .int .i64 0, .int .i64 0] from rfl, ← hu1] at hN0
  rw [← hu1] at ha0
  have ha1 := (Below.refl u1.heap.size u1).alloc (Nat.le_refl _) (.cells #[.string ⟨#[97]⟩, .slice none 0 0, .int .i64 1, .int .i64 1, .bool false, .string ⟨#[]⟩, .slice none 0 0] 47)
  have hS := slSt_one u1
  rw [hs1] at hS
  have HN := Lib.hid (RG.BxN.kept hN0 ha1)
  have HS := Lib.hid hS
  have HB := Lib.hid (bt ha0 ha1)
  have HU := Lib.hid hu1
  clear hN0 ha0 ha1 hS hu1 hs1
  go_enter Try.func25, Try.ntmps25
  go_wp2_with fail
  rw [← HU.out]
  obtain ⟨g0, g1, g2, g3, g4⟩ := bx5 HN.out
  exact bodyPost_ret (v := .agg #[.slice (some ⟨w.heap.size + 1, 0, none⟩) 1 1, .int .i64 0, .int .i64 0, .int .i64 0, .int .i64 0]) (by simp [results, Try.results25, go_sem, g0, g1, g2, g3, g4]) rfl ⟨_, rfl, HS.out, HB.out⟩
end Go.Proofs.Ytochpomddfjkoaa.Qy

namespace Go.Proofs.Ytochpomddfjkoaa.Ex
open Go.RowKit Go.Proofs.Ytochpomddfjkoaa.BM Go.Proofs.Ytochpomddfjkoaa.VaM Go.Proofs.Ytochpomddfjkoaa.Va Go.Proofs.Ytochpomddfjkoaa.ExM Go.Proofs.Ytochpomddfjkoaa.EvM

/-- Whether a part may be, by its questions one by one. -/
theorem ok_iff {x : O} {b1 b2 b3 b4 b5 b6 b7 b8 b9 : Bool} (g1 : decide (x.c < 0) = b1) (g2 : decide (10 ≤ x.c) = b2) (g3 : decide (x.a < 0) = b3) (g4 : decide (6 ≤ x.a) = b4) (g5 : (x.c != 1) = b5) (g6 : (x.a != 0) = b6) (g7 : decide (VaM.May x.v) = b7) (g8 : (x.c != 0) = b8) (g9 : (!same x.v v0) = b9) :
    Ok x ↔ b1 = false ∧ b2 = false ∧ b3 = false ∧ b4 = false ∧ (b5 = false ∨ b6 = false) ∧ b7 = true ∧ (b8 = false ∨ b9 = false) := by
  subst g1 g2 g3 g4 g5 g6 g7 g8 g9
  have h9 : (!same x.v v0) = false ↔ x.v = v0 := by rw [Bool.not_eq_false', same_iff]
  unfold Ok
  rw [h9]
  simp only [decide_eq_false_iff_not, decide_eq_true_iff, bne_eq_false_iff_eq]
  constructor
  · rintro ⟨h1, h2, h3, h4, h5, h6, h7⟩
    exact ⟨by omega, by omega, by omega, by omega, h5, h6, h7⟩
  · rintro ⟨h1, h2, h3, h4, h5, h6, h7⟩
    exact ⟨by omega, by omega, by omega, by omega, h5, h6, h7⟩

theorem okWays (b1 b2 b3 b4 b5 b6 b7 b8 b9 : Bool) :
    (b1 = true ∨ (b1 = false ∧ b2 = true) ∨ (b1 = false ∧ b2 = false ∧ b3 = true) ∨ (b1 = false ∧ b2 = false ∧ b3 = false ∧ b4 = true) ∨
      (b1 = false ∧ b2 = false ∧ b3 = false ∧ b4 = false ∧ b5 = true ∧ b6 = true) ∨
      (b1 = false ∧ b2 = false ∧ b3 = false ∧ b4 = false ∧ b5 = false ∧ b7 = false) ∨
      (b1 = false ∧ b2 = false ∧ b3 = false ∧ b4 = false ∧ b5 = true ∧ b6 = false ∧ b7 = false) ∨
      (b1 = false ∧ b2 = false ∧ b3 = false ∧ b4 = false ∧ b5 = false ∧ b7 = true ∧ b8 = true ∧ b9 = true) ∨
      (b1 = false ∧ b2 = false ∧ b3 = false ∧ b4 = false ∧ b5 = true ∧ b6 = false ∧ b7 = true ∧ b8 = true ∧ b9 = true)) ∨
    ((b1 = false ∧ b2 = false ∧ b3 = false ∧ b4 = false ∧ b5 = false ∧ b7 = true ∧ b8 = false) ∨
      (b1 = false ∧ b2 = false ∧ b3 = false ∧ b4 = false ∧ b5 = false ∧ b7 = true ∧ b8 = true ∧ b9 = false) ∨
      (b1 = false ∧ b2 = false ∧ b3 = false ∧ b4 = false ∧ b5 = true ∧ b6 = false ∧ b7 = true ∧ b8 = false) ∨
      (b1 = false ∧ b2 = false ∧ b3 = false ∧ b4 = false ∧ b5 = true ∧ b6 = false ∧ b7 = true ∧ b8 = true ∧ b9 = false)) := by
  cases b1 <;> cases b2 <;> cases b3 <;> cases b4 <;> cases b5 <;> cases b6 <;> cases b7 <;> cases b8 <;> cases b9 <;> simp

set_option maxRecDepth 100000 in
set_option maxHeartbeats 8000000 in
theorem refMay_any (l : List O) (A : Option Addr) (c : Nat) (w : World) (hS : SlO w A l c) :
    Calls Try.prog 42 #[.slice A l.length c] w fun e w' => e = .returned (.bool (decide (May l))) ∧ Below w.heap.size w w' := by
  have hl := slO_len hS
  have hmay : May l ↔ (∀ i, i < l.length → Ok (l.getD i o0)) ∧ l.length ≤ 12 := Iff.rfl
  obtain ⟨n, hn⟩ : ∃ n, n = l.length := ⟨_, rfl⟩
  rw [← hn] at hl hmay ⊢
  have HLen := Lib.hid hn
  have HS := Lib.hid hS
  have HMay := Lib.hid hmay
  clear hn hS hmay
  go_enter Try.func42, Try.ntmps42
  go_wp2_with fail
  go_loopw [3] (fun i wr => ∃ j : Nat, i = .int .i64 j ∧ j ≤ n ∧ (∀ r, r < j → Ok (l.getD r o0)) ∧ Below w.heap.size w wr) (fun i _ => n - (intOf i).toNat)
  case atStart => exact ⟨0, rfl, Nat.zero_le _, fun r hr => absurd hr (Nat.not_lt_zero r), Below.refl _ _⟩
  case round =>
    obtain ⟨j, rfl, hj, hall, hbel⟩ := hrel
    have HAl := Lib.hid hall
    have HBl := Lib.hid hbel
    clear hall hbel
    by_cases hjn : j < n
    · obtain ⟨b, q, hix, hc, _⟩ := HS.out.at j (by rw [← HLen.out]; exact hjn)
      obtain ⟨f, hf⟩ : ∃ f, f = l.getD j o0 := ⟨_, rfl⟩
      rw [← hf] at hc
      obtain ⟨x0, x1, x2, x3, x4⟩ := hc wr HBl.out
      have hi := fun W => hix W n c hjn
      have HF := Lib.hid hf
      clear hc hix hf
      have ha := (Below.refl wr.heap.size wr).alloc (Nat.le_refl _) (.cells #[.int .i64 f.c, .int .i64 f.a, .int .i64 f.v.k, .int .i64 f.v.n, .string f.v.s] 57)
      have hx2 := bxO_new wr f
      have hneq := fun W => neq_v f.v.k f.v.n 0 0 f.v.s ⟨#[]⟩ W
      obtain ⟨b1, g1⟩ : ∃ b, decide (f.c < 0) = b := ⟨_, rfl⟩
      obtain ⟨b2, g2⟩ : ∃ b, decide (10 ≤ f.c) = b := ⟨_, rfl⟩
      obtain ⟨b3, g3⟩ : ∃ b, decide (f.a < 0) = b := ⟨_, rfl⟩
      obtain ⟨b4, g4⟩ : ∃ b, decide (6 ≤ f.a) = b := ⟨_, rfl⟩
      obtain ⟨b5, g5⟩ : ∃ b, (f.c != 1) = b := ⟨_, rfl⟩
      obtain ⟨b6, g6⟩ : ∃ b, (f.a != 0) = b := ⟨_, rfl⟩
      obtain ⟨b7, g7⟩ : ∃ b, decide (VaM.May f.v) = b := ⟨_, rfl⟩
      obtain ⟨b8, g8⟩ : ∃ b, (f.c != 0) = b := ⟨_, rfl⟩
      obtain ⟨b9, g9⟩ : ∃ b, (!same f.v v0) = b := ⟨_, rfl⟩
      have HOk := Lib.hid (ok_iff g1 g2 g3 g4 g5 g6 g7 g8 g9)
      have hm := fun W => Va.refMay_any f.v.k f.v.n f.v.s W
      obtain ⟨fc, fa, fk, fn, fs⟩ := f
      simp only at x0 x1 x2 x3 x4 hneq g1 g2 g3 g4 g5 g6 g7 g8 g9 hm
      simp only [g7] at hm
      have h9 : (!same (⟨fk, fn, fs⟩ : V) ⟨0, 0, ⟨#[]⟩⟩) = b9 := g9
      simp only [h9] at hneq
      have HX2 := Lib.hid hx2
      have HB2 := Lib.hid (bt HBl.out ha)
      have HM := Lib.hid hm
      have G1 := Lib.hid g1
      have G2 := Lib.hid g2
      have G3 := Lib.hid g3
      have G4 := Lib.hid g4
      have G5 := Lib.hid g5
      have G6 := Lib.hid g6
      have G8 := Lib.hid g8
      have HNq := Lib.hid hneq
      clear ha hm hx2 g1 g2 g3 g4 g5 g6 g7 g8 g9 h9 hneq
      obtain ⟨p0, p1, p2, p3, p4⟩ := HX2.out.cells
      simp only at p0 p1 p2 p3 p4
      go_wp2_with fail
      obtain ⟨w2, hw2⟩ : ∃ w2, w2 = wr.alloc (.cells #[.int .i64 fc, .int .i64 fa, .int .i64 fk, .int .i64 fn, .string fs] 57) := ⟨_, rfl⟩
      obtain ⟨g, hg⟩ : ∃ g, g = wr.heap.size := ⟨_, rfl⟩
      rw [← hw2] at HX2 HB2 ⊢
      rw [← hg] at HX2 ⊢
      clear hw2 hg x0 x1 x2 x3 x4 p0 p1 p2 p3 p4
      refine (HM.out w2).mono ?_
      rintro e w3 ⟨rfl, hb3⟩
      have HB3 := Lib.hid (bt HB2.out hb3)
      have HX3 := Lib.hid (HX2.out.kept hb3)
      clear hb3 HB2 HX2 HM
      obtain ⟨p0, p1, p2, p3, p4⟩ := HX3.out.cells
      simp only at p0 p1 p2 p3 p4
      have g1 := G1.out
      have g2 := G2.out
      have g3 := G3.out
      have g4 := G4.out
      have g5 := G5.out
      have g6 := G6.out
      have g8 := G8.out
      have hneq := HNq.out
      clear G1 G2 G3 G4 G5 G6 G8 HNq
      rcases okWays b1 b2 b3 b4 b5 b6 b7 b8 b9 with h | h
      · have HNo := Lib.hid (show ¬ May l from fun k => by
          have h1 := (HMay.out.1 k).1 j hjn
          rw [← HF.out] at h1
          obtain ⟨k1, k2, k3, k4, k5, k6, k7⟩ := HOk.out.1 h1
          revert h
          subst k1 k2 k3 k4 k6
          rcases k5 with rfl | rfl <;> rcases k7 with rfl | rfl <;> simp)
        clear HOk
        rcases h with rfl | ⟨rfl, rfl⟩ | ⟨rfl, rfl, rfl⟩ | ⟨rfl, rfl, rfl, rfl⟩ | ⟨rfl, rfl, rfl, rfl, rfl, rfl⟩ | ⟨rfl, rfl, rfl, rfl, rfl, rfl⟩ | ⟨rfl, rfl, rfl, rfl, rfl, rfl, rfl⟩ | ⟨rfl, rfl, rfl, rfl, rfl, rfl, rfl, rfl⟩ | ⟨rfl, rfl, rfl, rfl, rfl, rfl, rfl, rfl, rfl⟩
        all_goals
          go_wp2_with fail
          go_ret
          exact ⟨ret_v (x := .bool false) (by rw [decide_eq_false HNo.out]), HB3.out⟩
      · have HY := Lib.hid (show Ok ⟨fc, fa, fk, fn, fs⟩ from HOk.out.2 (by rcases h with ⟨rfl, rfl, rfl, rfl, rfl, rfl, rfl⟩ | ⟨rfl, rfl, rfl, rfl, rfl, rfl, rfl, rfl⟩ | ⟨rfl, rfl, rfl, rfl, rfl, rfl, rfl, rfl⟩ | ⟨rfl, rfl, rfl, rfl, rfl, rfl, rfl, rfl, rfl⟩ <;> simp))
        have HGo := Lib.hid (show ∀ r, r < j + 1 → Ok (l.getD r o0) from fun r hr => by
          by_cases e : r = j
          · rw [e, ← HF.out]
            exact HY.out
          · exact HAl.out r (by omega))
        clear HOk HY
        rcases h with ⟨rfl, rfl, rfl, rfl, rfl, rfl, rfl⟩ | ⟨rfl, rfl, rfl, rfl, rfl, rfl, rfl, rfl⟩ | ⟨rfl, rfl, rfl, rfl, rfl, rfl, rfl, rfl⟩ | ⟨rfl, rfl, rfl, rfl, rfl, rfl, rfl, rfl, rfl⟩
        all_goals
          go_wp2_with fail
          go_roundw
          case rel => exact ⟨j + 1, by go_num, by omega, HGo.out, HB3.out⟩
          case measure => simp [intOf]; omega
    · obtain rfl : j = n := by omega
      by_cases h12 : j ≤ 12
      · have hd : decide ((j : Int) ≤ 12) = true := by rw [decide_eq_true_iff]; omega
        have HY := Lib.hid (HMay.out.2 ⟨HAl.out, h12⟩)
        clear h12
        go_wp2_with fail
        go_ret
        exact ⟨ret_v (x := .bool true) (by rw [decide_eq_true HY.out]), HBl.out⟩
      · have hd : decide ((j : Int) ≤ 12) = false := by rw [decide_eq_false_iff_not]; omega
        have HNo := Lib.hid (show ¬ May l from fun h => h12 (HMay.out.1 h).2)
        clear h12
        go_wp2_with fail
        go_ret
        exact ⟨ret_v (x := .bool false) (by rw [decide_eq_false HNo.out]), HBl.out⟩
end Go.Proofs.Ytochpomddfjkoaa.Ex

namespace Go.Proofs.Ytochpomddfjkoaa.Sc
open Go.RowKit Go.Proofs.Ytochpomddfjkoaa.BM Go.Proofs.Ytochpomddfjkoaa.VaM Go.Proofs.Ytochpomddfjkoaa.Va Go.Proofs.Ytochpomddfjkoaa.ScM

/-- The order of the document's answers: byte by byte. -/
theorem refOk {x : Int} : (smallB x = true ↔ 97 ≤ x ∧ x ≤ 122) ∧ (behB x = true ↔ x = 95 ∨ (48 ≤ x ∧ x ≤ 57)) := by
  simp [smallB, behB]

set_option maxRecDepth 100000 in
theorem refName_any (s : ByteArray) (w : World) (hs : s.size ≤ maxLen) : Calls Try.prog 50 #[.string s] w fun e w' => e = .returned (.bool (decide (Nm s))) ∧ w = w' := by
  unfold maxLen at hs
  go_enter Try.func50, Try.ntmps50
  go_wp2_with fail
  go_loop [3] (fun i => ∃ pos : Nat, i = .int .i64 pos ∧ pos ≤ s.size ∧ okPre (bl s) pos) (fun i => s.size - (intOf i).toNat)
  case atStart => exact ⟨0, rfl, Nat.zero_le _, fun j hj => absurd hj (Nat.not_lt_zero j)⟩
  case round =>
    obtain ⟨pos, rfl, hpos, hpre⟩ := hrel
    have HPre := Lib.hid hpre
    clear hpre
    by_cases hp : pos < s.size
    · have hix := fun W => index_s s pos hp W
      obtain ⟨x, hx⟩ : ∃ x, x = (bl s).getD pos 0 := ⟨_, rfl⟩
      rw [← hx] at hix
      have no : ¬ (97 ≤ x ∧ x ≤ 122) → (pos = 0 ∨ ¬ (x = 95 ∨ (48 ≤ x ∧ x ≤ 57))) → ¬ Nm s := fun h1 h2 hn => by
        have h := hn.2.2 pos (by rw [bl_len]; exact hp)
        unfold okAt at h
        rw [← hx, refOk.1, refOk.2] at h
        rcases h with h | ⟨h3, h4⟩
        · exact h1 h
        · rcases h2 with h2 | h2
          · exact h3 h2
          · exact h2 h4
      have yes : ((97 ≤ x ∧ x ≤ 122) ∨ (pos ≠ 0 ∧ (x = 95 ∨ (48 ≤ x ∧ x ≤ 57)))) → okPre (bl s) (pos + 1) := fun h => okPre_succ HPre.out (by unfold okAt; rw [← hx, refOk.1, refOk.2]; exact h)
      have HNo := Lib.hid no
      have HYes := Lib.hid yes
      clear no yes hx
      have hways : (97 ≤ x ∧ x ≤ 122) ∨ (x < 97 ∧ pos = 0) ∨ (122 < x ∧ pos = 0) ∨ (122 < x ∧ pos ≠ 0) ∨ (x = 95 ∧ pos ≠ 0) ∨ (x < 48 ∧ pos ≠ 0) ∨ (57 < x ∧ x < 97 ∧ x ≠ 95 ∧ pos ≠ 0) ∨ (48 ≤ x ∧ x ≤ 57 ∧ pos ≠ 0) := by omega
      rcases hways with ⟨h1, h2⟩ | ⟨h1, h2⟩ | ⟨h1, h2⟩ | ⟨h1, h2⟩ | ⟨rfl, h2⟩ | ⟨h1, h2⟩ | ⟨h1, h2, h3, h4⟩ | ⟨h1, h2, h3⟩
      · go_wp2_with fail
        go_round
        case rel => exact ⟨pos + 1, by go_num, by omega, HYes.out (Or.inl ⟨h1, h2⟩)⟩
        case measure => simp [intOf]; omega
      · have hz : ((pos : Int) == 0) = true := by rw [beq_iff_eq]; omega
        have H2 := Lib.hid h2
        clear h2
        go_wp2_with fail
        go_ret
        exact ⟨ret_v (x := .bool false) (by rw [decide_eq_false (HNo.out (by omega) (Or.inl H2.out))]), rfl⟩
      · have hz : ((pos : Int) == 0) = true := by rw [beq_iff_eq]; omega
        have h97 : 97 ≤ x := by omega
        have hd : decide (x ≤ 122) = false := by rw [decide_eq_false_iff_not]; omega
        have H2 := Lib.hid h2
        clear h2
        go_wp2_with fail
        go_ret
        exact ⟨ret_v (x := .bool false) (by rw [decide_eq_false (HNo.out (by omega) (Or.inl H2.out))]), rfl⟩
      · have hz : ((pos : Int) == 0) = false := by rw [beq_eq_false_iff_ne]; omega
        have hn : (x != 95) = true := by rw [bne_iff_ne]; omega
        have h3 : 97 ≤ x := by omega
        have h4 : 57 < x := by omega
        have h5 : 48 ≤ x := by omega
        have hd : decide (x ≤ 122) = false := by rw [decide_eq_false_iff_not]; omega
        go_wp2_with fail
        go_ret
        exact ⟨ret_v (x := .bool false) (by rw [decide_eq_false (HNo.out (by omega) (Or.inr (by omega)))]), rfl⟩
      · have hz : ((pos : Int) == 0) = false := by rw [beq_eq_false_iff_ne]; omega
        go_wp2_with fail
        go_round
        case rel => exact ⟨pos + 1, by go_num, by omega, HYes.out (Or.inr ⟨h2, Or.inl rfl⟩)⟩
        case measure => simp [intOf]; omega
      · have hz : ((pos : Int) == 0) = false := by rw [beq_eq_false_iff_ne]; omega
        have hn : (x != 95) = true := by rw [bne_iff_ne]; omega
        go_wp2_with fail
        go_ret
        exact ⟨ret_v (x := .bool false) (by rw [decide_eq_false (HNo.out (by omega) (Or.inr (by omega)))]), rfl⟩
      · have hz : ((pos : Int) == 0) = false := by rw [beq_eq_false_iff_ne]; omega
        have hn : (x != 95) = true := by rw [bne_iff_ne]; omega
        go_wp2_with fail
        go_ret
        exact ⟨ret_v (x := .bool false) (by rw [decide_eq_false (HNo.out (by omega) (Or.inr (by omega)))]), rfl⟩
      · have hz : ((pos : Int) == 0) = false := by rw [beq_eq_false_iff_ne]; omega
        have hn : (x != 95) = true := by rw [bne_iff_ne]; omega
        go_wp2_with fail
        go_round
        case rel => exact ⟨pos + 1, by go_num, by omega, HYes.out (Or.inr ⟨h3, Or.inr ⟨h1, h2⟩⟩)⟩
        case measure => simp [intOf]; omega
    · obtain rfl : pos = s.size := by omega
      by_cases h0 : s.size = 0
      · obtain rfl := size_e0.1 h0
        go_wp2_with fail
        go_ret
        exact ⟨ret_v (x := .bool false) (by rw [decide_eq_false (fun h => by have := (nm_size h).1; rw [e0_size] at this; omega)]), rfl⟩
      · have hd : decide (Nm s) = decide ((s.size : Int) ≤ 12) := by
          rw [decide_eq_decide]
          exact ⟨fun h => by have := (nm_size h).2; omega, fun h => ⟨by rw [bl_len]; omega, by rw [bl_len]; omega, by rw [bl_len]; exact HPre.out⟩⟩
        have HD := Lib.hid hd
        clear hd
        go_wp2_with fail
        go_ret
        exact ⟨ret_v (x := .bool (decide ((s.size : Int) ≤ 12))) (by rw [HD.out]), rfl⟩
end Go.Proofs.Ytochpomddfjkoaa.Sc

namespace Go.Proofs.Ytochpomddfjkoaa.Sc
open Go.RowKit Go.Proofs.Ytochpomddfjkoaa.BM Go.Proofs.Ytochpomddfjkoaa.VaM Go.Proofs.Ytochpomddfjkoaa.Va Go.Proofs.Ytochpomddfjkoaa.ScM

theorem letter_any (c : Int) (w : World) : Calls Try.prog 53 #[.int .i32 c] w fun e w' => e = .returned (.bool (smallB c)) ∧ w = w' := by
  by_cases h1 : 97 ≤ c <;> by_cases h2 : c ≤ 122
  all_goals
    go_enter Try.func53, Try.ntmps53
    go_wp2_with fail
    go_ret
    exact ⟨ret_v (by simp [smallB, h1, h2]), rfl⟩

theorem beh_any (c : Int) (w : World) : Calls Try.prog 54 #[.int .i32 c] w fun e w' => e = .returned (.bool (behB c)) ∧ w = w' := by
  by_cases h0 : c = 95
  · subst h0
    go_enter Try.func54, Try.ntmps54
    go_wp2_with fail
    go_ret
    exact ⟨ret_v (by simp [behB]), rfl⟩
  · have hb : (c == 95) = false := by simpa using h0
    by_cases h1 : 48 ≤ c <;> by_cases h2 : c ≤ 57
    all_goals
      go_enter Try.func54, Try.ntmps54
      go_wp2_with fail
      go_ret
      exact ⟨ret_v (by simp [behB, h0, h1, h2]), rfl⟩

/-- A sign of more bytes than one. -/
theorem high_no {x : Int} (h : 128 ≤ x) : smallB x = false ∧ behB x = false := by
  have h1 : ¬ x ≤ 122 := by omega
  have h2 : ¬ x ≤ 57 := by omega
  have h3 : ¬ x = 95 := by omega
  simp [smallB, behB, h1, h2, h3]

theorem byte_at (s : ByteArray) (pos : Nat) (h : pos < s.size) : (bl s).getD pos 0 = ((s[pos]'h).toNat : Int) := by
  have hl : pos < (bl s).length := by rw [bl_len]; exact h
  rw [List.getD_eq_getElem?_getD, List.getElem?_eq_getElem hl, Option.getD_some]
  simp only [bl, List.getElem_map, Array.getElem_toList]
  rfl

set_option maxRecDepth 100000 in
theorem Name_any (s : ByteArray) (w : World) (hs : s.size ≤ maxLen) : Calls Try.prog 46 #[.string s] w fun e w' => e = .returned (.bool (decide (Nm s))) ∧ Below w.heap.size w w' := by
  unfold maxLen at hs
  by_cases h12 : s.size ≤ 12
  · go_enter Try.func46, Try.ntmps46
    go_wp2_with fail
    go_loopw [10] (fun _ wr => ∃ pos : Nat, wr = w.iter s pos ∧ pos ≤ s.size ∧ okPre (bl s) pos) (fun _ wr => s.size - wr.iterPos w.heap.size)
    case atStart => exact ⟨0, rfl, Nat.zero_le _, fun j hj => absurd hj (Nat.not_lt_zero j)⟩
    case round =>
      obtain ⟨pos, rfl, hpos, hpre⟩ := hrel
      have HPre := Lib.hid hpre
      clear hpre
      by_cases hp : pos < s.size
      · obtain ⟨x, hx⟩ : ∃ x, x = (bl s).getD pos 0 := ⟨_, rfl⟩
        have hxb := byte_at s pos hp
        rw [← hx] at hxb
        have no : smallB x = false → (pos = 0 ∨ behB x = false) → ¬ Nm s := fun h1 h2 hn => by
          have h := hn.2.2 pos (by rw [bl_len]; exact hp)
          unfold okAt at h
          rw [← hx, h1] at h
          rcases h with h | ⟨h3, h4⟩
          · cases h
          · rcases h2 with h2 | h2
            · exact h3 h2
            · rw [h2] at h4
              cases h4
        have yes : (smallB x = true ∨ (pos ≠ 0 ∧ behB x = true)) → okPre (bl s) (pos + 1) := fun h => okPre_succ HPre.out (by unfold okAt; rw [← hx]; exact h)
        have HNo := Lib.hid no
        have HYes := Lib.hid yes
        clear no yes
        by_cases ha : (s[pos]'hp).toNat < 128
        · have hnx : ∀ ty, (Instr.next (.pointer (some ⟨w.heap.size, 0, none⟩)) true ty).run Try.prog (w.iter s pos) = .ok (.tuple #[.bool true, .int .i64 pos, .int .i32 x]) (w.iter s (pos + 1)) := fun ty => by
            rw [hxb]
            exact run_next_ascii w s pos ty hp ha
          have HL := Lib.hid (fun W => letter_any x W)
          have HBh := Lib.hid (fun W => beh_any x W)
          obtain ⟨S, hS⟩ : ∃ S, S = smallB x := ⟨_, rfl⟩
          obtain ⟨T, hT⟩ : ∃ T, T = behB x := ⟨_, rfl⟩
          rw [← hS] at HL HNo HYes
          rw [← hT] at HBh HNo HYes
          clear hx hxb hS hT ha
          go_wp2_with fail
          refine (HL.out _).mono ?_
          rintro e w1 ⟨rfl, rfl⟩
          cases S
          · by_cases h0 : pos = 0
            · subst h0
              go_wp2_with fail
              go_ret
              exact ⟨ret_v (x := .bool false) (by rw [decide_eq_false (HNo.out (by trivial) (Or.inl (by trivial)))]), (Below.refl _ _).alloc (Nat.le_refl _) _⟩
            · have hz : ((pos : Int) == 0) = false := by rw [beq_eq_false_iff_ne]; omega
              go_wp2_with fail
              refine (HBh.out _).mono ?_
              rintro e w1 ⟨rfl, rfl⟩
              cases T
              · go_wp2_with fail
                go_ret
                exact ⟨ret_v (x := .bool false) (by rw [decide_eq_false (HNo.out (by trivial) (Or.inr (by trivial)))]), (Below.refl _ _).alloc (Nat.le_refl _) _⟩
              · go_wp2_with fail
                go_roundw
                case rel => exact ⟨pos + 1, rfl, by omega, HYes.out (Or.inr ⟨h0, by trivial⟩)⟩
                case measure => simp; omega
          · go_wp2_with fail
            go_roundw
            case rel => exact ⟨pos + 1, rfl, by omega, HYes.out (Or.inl (by trivial))⟩
            case measure => simp; omega
        · have hdh := decode_high s pos hp (by omega)
          have hxh := high_no (x := x) (by omega)
          have hnx : ∀ ty, (Instr.next (.pointer (some ⟨w.heap.size, 0, none⟩)) true ty).run Try.prog (w.iter s pos) = _ := fun ty => run_next_any w s pos ty hp
          obtain ⟨d, hd⟩ : ∃ d, d = (Utf8.decode s pos).1 := ⟨_, rfl⟩
          obtain ⟨e, he⟩ : ∃ e, e = (Utf8.decode s pos).2 := ⟨_, rfl⟩
          simp only [← hd, ← he] at hnx hdh
          have hdn := high_no (x := (d : Int)) (by omega)
          have HL := Lib.hid (fun W => letter_any (d : Int) W)
          have HBh := Lib.hid (fun W => beh_any (d : Int) W)
          rw [hdn.1] at HL
          rw [hdn.2] at HBh
          have HX := Lib.hid hxh
          clear hx hxb ha hdh hxh hdn hd he
          go_wp2_with fail
          refine (HL.out _).mono ?_
          rintro e w1 ⟨rfl, rfl⟩
          by_cases h0 : pos = 0
          · subst h0
            go_wp2_with fail
            go_ret
            exact ⟨ret_v (x := .bool false) (by rw [decide_eq_false (HNo.out HX.out.1 (Or.inl (by trivial)))]), (Below.refl _ _).alloc (Nat.le_refl _) _⟩
          · have hz : ((pos : Int) == 0) = false := by rw [beq_eq_false_iff_ne]; omega
            go_wp2_with fail
            refine (HBh.out _).mono ?_
            rintro e w1 ⟨rfl, rfl⟩
            go_wp2_with fail
            go_ret
            exact ⟨ret_v (x := .bool false) (by rw [decide_eq_false (HNo.out HX.out.1 (Or.inr HX.out.2))]), (Below.refl _ _).alloc (Nat.le_refl _) _⟩
      · obtain rfl : pos = s.size := by omega
        have hnx : ∀ ty, (Instr.next (.pointer (some ⟨w.heap.size, 0, none⟩)) true ty).run Try.prog (w.iter s s.size) = _ := fun ty => run_next_end w s s.size ty hp
        by_cases h0 : s.size = 0
        · rw [h0] at hnx
          obtain rfl : s = ⟨#[]⟩ := size_e0.1 h0
          have he : (ByteArray.mk #[]).toList.isEmpty = true := by rw [ByteArray.toList_eq]; rfl
          go_wp2_with fail
          go_ret
          exact ⟨ret_v (x := .bool false) (by rw [decide_eq_false (fun h => by have := (nm_size h).1; omega)]), (Below.refl _ _).alloc (Nat.le_refl _) _⟩
        · have hse := str_e0 h0
          have HN := Lib.hid (show Nm s from ⟨by rw [bl_len]; omega, by rw [bl_len]; omega, by rw [bl_len]; exact HPre.out⟩)
          go_wp2_with fail
          go_ret
          exact ⟨ret_v (x := .bool true) (by rw [decide_eq_true HN.out]), (Below.refl _ _).alloc (Nat.le_refl _) _⟩
  · have HN := Lib.hid (show ¬ Nm s from fun h => by have := (nm_size h).2; omega)
    go_enter Try.func46, Try.ntmps46
    go_wp2_with fail
    go_ret
    exact ⟨ret_v (x := .bool false) (by rw [decide_eq_false HN.out]), Below.refl _ _⟩

end Go.Proofs.Ytochpomddfjkoaa.Sc

namespace Go.Proofs.Ytochpomddfjkoaa.Ev
open Go.RowKit Go.Proofs.Ytochpomddfjkoaa.BM Go.Proofs.Ytochpomddfjkoaa.LM Go.Proofs.Ytochpomddfjkoaa.LeM Go.Proofs.Ytochpomddfjkoaa.EvM
open Go.Proofs.Ytochpomddfjkoaa.VaM (V Rng e0)
open Go.Proofs.Ytochpomddfjkoaa.Va (Bx Bx2 bx_new_t bx2_new ret_v SlV slV_len slV_none SlV.kept SlV.at SlV.take CellV)
open Go.Proofs.Ytochpomddfjkoaa.ScM (Nm)

/-- What is asked of an event's own parts. -/
def Fine (e : Ev) : Prop := e.s.size ≤ maxLen ∧ -9223372036854775808 ≤ e.t ∧ e.t ≤ 9223372036854775807

theorem may_ways (nm : ByteArray) (t : Int) (n : Nat) : ¬ Nm nm ∨ (Nm nm ∧ t < 0) ∨ (Nm nm ∧ 0 ≤ t ∧ 1125899906842624 < t) ∨ (Nm nm ∧ 0 ≤ t ∧ t ≤ 1125899906842624 ∧ 6 < n) ∨ (Nm nm ∧ 0 ≤ t ∧ t ≤ 1125899906842624 ∧ n ≤ 6) := by
  by_cases h : Nm nm
  · simp only [h, true_and, not_true, false_or]
    omega
  · exact Or.inl h

set_option maxRecDepth 100000 in
set_option maxHeartbeats 2000000 in
theorem May_any (e : Ev) (A : Option Addr) (c : Nat) (w : World) (hS : SlV w A e.v c) (hz : Fine e) :
    Calls Try.prog 40 #[.agg #[.string e.s, .int .i64 e.t, .slice A e.v.length c]] w fun r w' => r = .returned (.bool (decide (May e))) ∧ Below w.heap.size w w' := by
  obtain ⟨nm, t, l⟩ := e
  simp only at hS ⊢
  have hl := slV_len hS
  have HN := Lib.hid (fun W => Sc.Name_any nm W hz.1)
  have hmay : May ⟨nm, t, l⟩ ↔ Nm nm ∧ 0 ≤ t ∧ t ≤ 1125899906842624 ∧ l.length ≤ 6 ∧ VGd l l.length := Iff.rfl
  obtain ⟨n, hn⟩ : ∃ n, n = l.length := ⟨_, rfl⟩
  rw [← hn] at hl hmay ⊢
  have HLen := Lib.hid hn
  have HS := Lib.hid hS
  have HMay := Lib.hid hmay
  have HX0 := Lib.hid (bx_new_t w 29 (.string nm) (.int .i64 t) (.slice A n c))
  have HB0 := Lib.hid ((Below.refl w.heap.size w).alloc (Nat.le_refl _) (.cells #[.string nm, .int .i64 t, .slice A n c] 29))
  clear hn hS hmay hz
  obtain ⟨⟨p0, p1, p2⟩, _⟩ := HX0.out
  go_enter Try.func40, Try.ntmps40
  go_wp2_with fail
  refine (HN.out _).mono ?_
  rintro e w1 ⟨rfl, hb1⟩
  have HX1 := Lib.hid (HX0.out.kept hb1)
  have HB1 := Lib.hid (bt HB0.out hb1)
  clear hb1 HX0 HB0 HN p0 p1 p2
  obtain ⟨⟨p0, p1, p2⟩, _⟩ := HX1.out
  rcases may_ways nm t n with m1 | ⟨m1, m2⟩ | ⟨m1, m2, m3⟩ | ⟨m1, m2, m3, m4⟩ | ⟨m1, m2, m3, m4⟩
  · rw [decide_eq_false m1]
    have HM := Lib.hid (show ¬ May ⟨nm, t, l⟩ from fun h => m1 (HMay.out.1 h).1)
    clear m1
    go_wp2_with fail
    go_ret
    exact ⟨ret_v (x := .bool false) (by rw [decide_eq_false HM.out]), HB1.out⟩
  · rw [decide_eq_true m1]
    have HM := Lib.hid (show ¬ May ⟨nm, t, l⟩ from fun h => by have := (HMay.out.1 h).2.1; omega)
    clear m1
    go_wp2_with fail
    go_ret
    exact ⟨ret_v (x := .bool false) (by rw [decide_eq_false HM.out]), HB1.out⟩
  · rw [decide_eq_true m1]
    have HM := Lib.hid (show ¬ May ⟨nm, t, l⟩ from fun h => by have := (HMay.out.1 h).2.2.1; omega)
    have hd0 : decide (t < 0) = false := by rw [decide_eq_false_iff_not]; omega
    clear m1
    go_wp2_with fail
    go_ret
    exact ⟨ret_v (x := .bool false) (by rw [decide_eq_false HM.out]), HB1.out⟩
  · rw [decide_eq_true m1]
    have HM := Lib.hid (show ¬ May ⟨nm, t, l⟩ from fun h => by have := (HMay.out.1 h).2.2.2.1; omega)
    have hd0 : decide (t < 0) = false := by rw [decide_eq_false_iff_not]; omega
    clear m1
    go_wp2_with fail
    go_ret
    exact ⟨ret_v (x := .bool false) (by rw [decide_eq_false HM.out]), HB1.out⟩
  · rw [decide_eq_true m1]
    have HM := Lib.hid (show May ⟨nm, t, l⟩ ↔ VGd l n from ⟨fun h => (HMay.out.1 h).2.2.2.2, fun h => HMay.out.2 ⟨m1, m2, m3, m4, h⟩⟩)
    have hd0 : decide (t < 0) = false := by rw [decide_eq_false_iff_not]; omega
    clear m1 HMay
    go_wp2_with fail
    clear p0 p1 p2
    go_loopw [28] (fun i wr => ∃ j : Nat, i = .int .i64 j ∧ j ≤ n ∧ VGd l j ∧ Below w.heap.size w wr) (fun i _ => n - (intOf i).toNat)
    case atStart => exact ⟨0, rfl, Nat.zero_le _, fun r hr => absurd hr (Nat.not_lt_zero r), HB1.out⟩
    case round =>
      obtain ⟨j, rfl, hj, hgood, hbel⟩ := hrel
      have HG := Lib.hid hgood
      have HBl := Lib.hid hbel
      clear hgood hbel
      by_cases hjn : j < n
      · obtain ⟨b, q, hix, hc, hsz, _⟩ := HS.out.at v0 j (by rw [← HLen.out]; exact hjn)
        obtain ⟨⟨fk, fn, fs⟩, hf⟩ : ∃ f, f = l.getD j v0 := ⟨_, rfl⟩
        rw [← hf] at hc
        obtain ⟨c0, c1, c2⟩ := hc wr HBl.out
        simp only at c0 c1 c2
        have hi := fun W => hix W n c hjn
        have HF := Lib.hid hf
        have HV := Lib.hid (fun W => Va.May_any fk fn fs W)
        have ha2 := (Below.refl wr.heap.size wr).alloc (Nat.le_refl _) (.cells #[.int .i64 fk, .int .i64 fn, .string fs] 52)
        have HB2 := Lib.hid (bt HBl.out ha2)
        obtain ⟨⟨y0, y1, y2⟩, _⟩ := bx_new_t wr 52 (.int .i64 fk) (.int .i64 fn) (.string fs)
        clear hc hix hf ha2
        by_cases hok : VaM.May ⟨fk, fn, fs⟩
        · rw [decide_eq_true hok] at HV
          have HGo := Lib.hid (HG.out.succ (by rw [← HF.out]; exact hok))
          clear hok
          go_wp2_with fail
          refine (HV.out _).mono ?_
          rintro e w3 ⟨rfl, hb3⟩
          have HB3 := Lib.hid (bt HB2.out hb3)
          clear hb3 HV y0 y1 y2 c0 c1 c2 hi
          go_wp2_with fail
          go_roundw
          case rel => exact ⟨j + 1, by go_num, by omega, HGo.out, HB3.out⟩
          case measure => simp [intOf]; omega
        · rw [decide_eq_false hok] at HV
          have HNo := Lib.hid (show ¬ May ⟨nm, t, l⟩ from fun h => hok (by have := HM.out.1 h j hjn; rw [← HF.out] at this; exact this))
          clear hok
          go_wp2_with fail
          refine (HV.out _).mono ?_
          rintro e w3 ⟨rfl, hb3⟩
          have HB3 := Lib.hid (bt HB2.out hb3)
          clear hb3 HV y0 y1 y2 c0 c1 c2 hi
          go_wp2_with fail
          go_ret
          exact ⟨ret_v (x := .bool false) (by rw [decide_eq_false HNo.out]), HB3.out⟩
      · obtain rfl : j = n := by omega
        have HYes := Lib.hid (HM.out.2 HG.out)
        go_wp2_with fail
        go_ret
        exact ⟨ret_v (x := .bool true) (by rw [decide_eq_true HYes.out]), HBl.out⟩

set_option maxRecDepth 100000 in
set_option maxHeartbeats 2000000 in
theorem refMay_any (e : Ev) (A : Option Addr) (c : Nat) (w : World) (hS : SlV w A e.v c) (hz : Fine e) :
    Calls Try.prog 43 #[.agg #[.string e.s, .int .i64 e.t, .slice A e.v.length c]] w fun r w' => r = .returned (.bool (decide (May e))) ∧ Below w.heap.size w w' := by
  obtain ⟨nm, t, l⟩ := e
  simp only at hS ⊢
  have hl := slV_len hS
  have HN := Lib.hid (fun W => Sc.refName_any nm W hz.1)
  have hmay : May ⟨nm, t, l⟩ ↔ Nm nm ∧ 0 ≤ t ∧ t ≤ 1125899906842624 ∧ l.length ≤ 6 ∧ VGd l l.length := Iff.rfl
  obtain ⟨n, hn⟩ : ∃ n, n = l.length := ⟨_, rfl⟩
  rw [← hn] at hl hmay ⊢
  have HLen := Lib.hid hn
  have HS := Lib.hid hS
  have HMay := Lib.hid hmay
  have HX0 := Lib.hid (bx_new_t w 29 (.string nm) (.int .i64 t) (.slice A n c))
  have HB0 := Lib.hid ((Below.refl w.heap.size w).alloc (Nat.le_refl _) (.cells #[.string nm, .int .i64 t, .slice A n c] 29))
  clear hn hS hmay hz
  obtain ⟨⟨p0, p1, p2⟩, _⟩ := HX0.out
  go_enter Try.func43, Try.ntmps43
  go_wp2_with fail
  refine (HN.out _).mono ?_
  rintro e w1 ⟨rfl, rfl⟩
  obtain ⟨w1, hw1⟩ : ∃ w1, w1 = w.alloc (.cells #[.string nm, .int .i64 t, .slice A n c] 29) := ⟨_, rfl⟩
  rw [← hw1] at HB0 HX0 p0 p1 p2 ⊢
  clear HN hw1
  rcases may_ways nm t n with m1 | ⟨m1, m2⟩ | ⟨m1, m2, m3⟩ | ⟨m1, m2, m3, m4⟩ | ⟨m1, m2, m3, m4⟩
  · rw [decide_eq_false m1]
    have HM := Lib.hid (show ¬ May ⟨nm, t, l⟩ from fun h => m1 (HMay.out.1 h).1)
    clear m1
    go_wp2_with fail
    go_ret
    exact ⟨ret_v (x := .bool false) (by rw [decide_eq_false HM.out]), HB0.out⟩
  · rw [decide_eq_true m1]
    have HM := Lib.hid (show ¬ May ⟨nm, t, l⟩ from fun h => by have := (HMay.out.1 h).2.1; omega)
    clear m1
    go_wp2_with fail
    go_ret
    exact ⟨ret_v (x := .bool false) (by rw [decide_eq_false HM.out]), HB0.out⟩
  · rw [decide_eq_true m1]
    have HM := Lib.hid (show ¬ May ⟨nm, t, l⟩ from fun h => by have := (HMay.out.1 h).2.2.1; omega)
    have hd0 : decide (t < 0) = false := by rw [decide_eq_false_iff_not]; omega
    clear m1
    go_wp2_with fail
    go_ret
    exact ⟨ret_v (x := .bool false) (by rw [decide_eq_false HM.out]), HB0.out⟩
  · rw [decide_eq_true m1]
    have HM := Lib.hid (show ¬ May ⟨nm, t, l⟩ from fun h => by have := (HMay.out.1 h).2.2.2.1; omega)
    have hd0 : decide (t < 0) = false := by rw [decide_eq_false_iff_not]; omega
    clear m1
    go_wp2_with fail
    go_ret
    exact ⟨ret_v (x := .bool false) (by rw [decide_eq_false HM.out]), HB0.out⟩
  · rw [decide_eq_true m1]
    have HM := Lib.hid (show May ⟨nm, t, l⟩ ↔ VGd l n from ⟨fun h => (HMay.out.1 h).2.2.2.2, fun h => HMay.out.2 ⟨m1, m2, m3, m4, h⟩⟩)
    have hd0 : decide (t < 0) = false := by rw [decide_eq_false_iff_not]; omega
    clear m1 HMay
    go_wp2_with fail
    clear p0 p1 p2
    go_loopw [4] (fun i wr => ∃ j : Nat, i = .int .i64 j ∧ j ≤ n ∧ VGd l j ∧ Below w1.heap.size w1 wr) (fun i _ => n - (intOf i).toNat)
    case atStart => exact ⟨0, rfl, Nat.zero_le _, fun r hr => absurd hr (Nat.not_lt_zero r), Below.refl _ _⟩
    case round =>
      obtain ⟨j, rfl, hj, hgood, hbel⟩ := hrel
      have HG := Lib.hid hgood
      have HBl := Lib.hid hbel
      obtain ⟨⟨_, _, x2⟩, _⟩ := HX0.out.kept HBl.out
      clear hgood hbel
      by_cases hjn : j < n
      · obtain ⟨b, q, hix, hc, hsz, _⟩ := HS.out.at v0 j (by rw [← HLen.out]; exact hjn)
        obtain ⟨⟨fk, fn, fs⟩, hf⟩ : ∃ f, f = l.getD j v0 := ⟨_, rfl⟩
        rw [← hf] at hc
        obtain ⟨c0, c1, c2⟩ := hc wr (bt HB0.out HBl.out)
        simp only at c0 c1 c2
        have hi := fun W => hix W n c hjn
        have HF := Lib.hid hf
        have HV := Lib.hid (fun W => Va.refMay_any fk fn fs W)
        clear hc hix hf
        by_cases hok : VaM.May ⟨fk, fn, fs⟩
        · rw [decide_eq_true hok] at HV
          have HGo := Lib.hid (HG.out.succ (by rw [← HF.out]; exact hok))
          clear hok
          go_wp2_with fail
          refine (HV.out _).mono ?_
          rintro e w3 ⟨rfl, hb3⟩
          have HB3 := Lib.hid (bt HBl.out hb3)
          clear hb3 HV c0 c1 c2 hi x2
          go_wp2_with fail
          go_roundw
          case rel => exact ⟨j + 1, by go_num, by omega, HGo.out, HB3.out⟩
          case measure => simp [intOf]; omega
        · rw [decide_eq_false hok] at HV
          have HNo := Lib.hid (show ¬ May ⟨nm, t, l⟩ from fun h => hok (by have := HM.out.1 h j hjn; rw [← HF.out] at this; exact this))
          clear hok
          go_wp2_with fail
          refine (HV.out _).mono ?_
          rintro e w3 ⟨rfl, hb3⟩
          have HB3 := Lib.hid (bt HBl.out hb3)
          clear hb3 HV c0 c1 c2 hi x2
          go_wp2_with fail
          go_ret
          exact ⟨ret_v (x := .bool false) (by rw [decide_eq_false HNo.out]), bt HB0.out HB3.out⟩
      · obtain rfl : j = n := by omega
        have HYes := Lib.hid (HM.out.2 HG.out)
        go_wp2_with fail
        go_ret
        exact ⟨ret_v (x := .bool true) (by rw [decide_eq_true HYes.out]), bt HB0.out HBl.out⟩
end Go.Proofs.Ytochpomddfjkoaa.Ev

namespace Go.Proofs.Ytochpomddfjkoaa.Ex
open Go.RowKit Go.Proofs.Ytochpomddfjkoaa.BM Go.Proofs.Ytochpomddfjkoaa.VaM Go.Proofs.Ytochpomddfjkoaa.Va Go.Proofs.Ytochpomddfjkoaa.ExM Go.Proofs.Ytochpomddfjkoaa.EvM

set_option maxRecDepth 100000 in
set_option maxHeartbeats 4000000 in
theorem refEval_any (e : Ev) (l : List O) (A : Option Addr) (c : Nat) (B : Option Addr) (d : Nat) (w : World) (hS : SlV w A e.v c) (hz : Ev.Fine e) (hO : SlO w B l d) :
    Calls Try.prog 37 #[.agg #[.string e.s, .int .i64 e.t, .slice A e.v.length c], .slice B l.length d] w (TwoV (eval e l) w) := by
  have hml := fun W (h : Below w.heap.size w W) => refMay_any l B d W (hO.kept h)
  have hme := fun W (h : Below w.heap.size w W) => Ev.refMay_any e A c W (hS.kept h) hz
  have hth := fun (g : ExM.May l ∧ EvM.May e) W (h : Below w.heap.size w W) => through_any e.v l false A c B d W (hS.kept h) (hO.kept h) (fun x hx => g.2.vok hx) (fun x hx => g.1.ok hx) g.1.2
  have hno : ¬ (ExM.May l ∧ EvM.May e) → eval e l = (v0, 1) := fun h => by rw [eval, if_pos h]
  have hyes : (ExM.May l ∧ EvM.May e) → eval e l = through e.v l false := fun h => by rw [eval, if_neg (fun k => k h)]
  obtain ⟨R, hR⟩ : ∃ R, R = eval e l := ⟨_, rfl⟩
  rw [← hR] at hno hyes ⊢
  have hth2 := fun (g : ExM.May l ∧ EvM.May e) W (h : Below w.heap.size w W) => by
    have := hth g W h
    rw [← hyes g] at this
    exact this
  obtain ⟨nm, t, vs⟩ := e
  simp only at hml hme hth2 hno ⊢
  obtain ⟨n, hn⟩ : ∃ n, n = vs.length := ⟨_, rfl⟩
  obtain ⟨m, hm⟩ : ∃ n, n = l.length := ⟨_, rfl⟩
  simp only [← hn, ← hm] at hml hme hth2
  rw [← hn, ← hm]
  obtain ⟨⟨k, j, s⟩, r⟩ := R
  unfold TwoV at hth2
  simp only at hth2
  have HMl := Lib.hid hml
  have HMe := Lib.hid hme
  have HTh := Lib.hid hth2
  have HNo := Lib.hid hno
  have hb1 := (Below.refl w.heap.size w).alloc (Nat.le_refl _) (.cells #[.string nm, .int .i64 t, .slice A n c] 29)
  have hx1 := bx_new_t w 29 (.string nm) (.int .i64 t) (.slice A n c)
  obtain ⟨u1, hu1⟩ : ∃ u, u = w.alloc (.cells #[.string nm, .int .i64 t, .slice A n c] 29) := ⟨_, rfl⟩
  have hs1 : u1.heap.size = w.heap.size + 1 := by rw [hu1]; simp
  rw [← hu1] at hb1 hx1
  have hb2 := (Below.refl u1.heap.size u1).alloc (Nat.le_refl _) (.cells #[.int .i64 0, .int .i64 0, .string ⟨#[]⟩] 52)
  have hz2 := bx_new_t u1 52 (.int .i64 0) (.int .i64 0) (.string ⟨#[]⟩)
  rw [hs1] at hz2
  have hx2 := hx1.kept hb2
  have hbb := bt hb1 hb2
  rw [hu1] at hx2 hz2 hbb
  have HX2 := Lib.hid hx2
  have HZ2 := Lib.hid hz2
  have HB2 := Lib.hid hbb
  clear hb1 hx1 hs1 hb2 hz2 hx2 hbb hu1 u1 hml hme hth hth2 hno hyes hR hS hz hO hn hm
  obtain ⟨⟨p0, p1, p2⟩, _⟩ := HX2.out
  go_enter Try.func37, Try.ntmps37
  go_wp2_with fail
  obtain ⟨w2, hw2⟩ : ∃ w2, w2 = (w.alloc (.cells #[.string nm, .int .i64 t, .slice A n c] 29)).alloc (.cells #[.int .i64 0, .int .i64 0, .string ⟨#[]⟩] 52) := ⟨_, rfl⟩
  rw [← hw2] at HX2 HZ2 HB2 ⊢
  clear hw2 p0 p1 p2
  refine (HMl.out w2 HB2.out).mono ?_
  rintro e w3 ⟨rfl, hb3⟩
  have HB3 := Lib.hid (bt HB2.out hb3)
  have HX3 := Lib.hid (HX2.out.kept hb3)
  have HZ3 := Lib.hid (HZ2.out.kept hb3)
  clear hb3 HB2 HX2 HZ2
  obtain ⟨⟨p0, p1, p2⟩, _⟩ := HX3.out
  obtain ⟨a1, ha1⟩ : ∃ a, a = decide (ExM.May l) := ⟨_, rfl⟩
  rw [← ha1]
  have HA1 := Lib.hid ha1
  clear ha1
  go_wp2_with fail
  refine (HMe.out w3 HB3.out).mono ?_
  rintro e w4 ⟨rfl, hb4⟩
  have HB4 := Lib.hid (bt HB3.out hb4)
  have HX4 := Lib.hid (HX3.out.kept hb4)
  have HZ4 := Lib.hid (HZ3.out.kept hb4)
  clear hb4 HB3 HX3 HZ3 p0 p1 p2
  obtain ⟨⟨p0, p1, p2⟩, _⟩ := HX4.out
  obtain ⟨a2, ha2⟩ : ∃ a, a = decide (EvM.May ⟨nm, t, vs⟩) := ⟨_, rfl⟩
  rw [← ha2]
  have HA2 := Lib.hid ha2
  clear ha2
  have hways : (a1 = false ∨ (a1 = true ∧ a2 = false)) ∨ (a1 = true ∧ a2 = true) := by cases a1 <;> cases a2 <;> simp
  rcases hways with hbad | ⟨rfl, rfl⟩
  · have HR := Lib.hid (HNo.out (fun h => by
      have g1 := HA1.out
      have g2 := HA2.out
      rw [decide_eq_true h.1] at g1
      rw [decide_eq_true h.2] at g2
      subst g1 g2
      simp at hbad))
    have hst := bx_store HZ4.out (.int .i64 0) (.int .i64 0) (.string ⟨#[]⟩)
    obtain ⟨⟨g0, g1, g2⟩, _⟩ := hst
    have G0 := Lib.hid g0
    have G1 := Lib.hid g1
    have G2 := Lib.hid g2
    have HF := Lib.hid (stored3 HB4.out (Nat.le_succ _) (.int .i64 0) (.int .i64 0) (.string ⟨#[]⟩))
    obtain ⟨⟨z0, z1, z2⟩, z3, z4, z5⟩ := HZ4.out
    clear g0 g1 g2 HA1 HA2
    rcases hbad with rfl | ⟨rfl, rfl⟩
    all_goals
      go_wp2_with fail
      obtain ⟨W2, hW2⟩ : ∃ W2, W2 = ((w4.setCell ⟨w.heap.size + 1, 0, none⟩ (.int .i64 0)).setCell ⟨w.heap.size + 1, 1, none⟩ (.int .i64 0)).setCell ⟨w.heap.size + 1, 2, none⟩ (.string ⟨#[]⟩) := ⟨_, rfl⟩
      rw [← hW2] at HF G0 G1 G2 ⊢
      have g0 := G0.out
      have g1 := G1.out
      have g2 := G2.out
      clear hW2 z0 z1 z2 z3 z4 z5
      exact bodyPost_ret (v := .tuple #[.agg #[.int .i64 0, .int .i64 0, .string ⟨#[]⟩], .int .i64 1]) (by simp [results, Try.results37, go_sem, g0, g1, g2]) rfl ⟨ret_v (by rw [HR.out]; rfl), HF.out⟩
  · have HT := Lib.hid (HTh.out ⟨of_decide_eq_true HA1.out.symm, of_decide_eq_true HA2.out.symm⟩ w4 HB4.out)
    clear HA1 HA2 HNo HMl HMe HTh
    go_wp2_with fail
    refine HT.out.mono ?_
    rintro e w5 ⟨rfl, hb5⟩
    have ha6 := (Below.refl w5.heap.size w5).alloc (Nat.le_refl _) (.cells #[.int .i64 k, .int .i64 j, .string s] 52)
    have hy6 := bx_new_t w5 52 (.int .i64 k) (.int .i64 j) (.string s)
    have HB6 := Lib.hid (bt HB4.out (bt hb5 ha6))
    have HZ6 := Lib.hid (HZ4.out.kept (bt hb5 ha6))
    have hst := bx_store HZ6.out (.int .i64 k) (.int .i64 j) (.string s)
    obtain ⟨⟨g0, g1, g2⟩, _⟩ := hst
    have G0 := Lib.hid g0
    have G1 := Lib.hid g1
    have G2 := Lib.hid g2
    have HF := Lib.hid (stored3 HB6.out (Nat.le_succ _) (.int .i64 k) (.int .i64 j) (.string s))
    obtain ⟨⟨z0, z1, z2⟩, z3, z4, z5⟩ := HZ6.out
    obtain ⟨⟨y0, y1, y2⟩, _⟩ := hy6
    clear g0 g1 g2 p0 p1 p2 ha6 hb5
    go_wp2_with fail
    obtain ⟨W2, hW2⟩ : ∃ W2, W2 = (((w5.alloc (.cells #[.int .i64 k, .int .i64 j, .string s] 52)).setCell ⟨w.heap.size + 1, 0, none⟩ (.int .i64 k)).setCell ⟨w.heap.size + 1, 1, none⟩ (.int .i64 j)).setCell ⟨w.heap.size + 1, 2, none⟩ (.string s) := ⟨_, rfl⟩
    rw [← hW2] at HF G0 G1 G2 ⊢
    have g0 := G0.out
    have g1 := G1.out
    have g2 := G2.out
    clear hW2 z0 z1 z2 z3 z4 z5 y0 y1 y2
    exact bodyPost_ret (v := .tuple #[.agg #[.int .i64 k, .int .i64 j, .string s], .int .i64 r]) (by simp [results, Try.results37, go_sem, g0, g1, g2]) rfl ⟨rfl, HF.out⟩

theorem holds_b {e : Ev} {l : List O} {b1 b2 b3 b4 : Bool} (h1 : ((l.length : Int) == 0) = b1) (h2 : ((eval e l).2 == 0) = b2) (h3 : ((eval e l).1.k == 1) = b3) (h4 : ((eval e l).1.n == 1) = b4) : holds e l = (b1 || (b2 && (b3 && b4))) := by
  subst h1 h2 h3 h4
  unfold holds
  rw [Bool.eq_iff_iff]
  simp only [Bool.or_eq_true, Bool.and_eq_true, decide_eq_true_iff, beq_iff_eq]
  constructor
  · rintro (h | h)
    · exact Or.inl (by rw [h]; rfl)
    · exact Or.inr h
  · rintro (h | h)
    · exact Or.inl (List.eq_nil_of_length_eq_zero (by omega))
    · exact Or.inr h

set_option maxRecDepth 100000 in
set_option maxHeartbeats 4000000 in
theorem refHolds_any (e : Ev) (l : List O) (A : Option Addr) (c : Nat) (B : Option Addr) (d : Nat) (w : World) (hS : SlV w A e.v c) (hz : Ev.Fine e) (hO : SlO w B l d) :
    Calls Try.prog 30 #[.agg #[.string e.s, .int .i64 e.t, .slice A e.v.length c], .slice B l.length d] w fun r w' => r = .returned (.bool (holds e l)) ∧ Below w.heap.size w w' := by
  have hev := fun W (h : Below w.heap.size w W) => refEval_any e l A c B d W (hS.kept h) hz (hO.kept h)
  obtain ⟨b1, g1⟩ : ∃ b, ((l.length : Int) == 0) = b := ⟨_, rfl⟩
  obtain ⟨b2, g2⟩ : ∃ b, ((eval e l).2 == 0) = b := ⟨_, rfl⟩
  obtain ⟨b3, g3⟩ : ∃ b, ((eval e l).1.k == 1) = b := ⟨_, rfl⟩
  obtain ⟨b4, g4⟩ : ∃ b, ((eval e l).1.n == 1) = b := ⟨_, rfl⟩
  have hh := holds_b g1 g2 g3 g4
  obtain ⟨H, hH⟩ : ∃ H, H = holds e l := ⟨_, rfl⟩
  rw [← hH] at hh ⊢
  obtain ⟨R, hR⟩ : ∃ R, R = eval e l := ⟨_, rfl⟩
  rw [← hR] at g2 g3 g4
  simp only [← hR] at hev
  obtain ⟨⟨k, j, s⟩, r⟩ := R
  unfold TwoV at hev
  simp only at hev g2 g3 g4
  obtain ⟨nm, t, vs⟩ := e
  simp only at hev ⊢
  obtain ⟨n, hn⟩ : ∃ n, n = vs.length := ⟨_, rfl⟩
  obtain ⟨m, hm⟩ : ∃ n, n = l.length := ⟨_, rfl⟩
  simp only [← hn, ← hm] at hev
  rw [← hm] at g1
  rw [← hn, ← hm]
  have HEv := Lib.hid hev
  have HH := Lib.hid hh
  have HX1 := Lib.hid (bx_new_t w 29 (.string nm) (.int .i64 t) (.slice A n c))
  have HB1 := Lib.hid ((Below.refl w.heap.size w).alloc (Nat.le_refl _) (.cells #[.string nm, .int .i64 t, .slice A n c] 29))
  clear hev hh hH hR hn hm hS hz hO
  obtain ⟨⟨p0, p1, p2⟩, _⟩ := HX1.out
  go_enter Try.func30, Try.ntmps30
  go_wp2_with fail
  refine (HEv.out _ HB1.out).mono ?_
  rintro e w2 ⟨rfl, hb2⟩
  have ha3 := (Below.refl w2.heap.size w2).alloc (Nat.le_refl _) (.cells #[.int .i64 k, .int .i64 j, .string s] 52)
  have HB3 := Lib.hid (bt HB1.out (bt hb2 ha3))
  obtain ⟨⟨y0, y1, y2⟩, _⟩ := bx_new_t w2 52 (.int .i64 k) (.int .i64 j) (.string s)
  clear hb2 ha3 HB1 HX1 HEv p0 p1 p2
  have hways : b1 = true ∨ (b1 = false ∧ b2 = false) ∨ (b1 = false ∧ b2 = true ∧ b3 = false) ∨ (b1 = false ∧ b2 = true ∧ b3 = true) := by cases b1 <;> cases b2 <;> cases b3 <;> simp
  rcases hways with rfl | ⟨rfl, rfl⟩ | ⟨rfl, rfl, rfl⟩ | ⟨rfl, rfl, rfl⟩
  · go_wp2_with fail
    go_ret
    exact ⟨ret_v (x := .bool true) (by rw [HH.out]; rfl), HB3.out⟩
  · go_wp2_with fail
    go_ret
    exact ⟨ret_v (x := .bool false) (by rw [HH.out]; rfl), HB3.out⟩
  · go_wp2_with fail
    go_ret
    exact ⟨ret_v (x := .bool false) (by rw [HH.out]; rfl), HB3.out⟩
  · go_wp2_with fail
    go_ret
    exact ⟨ret_v (x := .bool b4) (by rw [HH.out]; rfl), HB3.out⟩
end Go.Proofs.Ytochpomddfjkoaa.Ex

namespace Go.Proofs.Ytochpomddfjkoaa.Ix
open Go.RowKit Go.Proofs.Ytochpomddfjkoaa.BM Go.Proofs.Ytochpomddfjkoaa.LM Go.Proofs.Ytochpomddfjkoaa.VaM Go.Proofs.Ytochpomddfjkoaa.ExM Go.Proofs.Ytochpomddfjkoaa.QyM Go.Proofs.Ytochpomddfjkoaa.IxM
open Go.Proofs.Ytochpomddfjkoaa.Ex (SlO slO_none)
open Go.Proofs.Ytochpomddfjkoaa.Va (Bx bx_new_t SlV ret_v toList_beq)
open Go.Proofs.Ytochpomddfjkoaa.EvM (Ev)

set_option maxRecDepth 100000 in
set_option maxHeartbeats 4000000 in
theorem refHolds_any (p : Pr) (e : Ev) (A : Option Addr) (c : Nat) (B : Option Addr) (d : Nat) (w : World) (hO : SlO w A p.f c) (hV : SlV w B e.v d) (hz : Go.Proofs.Ytochpomddfjkoaa.Ev.Fine e) :
    Calls Try.prog 20 #[agPr p A c, .agg #[.string e.s, .int .i64 e.t, .slice B e.v.length d]] w fun r w' => r = .returned (.bool (holdsP p e)) ∧ Below w.heap.size w w' := by
  have hh := fun W (h : Below w.heap.size w W) => Ex.refHolds_any e p.f B d A c W (hV.kept h) hz (hO.kept h)
  unfold agPr
  have hhp : holdsP p e = (decide (p.s = e.s) && holds e p.f) := rfl
  rw [hhp]
  obtain ⟨H, hH⟩ : ∃ H, H = holds e p.f := ⟨_, rfl⟩
  simp only [← hH] at hh ⊢
  obtain ⟨ps, pf⟩ := p
  obtain ⟨es, et, ev⟩ := e
  simp only at hh ⊢
  obtain ⟨n, hn⟩ : ∃ n, n = pf.length := ⟨_, rfl⟩
  obtain ⟨m, hm⟩ : ∃ n, n = ev.length := ⟨_, rfl⟩
  simp only [← hn, ← hm] at hh ⊢
  obtain ⟨b2, hb2⟩ : ∃ z, (ps.toList == es.toList) = z := ⟨_, rfl⟩
  have hb2' : decide (ps = es) = b2 := by rw [← hb2, toList_beq]
  rw [hb2']
  have HH := Lib.hid hh
  obtain ⟨u1, hu1⟩ : ∃ u, u = w.alloc (.cells #[.string ps, .slice A n c] 26) := ⟨_, rfl⟩
  have hs1 : u1.heap.size = w.heap.size + 1 := by rw [hu1]; simp
  have hb1 := below_pr w ps A n c
  have hx1 := bxPr_new w ps A n c
  rw [← hu1] at hb1 hx1
  have hb3 := (Below.refl u1.heap.size u1).alloc (Nat.le_refl _) (.cells #[.string es, .int .i64 et, .slice B m d] 29)
  have hx2 := bx_new_t u1 29 (.string es) (.int .i64 et) (.slice B m d)
  rw [hs1] at hx2
  have hk1 := hx1.kept hb3
  have hbb := bt hb1 hb3
  rw [hu1] at hx2 hk1 hbb
  have HX := Lib.hid hk1
  have HY := Lib.hid hx2
  have HB := Lib.hid hbb
  obtain ⟨p0, p1⟩ := hk1.cells
  obtain ⟨⟨q0, q1, q2⟩, _⟩ := hx2
  clear hb1 hx1 hb3 hk1 hbb hs1 hu1 u1 hh hH hn hm hb2' hhp hO hV hz
  go_enter Try.func20, Try.ntmps20
  go_wp2_with fail
  refine (HH.out _ HB.out).mono ?_
  rintro r w1 ⟨rfl, hb⟩
  have HB1 := Lib.hid (bt HB.out hb)
  obtain ⟨y0, y1⟩ := (HX.out.kept hb).cells
  obtain ⟨⟨z0, z1, z2⟩, _⟩ := HY.out.kept hb
  clear hb p0 p1 q0 q1 q2
  cases b2
  all_goals
    go_wp2_with fail
    go_ret
    exact ⟨ret_v (by first | rfl | simp), HB1.out⟩
end Go.Proofs.Ytochpomddfjkoaa.Ix

namespace Go.Proofs.Ytochpomddfjkoaa.Bo
open Go.RowKit Go.Proofs.Ytochpomddfjkoaa.BM Go.Proofs.Ytochpomddfjkoaa.LM

def encB (b : Bool) : List Value := [.bool b]
def KBo : RG.Kind Bool := RG.flat 1 encB (fun _ => rfl) (fun v u hu => by
  simp only [encB, List.mem_cons, List.not_mem_nil, or_false] at hu
  rcases hu with rfl
  rfl)
theorem tyBo : RG.Ty 38 4 1 1 (.bool false) := ⟨by kernel_rfl, by kernel_rfl, by kernel_rfl, fun _ => by kernel_rfl, rfl, by decide, by decide⟩

/-- A slice of Bools: where it lies, its length and its capacity. -/
def SlBo (w : World) (A : Option Addr) (l : List Bool) (c : Nat) : Prop := RG.SlG KBo (fun _ => True) w A l c
theorem SlBo.kept {w w' : World} {A : Option Addr} {l : List Bool} {c : Nat} (h : SlBo w A l c) (hb : Below w.heap.size w w') : SlBo w' A l c := RG.SlG.kept h hb
theorem slBo_none (w : World) : SlBo w none [] 0 := RG.slG_none _ _ _
theorem slBo_len {w : World} {A : Option Addr} {l : List Bool} {c : Nat} (h : SlBo w A l c) : l.length ≤ 9223372036854775807 := RG.slG_len h

/-- The j-th of them. -/
theorem SlBo.at {w : World} {A : Option Addr} {l : List Bool} {c : Nat} (h : SlBo w A l c) (j : Nat) (hj : j < l.length) :
    ∃ b q, (∀ W n k, j < n → (Instr.indexAt 38 (.slice A n k) (.int .i64 (j : Int))).run Try.prog W = .ok (.pointer (some ⟨b, q, none⟩)) W) ∧
      ∀ W, Below w.heap.size w W → W.cell? ⟨b, q, none⟩ = some (.bool (l.getD j false)) := by
  have hd : l[j]? = some (l.getD j false) := by rw [List.getD_eq_getElem?_getD, List.getElem?_eq_getElem hj]; rfl
  obtain ⟨b, o, cs, rfl, hW⟩ := RG.SlG.at h (by decide) j _ hd
  obtain ⟨h1, hc⟩ := hW w (Below.refl _ _)
  refine ⟨b, o + j * 1, fun W n k hn => tyBo.index W b o n k j hn, fun W hb => ?_⟩
  rw [show cs = encB (l.getD j false) from h1] at hc
  have h5 := hc 0 _ rfl
  have h6 := hb.cell (p := ⟨b, o + j * KBo.size + 0, none⟩) (World.block_lt_of_cell? w _ h5)
  rw [← h6] at h5
  exact h5
end Go.Proofs.Ytochpomddfjkoaa.Bo

namespace Go.Proofs.Ytochpomddfjkoaa.Ix
open Go.RowKit Go.Proofs.Ytochpomddfjkoaa.BM Go.Proofs.Ytochpomddfjkoaa.LM Go.Proofs.Ytochpomddfjkoaa.VaM Go.Proofs.Ytochpomddfjkoaa.ExM Go.Proofs.Ytochpomddfjkoaa.QyM Go.Proofs.Ytochpomddfjkoaa.IxM
open Go.Proofs.Ytochpomddfjkoaa.Ex (SlO slO_none)
open Go.Proofs.Ytochpomddfjkoaa.Va (Bx bx_new_t SlV ret_v)
open Go.Proofs.Ytochpomddfjkoaa.EvM (Ev)
open Go.Proofs.Ytochpomddfjkoaa.Bo (SlBo slBo_len slBo_none KBo tyBo)

/-- What Told answers. -/
def ToldB (l : List Pr) (e : Ev) (w : World) : Ending → World → Prop := fun r w' => ∃ A c, r = .returned (.slice A l.length c) ∧ SlBo w' A (told l e) c ∧ Below w.heap.size w w'

theorem told_len (l : List Pr) (e : Ev) : (told l e).length = l.length := List.length_map ..
theorem take_told {l : List Pr} {e : Ev} {j : Nat} (hj : j < l.length) : (told l e).take (j + 1) = (told l e).take j ++ [holdsP (l.getD j p0) e] := by
  have h : j < (l.map fun p => holdsP p e).length := by rw [List.length_map]; exact hj
  unfold told
  rw [List.take_succ_eq_append_getElem h, List.getElem_map, List.getD_eq_getElem?_getD, List.getElem?_eq_getElem hj]
  rfl

set_option maxRecDepth 100000 in
set_option maxHeartbeats 8000000 in
theorem refTold_any (l : List Pr) (e : Ev) (A : Option Addr) (c : Nat) (B : Option Addr) (d : Nat) (w : World) (hS : SlPr w A l c) (hV : SlV w B e.v d) (hz : Go.Proofs.Ytochpomddfjkoaa.Ev.Fine e) (hl9 : l.length ≤ 100000000) :
    Calls Try.prog 19 #[.slice A l.length c, .agg #[.string e.s, .int .i64 e.t, .slice B e.v.length d]] w (ToldB l e w) := by
  have hh := fun x K k W (h : Below w.heap.size w W) (hx : SlO W K x.f k) => refHolds_any x e K k B d W hx (hV.kept h) hz
  have htk := fun j => @take_told l e j
  unfold ToldB
  obtain ⟨T, hT⟩ : ∃ T, T = told l e := ⟨_, rfl⟩
  have htl : T.length = l.length := by rw [hT, told_len]
  simp only [← hT] at htk ⊢
  obtain ⟨n, hn⟩ : ∃ n, n = l.length := ⟨_, rfl⟩
  simp only [← hn] at htk
  rw [← hn] at htl hl9 ⊢
  obtain ⟨hp, hhp⟩ : ∃ f : Pr → Bool, f = fun x => holdsP x e := ⟨_, rfl⟩
  have hhp' : ∀ x, holdsP x e = hp x := fun x => by rw [hhp]
  simp only [hhp'] at hh htk
  obtain ⟨es, et, ev⟩ := e
  simp only at hh ⊢
  obtain ⟨m, hm⟩ : ∃ n, n = ev.length := ⟨_, rfl⟩
  simp only [← hm] at hh ⊢
  have HH := Lib.hid hh
  have HTk := Lib.hid htk
  have HS := Lib.hid hS
  have HLen := Lib.hid hn
  have HTl := Lib.hid htl
  have HX := Lib.hid (bx_new_t w 29 (.string es) (.int .i64 et) (.slice B m d))
  have HB := Lib.hid ((Below.refl w.heap.size w).alloc (Nat.le_refl _) (.cells #[.string es, .int .i64 et, .slice B m d] 29))
  clear hh htk hS hV hz hn hm htl hT hhp hhp'
  go_enter Try.func19, Try.ntmps19
  go_wp2_with fail
  obtain ⟨w0, hw0⟩ : ∃ w0, w0 = w.alloc (.cells #[.string es, .int .i64 et, .slice B m d] 29) := ⟨_, rfl⟩
  rw [← hw0] at HX HB ⊢
  have hz0 : w.heap.size ≤ w0.heap.size := by rw [hw0]; simp
  clear hw0
  go_loopw [5, 6] (fun u i wr => ∃ (j : Nat) (vs : List Value), i = .int .i64 (j : Int) ∧ j ≤ n ∧ wr.ownsRow w0.heap.size 4 1 u j vs ∧ RG.Elems KBo (fun k => w0.heap.size ≤ k ∧ ne u k) wr (T.take j) vs ∧ Below w0.heap.size w0 wr) (fun _ i _ => n - (intOf i).toNat)
  case atStart => exact ⟨0, [], rfl, Nat.zero_le _, World.ownsRow_nil _ _ _ _, by rw [List.take_zero]; rfl, Below.refl _ _⟩
  case round =>
    obtain ⟨j, vs, rfl, hj, hown, hel, hbel⟩ := hrel
    have HO := Lib.hid hown
    have HE := Lib.hid hel
    have HBl := Lib.hid hbel
    clear hown hel hbel
    by_cases hjn : j < n
    · obtain ⟨b1, q1, A1, c1, hix, hc, _⟩ := HS.out.at j (by rw [← HLen.out]; exact hjn)
      have hi := fun W => hix W n c hjn
      obtain ⟨x, hx⟩ : ∃ x, x = l.getD j p0 := ⟨_, rfl⟩
      have hcw := fun W (h : Below w0.heap.size w0 W) => hc W (bt HB.out h)
      simp only [← hx] at hcw
      have htk := HTk.out j hjn
      rw [← hx] at htk
      have hho := HH.out x
      obtain ⟨V, hV⟩ : ∃ V, V = hp x := ⟨_, rfl⟩
      rw [← hV] at htk
      simp only [← hV] at hho
      unfold agPr at hho
      obtain ⟨xs, xf⟩ := x
      simp only at hcw hho
      obtain ⟨k1, hk1⟩ : ∃ k, k = xf.length := ⟨_, rfl⟩
      unfold CellPr at hcw
      simp only [← hk1] at hcw hho
      have HTk2 := Lib.hid htk
      have HHo := Lib.hid hho
      have HCw := Lib.hid hcw
      clear hix hc hx hcw htk hho hV hk1
      go_wp2_with fail
      refine Reg.G_start (by kernel_rfl) (by repeat (first | with_reducible exact Reg.frameless_bodyPost | with_reducible refine Reg.frameless_then ?_ | with_reducible refine Reg.frameless_inBlock ?_ | refine Reg.frameless_then ?_ | refine Reg.frameless_inBlock ?_)) (fun W hW => ?_)
      have y0 := Reg.later_cell (Below.refl _ W) (HCw.out W (bt HBl.out hW)).1.1
      have y1 := Reg.later_cell (Below.refl _ W) (HCw.out W (bt HBl.out hW)).1.2
      have x0 := Reg.later_cell (Below.refl _ W) (HX.out.kept (bt HBl.out hW)).1.1
      have x1 := Reg.later_cell (Below.refl _ W) (HX.out.kept (bt HBl.out hW)).1.2.1
      have x2 := Reg.later_cell (Below.refl _ W) (HX.out.kept (bt HBl.out hW)).1.2.2
      first | (refine Reg.G_step (i := 0) rfl (by kernel_rfl) (by rfl) (fun K hK => ?_); go_big_quiet_op; refine hK _ ?_; clear hK K) | (refine Reg.G_skip (i := 0) rfl (by kernel_rfl) (by rfl) ?_; simp only [Act.put, List.setIfInBounds_toArray, List.set_cons_zero, List.set_cons_succ])
      first | (refine Reg.G_step (i := 1) rfl (by kernel_rfl) (by rfl) (fun K hK => ?_); go_big_quiet_op; refine hK _ ?_; clear hK K) | (refine Reg.G_skip (i := 1) rfl (by kernel_rfl) (by rfl) ?_; simp only [Act.put, List.setIfInBounds_toArray, List.set_cons_zero, List.set_cons_succ])
      first | (refine Reg.G_step (i := 2) rfl (by kernel_rfl) (by rfl) (fun K hK => ?_); go_big_quiet_op; refine hK _ ?_; clear hK K) | (refine Reg.G_skip (i := 2) rfl (by kernel_rfl) (by rfl) ?_; simp only [Act.put, List.setIfInBounds_toArray, List.set_cons_zero, List.set_cons_succ])
      first | (refine Reg.G_step (i := 3) rfl (by kernel_rfl) (by rfl) (fun K hK => ?_); go_big_quiet_op; refine hK _ ?_; clear hK K) | (refine Reg.G_skip (i := 3) rfl (by kernel_rfl) (by rfl) ?_; simp only [Act.put, List.setIfInBounds_toArray, List.set_cons_zero, List.set_cons_succ])
      first | (refine Reg.G_step (i := 4) rfl (by kernel_rfl) (by rfl) (fun K hK => ?_); go_big_quiet_op; refine hK _ ?_; clear hK K) | (refine Reg.G_skip (i := 4) rfl (by kernel_rfl) (by rfl) ?_; simp only [Act.put, List.setIfInBounds_toArray, List.set_cons_zero, List.set_cons_succ])
      refine Reg.G_event (i := 5) rfl (by kernel_rfl) (by rfl) (fun K hK => ?_)
      go_simp
      refine (HHo.out A1 c1 W (bt HB.out (bt HBl.out hW)) (HCw.out W (bt HBl.out hW)).2).mono ?_
      rintro e u1 ⟨rfl, hu1⟩
      refine hK _ _ hu1 ?_
      clear hK K y0 y1 x0 x1 x2
      have HU := Lib.hid (bt hW hu1)
      first | (refine Reg.G_step (i := 6) rfl (by kernel_rfl) (by rfl) (fun K hK => ?_); go_big_quiet_op; refine hK _ ?_; clear hK K) | (refine Reg.G_skip (i := 6) rfl (by kernel_rfl) (by rfl) ?_; simp only [Act.put, List.setIfInBounds_toArray, List.set_cons_zero, List.set_cons_succ])
      refine Reg.G_done rfl ?_
      clear hW hu1
      have ha := (Below.refl u1.heap.size u1).alloc (Nat.le_refl _) (.cells #[.bool V] 4)
      have hnew := RG.elem_new (K := KBo) (p := fun k => w0.heap.size ≤ k ∧ ne u5 k) u1 4 V [.bool V] rfl
      have HRow := Lib.hid hnew.1
      have HNew := Lib.hid hnew.2
      have HO4 := Lib.hid (RegA.own_below HO.out (bt HU.out ha))
      have HE4 := Lib.hid (RG.Elems.map (K := KBo) (w := wr) (w' := u1.alloc (.cells #[.bool V] 4)) (p := fun k => w0.heap.size ≤ k ∧ ne u5 k) (q := fun k => w0.heap.size ≤ k ∧ ne u5 k) (fun _ _ h => h) HE.out)
      have HB4 := Lib.hid (bt HBl.out (bt HU.out ha))
      have hz4 := (bt HBl.out (bt HU.out ha)).size
      have htl2 : (T.take j).length = j := by rw [List.length_take, HTl.out]; omega
      clear hnew ha HO HE
      go_wp2_with (at_builtin; refine RG.Ty.wp_append (K := KBo) tyBo (fun k => w0.heap.size ≤ k) rfl (.tmp 20) (.tmp 22) rfl w0.heap.size _ j vs (T.take j) rfl HO4.out HE4.out (some ⟨u1.heap.size, 0, none⟩) 1 1 _ [V] rfl rfl HRow.out HNew.out (fun h => by cases h) (by omega) hz4 ?_; intro u9 w9 hown9 hel9 hgrow9; refine pause ?_)
      have hb9 := HB4.out.grown hgrow9 hz4 (fun q hq => (HO4.out.lt q hq).1)
      rw [← HTk2.out] at hel9
      have HO9 := Lib.hid hown9
      have HE9 := Lib.hid hel9
      have HB9 := Lib.hid hb9
      clear hown9 hel9 hgrow9 hb9 htl2
      unfold Pause
      go_wp2_with fail
      go_roundw
      case rel => exact ⟨j + 1, _, by go_num, by omega, HO9.out, HE9.out, HB9.out⟩
      case measure => simp [intOf]; omega
    · obtain rfl : j = n := by omega
      obtain ⟨A1, c1, hu, hl1, hsl, _⟩ := RG.own_slG (K := KBo) HO.out HE.out (by decide)
      rw [← hl1] at hu
      subst hu
      have HSl := Lib.hid (show SlBo wr A1 T c1 from by
        have h := RG.SlG.mono (q := fun _ => True) hsl fun _ _ _ => trivial
        rw [List.take_of_length_le (by rw [HTl.out]; exact Nat.le_refl _)] at h
        exact h)
      clear hl1 hsl
      go_wp2_with fail
      go_ret
      exact ⟨A1, c1, rfl, HSl.out, bt HB.out HBl.out⟩
end Go.Proofs.Ytochpomddfjkoaa.Ix

namespace Go.Proofs.Ytochpomddfjkoaa.Sc
open Go.RowKit Go.Proofs.Ytochpomddfjkoaa.BM

theorem grown_set (w : World) (b i : Nat) (u : Value) : w.grownBy (w.setCell ⟨b, i, none⟩ u) (some b) := by
  have h := (Below.refl 0 w).setCell (p := ⟨b, i, none⟩) (Nat.zero_le _) u
  exact ⟨h.os, h.tape, h.output, h.size, fun k _ hne => Below.heap_setCell w _ u k (fun e => hne (by rw [e]))⟩

theorem grown_trans {a b c : World} {r : Option Nat} (h : a.grownBy b r) (k : b.grownBy c r) : a.grownBy c r :=
  ⟨k.os.trans h.os, k.tape.trans h.tape, k.output.trans h.output, Nat.le_trans h.size k.size, fun i hi hne => (k.block i (Nat.lt_of_lt_of_le hi h.size) hne).trans (h.block i hi hne)⟩
end Go.Proofs.Ytochpomddfjkoaa.Sc

namespace Go.Proofs.Ytochpomddfjkoaa.Ex
open Go.RowKit Go.Proofs.Ytochpomddfjkoaa.BM Go.Proofs.Ytochpomddfjkoaa.LM Go.Proofs.Ytochpomddfjkoaa.VaM Go.Proofs.Ytochpomddfjkoaa.Va Go.Proofs.Ytochpomddfjkoaa.ExM Go.Proofs.Ytochpomddfjkoaa.EvM
open Go.Proofs.Ytochpomddfjkoaa.Sc (grown_set grown_trans)

/-- A thing's own cell. -/
def encT (v : V) : List Value := [th v]
theorem th_one (v : V) : (th v).oneCell' = true := by
  unfold th
  split
  · rfl
  · split
    · rfl
    · split <;> rfl
theorem th_is (v : V) : ∃ T u, th v = .iface T u := by
  unfold th
  split
  · exact ⟨_, _, rfl⟩
  · split
    · exact ⟨_, _, rfl⟩
    · split <;> exact ⟨_, _, rfl⟩
/-- How a thing lies. -/
def KT : RG.Kind V := RG.flat 1 encT (fun _ => rfl) (fun v u hu => by
  obtain rfl := List.mem_singleton.1 hu
  exact th_one v)

theorem tyT : RG.Ty 71 75 1 16 .nilIface :=
  ⟨by kernel_rfl, by kernel_rfl, by kernel_rfl, fun _ => by kernel_rfl, rfl, by decide, by decide⟩

/-- Things: a row of the call's own, of values that may be. -/
def Things (base : Nat) (p : List V) (u : Value) (w : World) : Prop := w.ownsRow base 75 1 u p.length (p.flatMap encT) ∧ ∀ x ∈ p, VaM.May x ∧ Rng x

theorem things_nil (base : Nat) (w : World) : Things base [] (.slice none 0 0) w := ⟨World.ownsRow_nil _ _ _ _, fun x hx => by cases hx⟩
theorem Things.kept {base : Nat} {p : List V} {u : Value} {w w' : World} (h : Things base p u w) (hb : Below w.heap.size w w') : Things base p u w' :=
  ⟨h.1.kept (row := none) ⟨hb.os, hb.tape, hb.output, hb.size, fun k hk _ => hb.block k hk⟩ (by cases u.ownBlock <;> simp), h.2⟩
theorem Things.grown {base b : Nat} {p : List V} {u : Value} {w w' : World} (h : Things base p u w) (hg : w.grownBy w' (some b)) (hb : b < base) : Things base p u w' :=
  ⟨h.1.kept hg (Or.inr (fun e => by have := (h.1.lt _ e).1; omega)), h.2⟩
theorem Things.is {base : Nat} {p : List V} {u : Value} {w : World} (h : Things base p u w) : ∃ A c, u = .slice A p.length c := RG.own_is h.1

theorem flatT_len : ∀ l : List V, (l.flatMap encT).length = l.length
  | [] => rfl
  | x :: l => by rw [List.flatMap_cons, List.length_append, flatT_len l, List.length_cons]; simp only [encT, List.length_cons, List.length_nil]; omega
theorem flatT_map : ∀ l : List V, l.flatMap encT = l.map th
  | [] => rfl
  | x :: l => by rw [List.flatMap_cons, flatT_map l]; rfl

theorem Things.cut {base : Nat} {p : List V} {A : Option Addr} {c : Nat} {w : World} (h : Things base p (.slice A p.length c) w) (k : Nat) (hk : k ≤ p.length) : k ≤ c ∧ Things base (p.take k) (.slice A k c) w := by
  have hlen : (p.take k).length = k := by rw [List.length_take, Nat.min_eq_left hk]
  rcases h.1.2 with ⟨hv, h0⟩ | ⟨g, cap, cur, hv, hg, hh, hcap, hmx, hs, ht⟩
  · injection hv with h1 h2 h3
    subst h1 h3
    obtain rfl : k = 0 := by omega
    exact ⟨Nat.le_refl _, things_nil _ _⟩
  · injection hv with h1 h2 h3
    subst h1 h3
    refine ⟨by omega, ⟨⟨by rw [flatT_len, Nat.mul_one], ?_⟩, fun x hx => h.2 x (List.mem_of_mem_take hx)⟩⟩
    rw [hlen]
    refine Or.inr ⟨g, c, cur, rfl, hg, hh, by omega, hmx, hs, ?_⟩
    rw [flatT_map] at ht
    rw [flatT_map, List.map_take, ← ht, List.take_take, Nat.min_eq_left (by omega), Nat.mul_one]

/-- The i-th of them. -/
theorem Things.at {base : Nat} {p : List V} {A : Option Addr} {c : Nat} {w : World} (h : Things base p (.slice A p.length c) w) (i : Nat) (hi : i < p.length) :
    ∃ g, base ≤ g ∧ (∀ W, (Instr.indexAt 71 (.slice A p.length c) (.int .i64 (i : Int))).run Try.prog W = .ok (.pointer (some ⟨g, i, none⟩)) W) ∧ w.cell? ⟨g, i, none⟩ = some (th (p.getD i v0)) := by
  rcases h.1.2 with ⟨_, h0⟩ | ⟨g, cap, cur, hv, hg, _⟩
  · omega
  · injection hv with h1 h2 h3
    subst h1 h3
    refine ⟨g, hg, fun W => ?_, ?_⟩
    · have := tyT.index W g 0 p.length c i hi
      rw [Nat.zero_add, Nat.mul_one] at this
      exact this
    · rw [h.1.cellAt i (by omega), flatT_map, List.getElem?_map, List.getD_eq_getElem?_getD, List.getElem?_eq_getElem hi]
      rfl

/-- A new thing in a block of its own. -/
theorem thing_new (w : World) (x : V) : RG.SlG KT (fun _ => True) (w.alloc (.cells #[th x] 75)) (some ⟨w.heap.size, 0, none⟩) [x] 1 := by
  obtain ⟨h1, h2⟩ := RG.elem_new (K := KT) (p := fun _ => True) w 75 x (encT x) rfl
  exact ⟨⟨_, h1, h2⟩, Nat.le_refl _, (fun h => by cases h), by decide⟩

/-- append of things onto a row of the call's own. -/
theorem wp_append_t {w : World} {ops : Array Oper} {rest : List Oper} {o : Oper} {a : Act} {Q : Exit → Act → World → Prop} (hgd : o.guard = none) (s x : Operand)
    (ho : o.op = .call { callee := .builtin .append, args := #[s, x], argTypes := #[71, 71] })
    (base : Nat) (v : Value) (n : Nat) (l : List V) (hs : a.eval s = v) (hown : w.ownsRow base 75 1 v n (l.flatMap encT))
    (A : Option Addr) (m c : Nat) (r : List V) (hx : a.eval x = .slice A m c) (hm : r.length = m) (hB : RG.SlG KT (fun _ => True) w A r c)
    (hsz : n + m ≤ 1000000000) (hbase : base ≤ w.heap.size)
    (hk : ∀ v' w', w'.ownsRow base 75 1 v' (n + m) ((l ++ r).flatMap encT) → w.grownBy w' v.ownBlock → wpList Try.prog ops Q rest (a.put o.dst v') w') : wpList Try.prog ops Q (o :: rest) a w := by
  obtain ⟨⟨vs, h1, h2⟩, _, h3, _⟩ := hB
  have hv : ∀ (l : List V) (vs : List Value), RG.Elems KT (fun _ => True) w l vs → vs = l.flatMap encT := by
    intro l
    induction l with
    | nil => intro vs h; exact h
    | cons x l ih =>
      rintro vs ⟨cs, rest, rfl, hc, hr⟩
      rw [ih rest hr, show cs = encT x from hc]
      rfl
  have hE : ∀ (q : Nat → Prop) (l : List V), RG.Elems KT q w l (l.flatMap encT) := by
    intro q l
    induction l with
    | nil => rfl
    | cons x l ih => exact ⟨encT x, l.flatMap encT, rfl, rfl, ih⟩
  obtain rfl := hv r vs h2
  refine tyT.wp_append (K := KT) (fun _ => True) hgd s x ho base v n (l.flatMap encT) l hs hown (hE _ l) A m c (r.flatMap encT) r hx hm h1 (hE _ r) h3 hsz hbase fun v' w' g1 _ g3 => hk v' w' ?_ g3
  rw [List.flatMap_append]
  exact g1

/-- The pile, its block, and the values that a Load finds. -/
structure Held (b : Nat) (vs : List V) (L : Option Addr) (vc : Nat) (kb : Bool) (p : List V) (w : World) : Prop where
  box : ∃ A c, Bx w b (.slice A p.length c) (.slice L vs.length vc) (.bool kb) ∧ Things (b + 1) p (.slice A p.length c) w
  vals : ∀ W, Below b w W → SlV W L vs vc

section
variable {b vc : Nat} {vs p : List V} {L : Option Addr} {kb : Bool} {w w' : World}
theorem Held.lt (h : Held b vs L vc kb p w) : b < w.heap.size := by
  obtain ⟨A, c, hB, _⟩ := h.box
  exact hB.lt
theorem Held.kept (h : Held b vs L vc kb p w) (hb : Below w.heap.size w w') : Held b vs L vc kb p w' := by
  have hlt := h.lt
  obtain ⟨A, c, hB, hT⟩ := h.box
  exact ⟨⟨A, c, hB.kept hb, hT.kept hb⟩, fun W hW => h.vals W ((hb.mono (by omega)).trans hW)⟩

theorem below_of_grown (h : w.grownBy w' (some b)) (hb : b ≤ w.heap.size) : Below b w w' := (Below.refl b w).grown h hb (fun k e => by injection e with e; omega)
theorem grown_of_below {r : Option Nat} (h : Below w.heap.size w w') : w.grownBy w' r := ⟨h.os, h.tape, h.output, h.size, fun k hk _ => h.block k hk⟩
theorem bxG {g : Nat} {v0 v1 v2 : Value} (h : Bx w g v0 v1 v2) (hg : w.grownBy w' (some b)) (hne : g ≠ b) : Bx w' g v0 v1 v2 := h.grown hg (fun e => hne (by injection e))
end
end Go.Proofs.Ytochpomddfjkoaa.Ex

namespace Go.Proofs.Ytochpomddfjkoaa.Ex
open Go.RowKit Go.Proofs.Ytochpomddfjkoaa.BM Go.Proofs.Ytochpomddfjkoaa.LM Go.Proofs.Ytochpomddfjkoaa.VaM Go.Proofs.Ytochpomddfjkoaa.Va Go.Proofs.Ytochpomddfjkoaa.ExM Go.Proofs.Ytochpomddfjkoaa.EvM
open Go.Proofs.Ytochpomddfjkoaa.Sc (grown_set grown_trans)

section
variable {b vc : Nat} {vs p : List V} {L : Option Addr} {kb : Bool} {w : World}

set_option maxRecDepth 100000 in
theorem take_none (h : Held b vs L vc kb [] w) : Calls Try.prog 59 #[.pointer (some ⟨b, 0, none⟩)] w fun e w' => e = .returned (.tuple #[.nilIface, .bool false]) ∧ w = w' := by
  obtain ⟨A, c, hB, _⟩ := h.box
  rw [List.length_nil] at hB
  obtain ⟨⟨p0, p1, p2⟩, _⟩ := hB
  clear h
  go_enter Try.func59, Try.ntmps59
  go_wp2_with fail
  go_ret2
  exact ⟨rfl, rfl⟩

set_option maxRecDepth 100000 in
theorem take_some (h : Held b vs L vc kb p w) (hp : 0 < p.length) (hn : p.length ≤ 1000) : Calls Try.prog 59 #[.pointer (some ⟨b, 0, none⟩)] w fun e w' =>
    e = .returned (.tuple #[th (p.getD (p.length - 1) v0), .bool true]) ∧ Held b vs L vc kb (p.take (p.length - 1)) w' ∧ w.grownBy w' (some b) := by
  have hlt := h.lt
  obtain ⟨A, c, hB, hT⟩ := h.box
  obtain ⟨g, hg, hix, hc⟩ := hT.at (p.length - 1) (by omega)
  obtain ⟨hkc, hT2⟩ := hT.cut (p.length - 1) (by omega)
  have hcut := fun W => tyT.cut W A p.length c (p.length - 1) hkc
  have hlen : (p.take (p.length - 1)).length = p.length - 1 := by rw [List.length_take]; omega
  have hset := grown_set w b 0 (.slice A (p.length - 1) c)
  have hH : Held b vs L vc kb (p.take (p.length - 1)) (w.setCell ⟨b, 0, none⟩ (.slice A (p.length - 1) c)) :=
    ⟨⟨A, c, by rw [hlen]; exact bx_set0 hB _, by rw [hlen]; exact hT2.grown hset (Nat.lt_succ_self _)⟩, fun W hW => h.vals W ((below_of_grown hset (by omega)).trans hW)⟩
  obtain ⟨x, hx⟩ : ∃ x, x = th (p.getD (p.length - 1) v0) := ⟨_, rfl⟩
  obtain ⟨q, hq⟩ : ∃ q, q = p.take (p.length - 1) := ⟨_, rfl⟩
  rw [← hx] at hc ⊢
  rw [← hq] at hH ⊢
  obtain ⟨n, hn'⟩ : ∃ n, n = p.length := ⟨_, rfl⟩
  simp only [← hn'] at hB hix hcut hp hset hH hc hn
  obtain ⟨⟨p0, p1, p2⟩, p3, _⟩ := hB
  have HH := Lib.hid hH
  have HS := Lib.hid hset
  have g1 : decide ((n : Int) - 1 < 0) = false := by rw [decide_eq_false_iff_not]; omega
  rw [show ((n - 1 : Nat) : Int) = (n : Int) - 1 from by omega] at hix hcut
  clear h hT hT2 hx hq hlen hH hset hkc hlt hn'
  go_enter Try.func59, Try.ntmps59
  go_wp2_with fail
  go_ret2
  exact ⟨rfl, HH.out, HS.out⟩

set_option maxRecDepth 100000 in
theorem load_any (h : Held b vs L vc kb p w) (hv : ∀ x ∈ vs, VaM.May x ∧ Rng x) (n : Int) (h0 : 0 ≤ n) (h6 : n ≤ 1000) : Calls Try.prog 57 #[.pointer (some ⟨b, 0, none⟩), .int .i64 n] w fun e w' =>
    e = .returned (laid (if n.toNat < vs.length then (vs.getD n.toNat v0, 0) else (v0, 3))) ∧ Below w.heap.size w w' := by
  obtain ⟨k, rfl⟩ := Int.eq_ofNat_of_zero_le h0
  rw [Int.toNat_natCast]
  have hlt := h.lt
  have hS := h.vals w (Below.refl _ _)
  obtain ⟨A, c, hB, hT⟩ := h.box
  have hbig := slV_len hS
  by_cases hk : k < vs.length
  · obtain ⟨b1, q1, hix, hc, _⟩ := hS.at v0 k hk
    have hof := fun W => thingOf_any (vs.getD k v0) W (hv _ (EvM.getD_mem hk)).1
    rw [if_pos hk, laid_ok]
    obtain ⟨x, hx⟩ : ∃ x, x = th (vs.getD k v0) := ⟨_, rfl⟩
    simp only [← hx] at hof
    rw [← hx]
    obtain ⟨c0, c1, c2⟩ := hc w (Below.refl _ _)
    obtain ⟨⟨vk, vn, vz⟩, hvv⟩ : ∃ v, v = vs.getD k v0 := ⟨_, rfl⟩
    rw [← hvv] at c0 c1 c2
    simp only [← hvv] at hof
    simp only at c0 c1 c2
    have HOf := Lib.hid hof
    have hi := fun W => hix W vs.length vc hk
    obtain ⟨n, hn⟩ : ∃ n, n = vs.length := ⟨_, rfl⟩
    simp only [← hn] at hB hi hbig hk
    obtain ⟨⟨p0, p1, p2⟩, _⟩ := hB
    have g1 : decide ((n : Int) ≤ (k : Int)) = false := by rw [decide_eq_false_iff_not]; omega
    have g2 : decide (n ≤ k) = false := by rw [decide_eq_false_iff_not]; omega
    clear h hT hS hix hc hx hof hvv hn hv
    go_enter Try.func57, Try.ntmps57
    go_wp2_with fail
    refine (HOf.out _).mono ?_
    rintro e w1 ⟨rfl, hb1⟩
    go_wp2_with fail
    go_ret2
    exact ⟨rfl, hb1⟩
  · rw [if_neg hk, laid_no _ (by decide)]
    obtain ⟨n, hn⟩ : ∃ n, n = vs.length := ⟨_, rfl⟩
    rw [← hn] at hB hbig hk
    obtain ⟨⟨p0, p1, p2⟩, _⟩ := hB
    have g1 : decide ((n : Int) ≤ (k : Int)) = true := by rw [decide_eq_true_iff]; omega
    have g2 : decide (n ≤ k) = true := by rw [decide_eq_true_iff]; omega
    clear h hT hS hn hv
    go_enter Try.func57, Try.ntmps57
    go_wp2_with fail
    go_ret2
    exact ⟨rfl, Below.refl _ _⟩

set_option maxRecDepth 100000 in
theorem not_none (h : Held b vs L vc kb [] w) : Calls Try.prog 58 #[.pointer (some ⟨b, 0, none⟩)] w fun e w' => e = .returned (laid (v0, 2)) ∧ w = w' := by
  rw [laid_no _ (by decide)]
  have HT := Lib.hid (take_none h)
  clear h
  go_enter Try.func58, Try.ntmps58
  go_wp2_with fail
  refine HT.out.mono ?_
  rintro e w1 ⟨rfl, rfl⟩
  go_wp2_with fail
  go_ret2
  exact ⟨rfl, rfl⟩

set_option maxRecDepth 100000 in
theorem not_some (h : Held b vs L vc kb p w) (hp : 0 < p.length) (hn : p.length ≤ 1000) : Calls Try.prog 58 #[.pointer (some ⟨b, 0, none⟩)] w fun e w' =>
    e = .returned (laid (if (p.getD (p.length - 1) v0).k ≠ 1 then (v0, 5) else (truth (decide ((p.getD (p.length - 1) v0).n = 0)), 0))) ∧ Held b vs L vc kb (p.take (p.length - 1)) w' ∧ w.grownBy w' (some b) := by
  have HT := Lib.hid (take_some h hp hn)
  have hm : VaM.May (p.getD (p.length - 1) v0) := by
    obtain ⟨A, c, _, hT⟩ := h.box
    exact (hT.2 _ (EvM.getD_mem (l := p) (i := p.length - 1) (by omega))).1
  obtain ⟨q, hq⟩ : ∃ q, q = p.take (p.length - 1) := ⟨_, rfl⟩
  rw [← hq] at HT ⊢
  obtain ⟨x, hx⟩ : ∃ x, x = p.getD (p.length - 1) v0 := ⟨_, rfl⟩
  rw [← hx] at HT hm ⊢
  clear h hx hq hp hn
  rcases may_ways hm with ⟨n, rfl⟩ | ⟨x, rfl⟩ | ⟨s, rfl⟩ | ⟨n, rfl⟩
  · rw [if_pos (show (0 : Int) ≠ 1 by decide), laid_no _ (by decide)]
    rw [th_0] at HT
    have z0 := as_0_1
    clear hm
    go_enter Try.func58, Try.ntmps58
    go_wp2_with fail
    refine HT.out.mono ?_
    rintro e w1 ⟨rfl, hh, hg⟩
    go_wp2_with fail
    go_ret2
    exact ⟨rfl, hh, hg⟩
  · rw [if_neg (show ¬ (truth x).k ≠ 1 from fun h => h rfl), laid_ok, th_1]
    rw [th_1] at HT
    have z0 := as_1_1
    clear hm
    cases x
    all_goals
      go_enter Try.func58, Try.ntmps58
      go_wp2_with fail
      refine HT.out.mono ?_
      rintro e w1 ⟨rfl, hh, hg⟩
      go_wp2_with fail
      go_ret2
      exact ⟨rfl, hh, hg⟩
  · rw [if_pos (show (2 : Int) ≠ 1 by decide), laid_no _ (by decide)]
    rw [th_2] at HT
    have z0 := as_2_1
    clear hm
    go_enter Try.func58, Try.ntmps58
    go_wp2_with fail
    refine HT.out.mono ?_
    rintro e w1 ⟨rfl, hh, hg⟩
    go_wp2_with fail
    go_ret2
    exact ⟨rfl, hh, hg⟩
  · rw [if_pos (show (3 : Int) ≠ 1 by decide), laid_no _ (by decide)]
    rw [th_3] at HT
    have z0 := as_3_1
    clear hm
    go_enter Try.func58, Try.ntmps58
    go_wp2_with fail
    refine HT.out.mono ?_
    rintro e w1 ⟨rfl, hh, hg⟩
    go_wp2_with fail
    go_ret2
    exact ⟨rfl, hh, hg⟩
end
end Go.Proofs.Ytochpomddfjkoaa.Ex

namespace Go.Proofs.Ytochpomddfjkoaa.Ex
open Go.RowKit Go.Proofs.Ytochpomddfjkoaa.BM Go.Proofs.Ytochpomddfjkoaa.LM Go.Proofs.Ytochpomddfjkoaa.VaM Go.Proofs.Ytochpomddfjkoaa.Va Go.Proofs.Ytochpomddfjkoaa.ExM Go.Proofs.Ytochpomddfjkoaa.EvM

set_option maxRecDepth 100000 in
set_option maxHeartbeats 8000000 in
theorem reckon_any (c : Int) (a b : V) (g : Nat) (u L : Value) (kb : Bool) (w : World) (hB : Bx w g u L (.bool kb)) (ha : VaM.May a) (hb : VaM.May b) (hra : Rng a) (hrb : Rng b) (hc : c = 2 ∨ c = 3 ∨ c = 4) :
    Calls Try.prog 65 #[.pointer (some ⟨g, 0, none⟩), .int .i64 c, th a, th b] w fun e w' => e = .returned (laid (twoW kb c a b)) ∧ Below w.heap.size w w' := by
  have hno : (a.k = 0 ∧ b.k = 0) ∨ twoW kb c a b = (v0, 5) := by
    have key : (a.k = 0 ∧ b.k = 0) ∨ two c a b = (v0, 5) := by
      by_cases h : a.k = b.k
      · by_cases h1 : a.k = 0
        · exact Or.inl ⟨h1, by omega⟩
        · exact Or.inr (two_n h (by omega) (by omega) (by omega) (by omega) h1)
      · exact Or.inr (two_k h)
    rcases key with h | h
    · exact Or.inl h
    · exact Or.inr (by rw [twoW_ok (by rw [h]; show ¬ (5 : Int) = 6; decide), h])
  obtain ⟨⟨p0, p1, p2⟩, _⟩ := hB
  rcases may_ways ha with ⟨n, rfl⟩ | ⟨x, rfl⟩ | ⟨s, rfl⟩ | ⟨n, rfl⟩
  · have z0 := as_0_0
    rcases may_ways hb with ⟨m, rfl⟩ | ⟨y, rfl⟩ | ⟨t, rfl⟩ | ⟨m, rfl⟩
    · have HR := Lib.hid (reckoned_any c n m w hra hrb hc)
      have hw : twoW kb c ⟨0, n, e0⟩ ⟨0, m, e0⟩ = if fits (arith c n m) = true ∨ kb = true then (⟨0, wrap64 (arith c n m), e0⟩, 0) else (v0, 6) := by
        unfold twoW
        rw [two_ar (a := ⟨0, n, e0⟩) (b := ⟨0, m, e0⟩) rfl (by omega) (by omega) (by omega) (by omega) rfl]
        by_cases hf : fits (arith c n m) = true
        · simp only [hf, if_true, true_or]
          rw [wrap_in (fits_iff.1 hf), if_neg (fun h => absurd h.2 (by decide))]
        · simp only [hf]
          cases kb <;> simp
      obtain ⟨R, hR⟩ : ∃ R, R = twoW kb c ⟨0, n, e0⟩ ⟨0, m, e0⟩ := ⟨_, rfl⟩
      rw [← hR]
      rw [← hR] at hw
      rw [th_0, th_0]
      unfold Reck at HR
      obtain ⟨z, hz⟩ : ∃ z, z = fits (arith c n m) := ⟨_, rfl⟩
      obtain ⟨N, hN⟩ : ∃ N, N = wrap64 (arith c n m) := ⟨_, rfl⟩
      rw [← hz, ← hN] at HR hw
      have HW := Lib.hid hw
      clear ha hb hc hno hra hrb hR hw hz hN
      cases z <;> cases kb
      all_goals
        go_enter Try.func65, Try.ntmps65
        go_wp2_with fail
        refine HR.out.mono ?_
        rintro e w1 ⟨rfl, rfl⟩
        go_wp2_with fail
        go_ret2
        exact ⟨ret_v (by rw [HW.out]; rfl), Below.refl _ _⟩
    · rw [th_0, th_1, show twoW kb c ⟨0, n, e0⟩ (truth y) = (v0, 5) from hno.resolve_left (fun h => absurd h.2 (show ¬ (1 : Int) = 0 by decide)), laid_no _ (by decide)]
      have z1 := as_1_0
      clear ha hb hc hno hra hrb
      go_enter Try.func65, Try.ntmps65
      go_wp2_with fail
      go_ret2
      exact ⟨rfl, Below.refl _ _⟩
    · rw [th_0, th_2, show twoW kb c ⟨0, n, e0⟩ (⟨2, 0, t⟩) = (v0, 5) from hno.resolve_left (fun h => absurd h.2 (show ¬ (2 : Int) = 0 by decide)), laid_no _ (by decide)]
      have z1 := as_2_0
      clear ha hb hc hno hra hrb
      go_enter Try.func65, Try.ntmps65
      go_wp2_with fail
      go_ret2
      exact ⟨rfl, Below.refl _ _⟩
    · rw [th_0, th_3, show twoW kb c ⟨0, n, e0⟩ (⟨3, m, e0⟩) = (v0, 5) from hno.resolve_left (fun h => absurd h.2 (show ¬ (3 : Int) = 0 by decide)), laid_no _ (by decide)]
      have z1 := as_3_0
      clear ha hb hc hno hra hrb
      go_enter Try.func65, Try.ntmps65
      go_wp2_with fail
      go_ret2
      exact ⟨rfl, Below.refl _ _⟩
  · rw [th_1, show twoW kb c (truth x) b = (v0, 5) from hno.resolve_left (fun h => absurd h.1 (show ¬ (1 : Int) = 0 by decide)), laid_no _ (by decide)]
    have z0 := as_1_0
    rcases may_ways hb with ⟨m, rfl⟩ | ⟨y, rfl⟩ | ⟨t, rfl⟩ | ⟨m, rfl⟩
    · rw [th_0]
      have z1 := as_0_0
      clear ha hb hc hno hra hrb
      go_enter Try.func65, Try.ntmps65
      go_wp2_with fail
      go_ret2
      exact ⟨rfl, Below.refl _ _⟩
    · rw [th_1]
      have z1 := as_1_0
      clear ha hb hc hno hra hrb
      go_enter Try.func65, Try.ntmps65
      go_wp2_with fail
      go_ret2
      exact ⟨rfl, Below.refl _ _⟩
    · rw [th_2]
      have z1 := as_2_0
      clear ha hb hc hno hra hrb
      go_enter Try.func65, Try.ntmps65
      go_wp2_with fail
      go_ret2
      exact ⟨rfl, Below.refl _ _⟩
    · rw [th_3]
      have z1 := as_3_0
      clear ha hb hc hno hra hrb
      go_enter Try.func65, Try.ntmps65
      go_wp2_with fail
      go_ret2
      exact ⟨rfl, Below.refl _ _⟩
  · rw [th_2, show twoW kb c (⟨2, 0, s⟩) b = (v0, 5) from hno.resolve_left (fun h => absurd h.1 (show ¬ (2 : Int) = 0 by decide)), laid_no _ (by decide)]
    have z0 := as_2_0
    rcases may_ways hb with ⟨m, rfl⟩ | ⟨y, rfl⟩ | ⟨t, rfl⟩ | ⟨m, rfl⟩
    · rw [th_0]
      have z1 := as_0_0
      clear ha hb hc hno hra hrb
      go_enter Try.func65, Try.ntmps65
      go_wp2_with fail
      go_ret2
      exact ⟨rfl, Below.refl _ _⟩
    · rw [th_1]
      have z1 := as_1_0
      clear ha hb hc hno hra hrb
      go_enter Try.func65, Try.ntmps65
      go_wp2_with fail
      go_ret2
      exact ⟨rfl, Below.refl _ _⟩
    · rw [th_2]
      have z1 := as_2_0
      clear ha hb hc hno hra hrb
      go_enter Try.func65, Try.ntmps65
      go_wp2_with fail
      go_ret2
      exact ⟨rfl, Below.refl _ _⟩
    · rw [th_3]
      have z1 := as_3_0
      clear ha hb hc hno hra hrb
      go_enter Try.func65, Try.ntmps65
      go_wp2_with fail
      go_ret2
      exact ⟨rfl, Below.refl _ _⟩
  · rw [th_3, show twoW kb c (⟨3, n, e0⟩) b = (v0, 5) from hno.resolve_left (fun h => absurd h.1 (show ¬ (3 : Int) = 0 by decide)), laid_no _ (by decide)]
    have z0 := as_3_0
    rcases may_ways hb with ⟨m, rfl⟩ | ⟨y, rfl⟩ | ⟨t, rfl⟩ | ⟨m, rfl⟩
    · rw [th_0]
      have z1 := as_0_0
      clear ha hb hc hno hra hrb
      go_enter Try.func65, Try.ntmps65
      go_wp2_with fail
      go_ret2
      exact ⟨rfl, Below.refl _ _⟩
    · rw [th_1]
      have z1 := as_1_0
      clear ha hb hc hno hra hrb
      go_enter Try.func65, Try.ntmps65
      go_wp2_with fail
      go_ret2
      exact ⟨rfl, Below.refl _ _⟩
    · rw [th_2]
      have z1 := as_2_0
      clear ha hb hc hno hra hrb
      go_enter Try.func65, Try.ntmps65
      go_wp2_with fail
      go_ret2
      exact ⟨rfl, Below.refl _ _⟩
    · rw [th_3]
      have z1 := as_3_0
      clear ha hb hc hno hra hrb
      go_enter Try.func65, Try.ntmps65
      go_wp2_with fail
      go_ret2
      exact ⟨rfl, Below.refl _ _⟩
end Go.Proofs.Ytochpomddfjkoaa.Ex

namespace Go.Proofs.Ytochpomddfjkoaa.Ex
open Go.RowKit Go.Proofs.Ytochpomddfjkoaa.BM Go.Proofs.Ytochpomddfjkoaa.LM Go.Proofs.Ytochpomddfjkoaa.VaM Go.Proofs.Ytochpomddfjkoaa.Va Go.Proofs.Ytochpomddfjkoaa.ExM Go.Proofs.Ytochpomddfjkoaa.EvM

theorem laid_is (r : V × Int) : ∃ x, laid r = .tuple #[x, .int .i64 r.2] := ⟨_, rfl⟩

theorem twoW_hi {kb : Bool} {c : Int} {a b : V} (h : c = 5 ∨ c = 6 ∨ c = 7 ∨ c = 8) : twoW kb c a b = two c a b := twoW_ok (fun h6 => by
  obtain ⟨_, _, h5, h6, h7, h8⟩ := two_6k h6
  omega)

section
variable {b vc : Nat} {vs p : List V} {L : Option Addr} {kb : Bool} {w : World}

set_option maxRecDepth 100000 in
theorem ofBoth_any (h : Held b vs L vc kb p w) (c : Int) (x y : V) (hx : VaM.May x) (hy : VaM.May y) (hrx : Rng x) (hry : Rng y) (hc : 2 ≤ c ∧ c ≤ 8) :
    Calls Try.prog 60 #[.pointer (some ⟨b, 0, none⟩), .int .i64 c, th x, th y] w fun e w' => e = .returned (laid (twoW kb c x y)) ∧ Below w.heap.size w w' := by
  obtain ⟨A, d, hB, _⟩ := h.box
  have hre := fun g => reckon_any c x y b _ _ kb w hB hx hy hrx hry g
  have hle := fun g : c = 5 => twoW_hi (kb := kb) (a := x) (b := y) (Or.inl g)
  have hal := fun g : c = 6 => twoW_hi (kb := kb) (a := x) (b := y) (Or.inr (Or.inl g))
  have hju := fun g : c = 7 ∨ c = 8 => twoW_hi (kb := kb) (a := x) (b := y) (Or.inr (Or.inr g))
  have hL := less_own x y w hx hy
  have hA := alike_any x y w hx hy
  have hJ := fun g => judge_any c x y w hx hy g
  clear h hB hx hy hrx hry
  have hway : c = 2 ∨ c = 3 ∨ c = 4 ∨ c = 5 ∨ c = 6 ∨ c = 7 ∨ c = 8 := by omega
  obtain ⟨tx, htx⟩ : ∃ t, t = th x := ⟨_, rfl⟩
  obtain ⟨ty, hty⟩ : ∃ t, t = th y := ⟨_, rfl⟩
  simp only [← htx, ← hty] at hre hL hA hJ
  rw [← htx, ← hty]
  clear htx hty hc
  obtain ⟨R, hR⟩ : ∃ R, R = twoW kb c x y := ⟨_, rfl⟩
  have hf : ∃ C : Calls Try.prog (if c = 5 then 66 else if c = 6 then 67 else if c = 7 ∨ c = 8 then 68 else 65) (if c = 5 ∨ c = 6 then #[tx, ty] else if c = 7 ∨ c = 8 then #[.int .i64 c, tx, ty] else #[.pointer (some ⟨b, 0, none⟩), .int .i64 c, tx, ty]) w fun e w' => e = .returned (laid R) ∧ Below w.heap.size w w', True := by
    rcases hway with rfl | rfl | rfl | rfl | rfl | rfl | rfl
    · exact ⟨by rw [hR]; exact hre (Or.inl rfl), trivial⟩
    · exact ⟨by rw [hR]; exact hre (Or.inr (Or.inl rfl)), trivial⟩
    · exact ⟨by rw [hR]; exact hre (Or.inr (Or.inr rfl)), trivial⟩
    · exact ⟨by rw [hR, hle rfl]; exact hL, trivial⟩
    · exact ⟨by rw [hR, hal rfl]; exact hA, trivial⟩
    · exact ⟨by rw [hR, hju (Or.inl rfl)]; exact hJ (Or.inl rfl), trivial⟩
    · exact ⟨by rw [hR, hju (Or.inr rfl)]; exact hJ (Or.inr rfl), trivial⟩
  obtain ⟨hf, _⟩ := hf
  rw [← hR]
  obtain ⟨X, hX⟩ := laid_is R
  rw [hX]
  rw [hX] at hf
  clear hre hle hal hju hL hA hJ hR hX
  obtain ⟨r0, r⟩ := R
  simp only at hf ⊢
  rcases hway with rfl | rfl | rfl | rfl | rfl | rfl | rfl
  all_goals
    have HF := Lib.hid hf
    clear hf
    go_enter Try.func60, Try.ntmps60
    go_wp2_with fail
    refine HF.out.mono ?_
    rintro e w1 ⟨rfl, hb1⟩
    go_wp2_with fail
    go_ret2
    exact ⟨rfl, hb1⟩
end
end Go.Proofs.Ytochpomddfjkoaa.Ex

namespace Go.Proofs.Ytochpomddfjkoaa.Ex
open Go.RowKit Go.Proofs.Ytochpomddfjkoaa.BM Go.Proofs.Ytochpomddfjkoaa.LM Go.Proofs.Ytochpomddfjkoaa.VaM Go.Proofs.Ytochpomddfjkoaa.Va Go.Proofs.Ytochpomddfjkoaa.ExM Go.Proofs.Ytochpomddfjkoaa.EvM
open Go.Proofs.Ytochpomddfjkoaa.Sc (grown_set grown_trans)

section
variable {b vc : Nat} {vs p : List V} {L : Option Addr} {kb : Bool} {w : World}

theorem held_may (h : Held b vs L vc kb p w) {i : Nat} (hi : i < p.length) : VaM.May (p.getD i v0) ∧ Rng (p.getD i v0) := by
  obtain ⟨A, c, _, hT⟩ := h.box
  exact hT.2 _ (EvM.getD_mem (l := p) (i := i) hi)

/-- What comesOf answers. -/
def Comes (b : Nat) (vs : List V) (L : Option Addr) (vc : Nat) (kb : Bool) (w : World) (r : List V × V × Int) (e : Ending) (w' : World) : Prop := e = .returned (laid r.2) ∧ (r.2.2 = 0 → Held b vs L vc kb r.1 w') ∧ w.grownBy w' (some b)

set_option maxRecDepth 100000 in
theorem comes_push (h : Held b vs L vc kb p w) (k a : Int) (v : V) (hk : k = 0) (hv : VaM.May v) : Calls Try.prog 48 #[.pointer (some ⟨b, 0, none⟩), agO ⟨k, a, v⟩] w (Comes b vs L vc kb w (p, v, 0)) := by
  subst hk
  have HT := Lib.hid (fun W => thingOf_any v W hv)
  obtain ⟨x, hx⟩ : ∃ x, x = th v := ⟨_, rfl⟩
  unfold Comes
  simp only [laid_ok]
  rw [← hx] at HT ⊢
  obtain ⟨q0, q1, q2, q3, q4⟩ := (bxO_new w ⟨0, a, v⟩).cells
  have ha := (Below.refl w.heap.size w).alloc (Nat.le_refl _) (.cells #[.int .i64 0, .int .i64 a, .int .i64 v.k, .int .i64 v.n, .string v.s] 57)
  have HB := Lib.hid ha
  have HH := Lib.hid h
  obtain ⟨vk, vn, vz⟩ := v
  simp only at q0 q1 q2 q3 q4 HT HB
  unfold agO
  clear h hv hx ha
  simp only
  go_enter Try.func48, Try.ntmps48
  go_wp2_with fail
  refine (HT.out _).mono ?_
  rintro e w1 ⟨rfl, hb1⟩
  go_wp2_with fail
  go_ret2
  have hb := bt HB.out hb1
  exact ⟨rfl, fun _ => HH.out.kept hb, grown_of_below hb⟩

set_option maxRecDepth 100000 in
theorem comes_load (h : Held b vs L vc kb p w) (hvs : ∀ x ∈ vs, VaM.May x ∧ Rng x) (k a : Int) (v : V) (hk : k = 1) (h0 : 0 ≤ a) (h6 : a ≤ 1000) :
    Calls Try.prog 48 #[.pointer (some ⟨b, 0, none⟩), agO ⟨k, a, v⟩] w (Comes b vs L vc kb w (if a.toNat < vs.length then (p, vs.getD a.toNat v0, 0) else (p, v0, 3))) := by
  subst hk
  have ha := (Below.refl w.heap.size w).alloc (Nat.le_refl _) (.cells #[.int .i64 1, .int .i64 a, .int .i64 v.k, .int .i64 v.n, .string v.s] 57)
  have hl := load_any (h.kept ha) hvs a h0 h6
  have he : (if a.toNat < vs.length then (p, vs.getD a.toNat v0, 0) else (p, v0, 3)) = (p, if a.toNat < vs.length then (vs.getD a.toNat v0, (0 : Int)) else (v0, 3)) := by split <;> rfl
  rw [he]
  obtain ⟨R, hR⟩ : ∃ R, R = (if a.toNat < vs.length then (vs.getD a.toNat v0, (0 : Int)) else (v0, 3)) := ⟨_, rfl⟩
  rw [← hR] at hl ⊢
  obtain ⟨X, hX⟩ := laid_is R
  unfold Comes
  simp only [hX]
  rw [hX] at hl
  obtain ⟨r0, r⟩ := R
  simp only at hl ⊢
  have HL := Lib.hid hl
  obtain ⟨q0, q1, q2, q3, q4⟩ := (bxO_new w ⟨1, a, v⟩).cells
  have HB := Lib.hid ha
  have HH := Lib.hid h
  obtain ⟨vk, vn, vz⟩ := v
  simp only at q0 q1 q2 q3 q4 HB HL
  unfold agO
  clear h hvs ha hl he hX hR
  simp only
  go_enter Try.func48, Try.ntmps48
  go_wp2_with fail
  refine HL.out.mono ?_
  rintro e w1 ⟨rfl, hb1⟩
  go_wp2_with fail
  go_ret2
  have hb := bt HB.out hb1
  exact ⟨rfl, fun _ => HH.out.kept hb, grown_of_below hb⟩

set_option maxRecDepth 100000 in
theorem comes_not (h : Held b vs L vc kb p w) (hn : p.length ≤ 1000) (k a : Int) (v : V) (hk : k = 9) :
    Calls Try.prog 48 #[.pointer (some ⟨b, 0, none⟩), agO ⟨k, a, v⟩] w (Comes b vs L vc kb w (if p.length < 1 then (p, v0, 2) else if (p.getD (p.length - 1) v0).k ≠ 1 then (p.take (p.length - 1), v0, 5) else (p.take (p.length - 1), truth (decide ((p.getD (p.length - 1) v0).n = 0)), 0))) := by
  subst hk
  have ha := (Below.refl w.heap.size w).alloc (Nat.le_refl _) (.cells #[.int .i64 9, .int .i64 a, .int .i64 v.k, .int .i64 v.n, .string v.s] 57)
  have HB := Lib.hid ha
  obtain ⟨q0, q1, q2, q3, q4⟩ := (bxO_new w ⟨9, a, v⟩).cells
  by_cases hp : p.length < 1
  · rw [if_pos hp]
    obtain rfl : p = [] := List.length_eq_zero_iff.1 (by omega)
    have HN := Lib.hid (not_none (h.kept ha))
    unfold Comes
    simp only
    rw [laid_no _ (by decide)] at HN ⊢
    obtain ⟨vk, vn, vz⟩ := v
    simp only at q0 q1 q2 q3 q4 HB HN
    unfold agO
    clear h ha hn hp
    simp only
    go_enter Try.func48, Try.ntmps48
    go_wp2_with fail
    refine HN.out.mono ?_
    rintro e w1 ⟨rfl, rfl⟩
    go_wp2_with fail
    go_ret2
    exact ⟨rfl, fun h => absurd h (by decide), grown_of_below HB.out⟩
  · rw [if_neg hp]
    have hl := not_some (h.kept ha) (by omega) hn
    have he : (if (p.getD (p.length - 1) v0).k ≠ 1 then (p.take (p.length - 1), v0, 5) else (p.take (p.length - 1), truth (decide ((p.getD (p.length - 1) v0).n = 0)), 0)) = (p.take (p.length - 1), if (p.getD (p.length - 1) v0).k ≠ 1 then (v0, (5 : Int)) else (truth (decide ((p.getD (p.length - 1) v0).n = 0)), 0)) := by split <;> rfl
    rw [he]
    obtain ⟨R, hR⟩ : ∃ R, R = (if (p.getD (p.length - 1) v0).k ≠ 1 then (v0, (5 : Int)) else (truth (decide ((p.getD (p.length - 1) v0).n = 0)), 0)) := ⟨_, rfl⟩
    rw [← hR] at hl ⊢
    obtain ⟨X, hX⟩ := laid_is R
    unfold Comes
    simp only [hX]
    rw [hX] at hl
    obtain ⟨r0, r⟩ := R
    simp only at hl ⊢
    obtain ⟨q, hq⟩ : ∃ q, q = p.take (p.length - 1) := ⟨_, rfl⟩
    rw [← hq] at hl ⊢
    have HL := Lib.hid hl
    obtain ⟨vk, vn, vz⟩ := v
    simp only at q0 q1 q2 q3 q4 HB HL
    unfold agO
    clear h ha hl he hX hR hn hp hq
    simp only
    go_enter Try.func48, Try.ntmps48
    go_wp2_with fail
    refine HL.out.mono ?_
    rintro e w1 ⟨rfl, hh, hg⟩
    go_wp2_with fail
    go_ret2
    exact ⟨rfl, fun _ => hh, grown_trans (grown_of_below HB.out) hg⟩

set_option maxRecDepth 100000 in
theorem comes_two (h : Held b vs L vc kb p w) (hn : p.length ≤ 1000) (k a : Int) (v : V) (hk : 2 ≤ k ∧ k ≤ 8) :
    Calls Try.prog 48 #[.pointer (some ⟨b, 0, none⟩), agO ⟨k, a, v⟩] w (Comes b vs L vc kb w (if p.length < 2 then (p, v0, 2) else (p.take (p.length - 2), twoW kb k (p.getD (p.length - 2) v0) (p.getD (p.length - 1) v0)))) := by
  have ha := (Below.refl w.heap.size w).alloc (Nat.le_refl _) (.cells #[.int .i64 k, .int .i64 a, .int .i64 v.k, .int .i64 v.n, .string v.s] 57)
  have HB := Lib.hid ha
  have hX := bxO_new w ⟨k, a, v⟩
  obtain ⟨q0, q1, q2, q3, q4⟩ := hX.cells
  have HX := Lib.hid hX
  have hH := h.kept ha
  have hlt := h.lt
  have g0 : (k == 0) = false := by simpa using (show k ≠ 0 by omega)
  have g1 : (k == 1) = false := by simpa using (show k ≠ 1 by omega)
  have g9 : (k == 9) = false := by simpa using (show k ≠ 9 by omega)
  by_cases hp0 : p.length = 0
  · rw [if_pos (by omega)]
    obtain rfl : p = [] := List.length_eq_zero_iff.1 hp0
    have HN := Lib.hid (take_none hH)
    unfold Comes
    simp only
    rw [laid_no _ (by decide)]
    obtain ⟨vk, vn, vz⟩ := v
    simp only at q0 q1 q2 q3 q4 HB HN
    unfold agO
    clear h ha hn hp0 hX HX hH
    simp only
    go_enter Try.func48, Try.ntmps48
    go_wp2_with fail
    refine HN.out.mono ?_
    rintro e w1 ⟨rfl, rfl⟩
    go_wp2_with fail
    refine HN.out.mono ?_
    rintro e w1 ⟨rfl, rfl⟩
    go_wp2_with fail
    go_ret2
    exact ⟨rfl, fun h => absurd h (by decide), grown_of_below HB.out⟩
  · have HT := Lib.hid (take_some hH (by omega) hn)
    have hmx := held_may h (i := p.length - 1) (by omega)
    have hlq : (p.take (p.length - 1)).length = p.length - 1 := by rw [List.length_take]; omega
    by_cases hp1 : p.length = 1
    · rw [if_pos (by omega)]
      have he : p.take (p.length - 1) = [] := by rw [hp1]; rfl
      rw [he] at HT
      obtain ⟨x, hx⟩ : ∃ x, x = th (p.getD (p.length - 1) v0) := ⟨_, rfl⟩
      rw [← hx] at HT
      unfold Comes
      simp only
      rw [laid_no _ (by decide)]
      obtain ⟨vk, vn, vz⟩ := v
      simp only at q0 q1 q2 q3 q4 HB HT
      unfold agO
      clear h ha hn hp0 hX HX hH hmx hlq hp1 he hx
      simp only
      go_enter Try.func48, Try.ntmps48
      go_wp2_with fail
      refine HT.out.mono ?_
      rintro e w1 ⟨rfl, hh, hg⟩
      have HG := Lib.hid (grown_trans (grown_of_below HB.out) hg)
      have HN := Lib.hid (take_none hh)
      clear hh hg q0 q1 q2 q3 q4
      go_wp2_with fail
      refine HN.out.mono ?_
      rintro e w2 ⟨rfl, rfl⟩
      go_wp2_with fail
      go_ret2
      exact ⟨rfl, fun h => absurd h (by decide), HG.out⟩
    · rw [if_neg (by omega)]
      have hmy := held_may h (i := p.length - 2) (by omega)
      have hgq : (p.take (p.length - 1)).getD (p.length - 1 - 1) v0 = p.getD (p.length - 2) v0 := by
        rw [List.getD_eq_getElem?_getD, List.getD_eq_getElem?_getD, List.getElem?_take, if_pos (by omega), show p.length - 1 - 1 = p.length - 2 from by omega]
      have htq : (p.take (p.length - 1)).take (p.length - 1 - 1) = p.take (p.length - 2) := by rw [List.take_take]; congr 1; omega
      have HT2 := Lib.hid (fun W (hh : Held b vs L vc kb (p.take (p.length - 1)) W) => by
        have := take_some hh (by omega) (by omega)
        rw [hlq, hgq, htq] at this
        exact this)
      obtain ⟨q, hq⟩ : ∃ q, q = p.take (p.length - 1) := ⟨_, rfl⟩
      obtain ⟨q2', hq2⟩ : ∃ q, q = p.take (p.length - 2) := ⟨_, rfl⟩
      obtain ⟨y, hy⟩ : ∃ x, x = p.getD (p.length - 1) v0 := ⟨_, rfl⟩
      obtain ⟨x, hx⟩ : ∃ x, x = p.getD (p.length - 2) v0 := ⟨_, rfl⟩
      rw [← hq, ← hy] at HT
      rw [← hq, ← hq2, ← hx] at HT2
      rw [← hy] at hmx
      rw [← hx] at hmy
      rw [← hq2, ← hx, ← hy]
      have HOf := Lib.hid (fun W (hh : Held b vs L vc kb q2' W) => ofBoth_any hh k x y hmy.1 hmx.1 hmy.2 hmx.2 hk)
      obtain ⟨R, hR⟩ : ∃ R, R = twoW kb k x y := ⟨_, rfl⟩
      rw [← hR] at HOf ⊢
      obtain ⟨X, hXl⟩ := laid_is R
      unfold Comes
      simp only [hXl]
      rw [hXl] at HOf
      obtain ⟨r0, r⟩ := R
      simp only at HOf ⊢
      obtain ⟨tx, htx⟩ : ∃ t, t = th x := ⟨_, rfl⟩
      obtain ⟨ty, hty⟩ : ∃ t, t = th y := ⟨_, rfl⟩
      rw [← hty] at HT
      rw [← htx] at HT2
      rw [← htx, ← hty] at HOf
      obtain ⟨vk, vn, vz⟩ := v
      simp only at q0 q1 q2 q3 q4 HB HT HX
      unfold agO
      clear h ha hn hp0 hX hH hmx hmy hlq hp1 hgq htq hq hq2 hx hy hR hXl htx hty
      simp only
      go_enter Try.func48, Try.ntmps48
      go_wp2_with fail
      refine HT.out.mono ?_
      rintro e w1 ⟨rfl, hh, hg⟩
      have HG := Lib.hid (grown_trans (grown_of_below HB.out) hg)
      have hx1 := RG.BxN.grown HX.out hg (fun e => by injection e with e; omega)
      have HX1 := Lib.hid hx1
      have HN := Lib.hid (HT2.out w1 hh)
      clear hh hg q0 q1 q2 q3 q4 hx1 HT2 HX HT HB
      go_wp2_with fail
      refine HN.out.mono ?_
      rintro e w2 ⟨rfl, hh, hg⟩
      have HG2 := Lib.hid (grown_trans HG.out hg)
      have hx1 := RG.BxN.grown HX1.out hg (fun e => by injection e with e; omega)
      obtain ⟨q0, q1, q2, q3, q4⟩ := (show BxO w2 w.heap.size ⟨k, a, ⟨vk, vn, vz⟩⟩ from hx1).cells
      simp only at q0 q1 q2 q3 q4
      have HO := Lib.hid (HOf.out w2 hh)
      have HH := Lib.hid hh
      clear hh hg hx1 HX1 HN HG HOf
      go_wp2_with fail
      refine HO.out.mono ?_
      rintro e w3 ⟨rfl, hb3⟩
      go_wp2_with fail
      go_ret2
      exact ⟨rfl, fun _ => HH.out.kept hb3, grown_trans HG2.out (grown_of_below hb3)⟩

/-- What a part lays on the pile. -/
theorem comes_any (h : Held b vs L vc kb p w) (hvs : ∀ x ∈ vs, VaM.May x ∧ Rng x) (hn : p.length ≤ 1000) (o : O) (ho : Ok o) : Calls Try.prog 48 #[.pointer (some ⟨b, 0, none⟩), agO o] w (Comes b vs L vc kb w (goes vs kb o p)) := by
  obtain ⟨c, a, v⟩ := o
  obtain ⟨h1, h2, h3, h4, _, h6, _⟩ := ho
  simp only at h1 h2 h3 h4 h6
  unfold goes
  simp only
  by_cases c0 : c = 0
  · rw [if_pos c0]
    exact comes_push h c a v c0 h6
  · rw [if_neg c0]
    by_cases c1 : c = 1
    · rw [if_pos c1]
      exact comes_load h hvs c a v c1 h3 (by omega)
    · rw [if_neg c1]
      by_cases c9 : c = 9
      · rw [if_pos c9]
        exact comes_not h hn c a v c9
      · rw [if_neg c9]
        exact comes_two h hn c a v (by omega)
end
end Go.Proofs.Ytochpomddfjkoaa.Ex

namespace Go.Proofs.Ytochpomddfjkoaa.Ex
open Go.RowKit Go.Proofs.Ytochpomddfjkoaa.BM Go.Proofs.Ytochpomddfjkoaa.LM Go.Proofs.Ytochpomddfjkoaa.VaM Go.Proofs.Ytochpomddfjkoaa.Va Go.Proofs.Ytochpomddfjkoaa.ExM Go.Proofs.Ytochpomddfjkoaa.EvM
open Go.Proofs.Ytochpomddfjkoaa.Sc (grown_set grown_trans)

/-- What the loop carries. -/
structure Go8 (b : Nat) (vs : List V) (L : Option Addr) (vc : Nat) (kb : Bool) (l : List O) (R : V × Int) (w : World) (j : Nat) (p : List V) (wr : World) : Prop where
  few : p.length ≤ j
  held : Held b vs L vc kb p wr
  run : runW vs kb (l.drop j) p = R
  bel : Below b w wr

set_option maxRecDepth 100000 in
set_option maxHeartbeats 8000000 in
theorem through_own {b vc : Nat} {vs : List V} {L : Option Addr} {kb : Bool} {w : World} (h : Held b vs L vc kb [] w) (hvs : ∀ x ∈ vs, VaM.May x ∧ Rng x) (l : List O) (B : Option Addr) (d : Nat) (hO : ∀ W, Below b w W → SlO W B l d) (hom : ∀ x ∈ l, Ok x) (hlen : l.length ≤ 12) :
    Calls Try.prog 41 #[.pointer (some ⟨b, 0, none⟩), .slice B l.length d] w fun e w' => e = .returned (laid (runW vs kb l [])) ∧ Below b w w' := by
  have hcm := fun (j : Nat) (hj : j < l.length) (p : List V) (hp : p.length ≤ 1000) W (hW : Held b vs L vc kb p W) => comes_any hW hvs hp _ (hom _ (ExM.getD_mem (l := l) (i := j) hj))
  have hmy := fun (j : Nat) (hj : j < l.length) (p : List V) => goes_may (wr := kb) (p := p) hvs ⟨(hom _ (ExM.getD_mem (l := l) (i := j) hj)).2.2.2.2.2.1, (hO w (Below.refl _ _)).rngs _ (ExM.getD_mem (l := l) (i := j) hj)⟩
  have hdr := fun (j : Nat) (hj : j < l.length) (p : List V) => runW_drop vs kb l j p hj
  have hat := fun (j : Nat) (hj : j < l.length) W (hW : Below b w W) => (hO W hW).at j hj
  have hgl := fun (o : O) (p : List V) => @goes_len vs kb o p
  have hend : ∀ p, runW vs kb (l.drop l.length) p = if p.length = 1 then (p.getD 0 v0, 0) else (v0, 2) := fun p => by rw [List.drop_length, runW]
  obtain ⟨R, hR⟩ : ∃ R, R = runW vs kb l [] := ⟨_, rfl⟩
  have hst : Go8 b vs L vc kb l R w 0 [] w := ⟨Nat.le_refl _, h, by rw [hR]; rfl, Below.refl _ _⟩
  rw [← hR]
  obtain ⟨n, hn⟩ : ∃ n, n = l.length := ⟨_, rfl⟩
  simp only [← hn] at hcm hmy hdr hat hend hlen
  rw [← hn]
  have HCm := Lib.hid hcm
  have HMy := Lib.hid hmy
  have HDr := Lib.hid hdr
  have HAt := Lib.hid hat
  have HGl := Lib.hid hgl
  have HEnd := Lib.hid hend
  have HSt := Lib.hid hst
  clear hcm hmy hdr hat hgl hend hst hR hn h hvs hO hom
  go_enter Try.func41, Try.ntmps41
  go_wp2_with fail
  go_loopw [12] (fun i wr => ∃ (j : Nat) (p : List V), i = .int .i64 j ∧ j ≤ n ∧ Go8 b vs L vc kb l R w j p wr) (fun i _ => n - (intOf i).toNat)
  case atStart => exact ⟨0, [], rfl, Nat.zero_le _, HSt.out⟩
  case round =>
    obtain ⟨j, p, rfl, hj, hst⟩ := hrel
    have hfew := hst.few
    have HHd := Lib.hid hst.held
    have HRun := Lib.hid hst.run
    have HBl := Lib.hid hst.bel
    clear hst HSt
    by_cases hjn : j < n
    · obtain ⟨b1, q1, hix, hc, _⟩ := HAt.out j hjn wr HBl.out
      obtain ⟨c0, c1, c2, c3, c4⟩ := hc wr (Below.refl _ _)
      have hi := fun W => hix W n d hjn
      have hX := bxO_new wr (l.getD j o0)
      obtain ⟨r0, r1, r2, r3, r4⟩ := hX.cells
      have ha := (Below.refl wr.heap.size wr).alloc (Nat.le_refl _) (.cells #[.int .i64 (l.getD j o0).c, .int .i64 (l.getD j o0).a, .int .i64 (l.getD j o0).v.k, .int .i64 (l.getD j o0).v.n, .string (l.getD j o0).v.s] 57)
      have hcm := HCm.out j hjn p (by omega) _ (HHd.out.kept ha)
      have hdr := HDr.out j hjn p
      have hmy := HMy.out j hjn p
      have hgl := HGl.out (l.getD j o0) p
      obtain ⟨G, hG⟩ : ∃ G, G = goes vs kb (l.getD j o0) p := ⟨_, rfl⟩
      rw [← hG] at hcm hdr hmy hgl
      rw [HRun.out] at hdr
      have hlb := HHd.out.lt
      have HBa := Lib.hid (HBl.out.trans (ha.mono (by omega)))
      unfold agO at hcm
      obtain ⟨⟨oc, oa, ⟨ok, on, os⟩⟩, ho⟩ : ∃ o, o = l.getD j o0 := ⟨_, rfl⟩
      rw [← ho] at c0 c1 c2 c3 c4 r0 r1 r2 r3 r4 hcm HBa
      simp only at c0 c1 c2 c3 c4 r0 r1 r2 r3 r4 hcm HBa
      obtain ⟨q, x, r⟩ := G
      simp only at hdr hmy hgl
      have HCo := Lib.hid hcm
      have HDj := Lib.hid hdr
      have HMx := Lib.hid hmy
      clear hix hc hX ha hcm hdr hmy ho hG HRun HHd HCm HMy HDr HAt HGl
      go_wp2_with fail
      refine HCo.out.mono ?_
      rintro e w3 ⟨rfl, hh3, hg3⟩
      have HB3 := Lib.hid (HBa.out.trans (below_of_grown hg3 (by simp; omega)))
      have HH3 := Lib.hid hh3
      clear hh3 hg3 HCo c0 c1 c2 c3 c4 r0 r1 r2 r3 r4 hi
      by_cases hr : r = 0
      · subst hr
        rw [laid_ok]
        have hdj := HDj.out
        rw [if_pos rfl] at hdj
        have HDk := Lib.hid hdj
        have hh3 := HH3.out rfl
        obtain ⟨A3, d3, hB3, hT3⟩ := hh3.box
        have hb3lt := hB3.lt
        have ha4 := (Below.refl w3.heap.size w3).alloc (Nat.le_refl _) (.cells #[th x] 75)
        have HT4 := Lib.hid (hT3.kept ha4)
        have HX4 := Lib.hid (hB3.kept ha4)
        have HB4 := Lib.hid (HB3.out.trans (ha4.mono (by omega)))
        have HN4 := Lib.hid (thing_new w3 x)
        have hV3 := hh3.vals
        have HV3 := Lib.hid hV3
        have hsz4 := ha4.size
        obtain ⟨tT, tx, htx⟩ := th_is x
        rw [htx] at HT4 HX4 HB4 HN4 hsz4 ha4 ⊢
        obtain ⟨qn, hqn⟩ : ∃ n, n = q.length := ⟨_, rfl⟩
        rw [← hqn] at hB3 HX4 HT4 hgl
        have HQn := Lib.hid hqn
        have HTx := Lib.hid htx
        have HA4 := Lib.hid ha4
        obtain ⟨⟨p0, p1, p2⟩, _⟩ := hB3
        have hT4 := HT4.out.1
        rw [← hqn] at hT4
        have HO4 := Lib.hid hT4
        clear hdj hh3 hT3 ha4 hV3 HH3 HDj hqn htx hT4
        go_wp2_with (at_builtin; refine wp_append_t rfl (.tmp 29) (.tmp 31) rfl (b + 1) _ qn q rfl HO4.out (some ⟨w3.heap.size, 0, none⟩) 1 1 [x] rfl rfl HN4.out (by omega) (by omega) ?_; intro u5 w5 hown5 hgrow5; refine pause ?_)
        have hne : ∀ k, k < b + 1 → some k ≠ (Value.slice A3 qn d3).ownBlock := fun k hk e => by have := (HO4.out.lt _ e.symm).1; omega
        have hx5 := HX4.out.grown hgrow5 (hne b (by omega))
        obtain ⟨A5, d5, rfl⟩ := RG.own_is hown5
        have HX5 := Lib.hid hx5
        have hx6 := bx_set0 hx5 (.slice A5 (qn + 1) d5)
        have hset := grown_set w5 b 0 (.slice A5 (qn + 1) d5)
        have hbl5 : Below b w w5 := HB4.out.grown hgrow5 (by omega) (fun k hk => by have := (HO4.out.lt k hk).1; omega)
        have hbl6 := hbl5.trans (below_of_grown hset (by have := hx5.lt; omega))
        have hql : (q ++ [x]).length = qn + 1 := by rw [List.length_append, HQn.out]; rfl
        have hh6 : Held b vs L vc kb (q ++ [x]) (w5.setCell ⟨b, 0, none⟩ (.slice A5 (qn + 1) d5)) := by
          refine ⟨⟨A5, d5, by rw [hql]; exact hx6, ?_⟩, fun W hW => HV3.out W ?_⟩
          · rw [hql]
            refine Things.grown (w := w5) ⟨by rw [hql]; exact hown5, fun y hy => ?_⟩ hset (Nat.lt_succ_self _)
            rcases List.mem_append.1 hy with hy | hy
            · exact HT4.out.2 y hy
            · rw [List.mem_singleton.1 hy]
              exact HMx.out
          · exact (((HA4.out.mono (by omega : b ≤ w3.heap.size)).grown hgrow5 (by omega) (fun k hk => by have := (HO4.out.lt k hk).1; omega)).trans (below_of_grown hset (by have := hx5.lt; omega))).trans hW
        have HH6 := Lib.hid hh6
        have HB6 := Lib.hid hbl6
        obtain ⟨⟨p0, p1, p2⟩, p3, _⟩ := HX5.out
        clear hown5 hgrow5 hx5 hx6 hset hbl5 hbl6 hql hh6 hne
        unfold Pause
        go_wp2_with fail
        go_roundw
        case rel => exact ⟨j + 1, q ++ [x], by go_num, by omega, by rw [List.length_append, ← HQn.out]; simp only [List.length_cons, List.length_nil]; omega, HH6.out, HDk.out.symm, HB6.out⟩
        case measure => simp [intOf]; omega
      · have hr' : (r != 0) = true := by simpa using hr
        have hdj := HDj.out
        rw [if_neg hr] at hdj
        have HRe := Lib.hid (show laid R = .tuple #[.nilIface, .int .i64 r] from by rw [hdj, laid_no _ hr])
        rw [laid_no _ hr]
        clear hdj HDj hr
        go_wp2_with fail
        go_ret2
        exact ⟨ret_v (x := .tuple #[.nilIface, .int .i64 r]) (by rw [HRe.out]), HB3.out⟩
    · obtain rfl : j = n := by omega
      have hrun := HRun.out
      rw [HEnd.out] at hrun
      obtain ⟨A3, d3, hB3, hT3⟩ := HHd.out.box
      obtain ⟨m, hm⟩ : ∃ m, m = p.length := ⟨_, rfl⟩
      by_cases h1 : p.length = 1
      · rw [if_pos h1] at hrun
        obtain ⟨g, _, hix, hc⟩ := hT3.at 0 (by omega)
        rw [h1] at hB3 hix
        obtain ⟨x, hx⟩ : ∃ x, x = th (p.getD 0 v0) := ⟨_, rfl⟩
        have HRe := Lib.hid (show laid R = .tuple #[x, .int .i64 0] from by rw [← hrun, laid_ok, hx])
        rw [← hx] at hc
        have hi : ∀ W, (Instr.indexAt 71 (.slice A3 1 d3) (.int .i64 0)).run Try.prog W = .ok (.pointer (some ⟨g, 0, none⟩)) W := hix
        obtain ⟨⟨p0, p1, p2⟩, _⟩ := hB3
        clear hrun hT3 hx hm h1 hix HRun HHd
        go_wp2_with fail
        go_ret2
        exact ⟨ret_v (x := .tuple #[x, .int .i64 0]) (by rw [HRe.out]), HBl.out⟩
      · rw [if_neg h1] at hrun
        have HRe := Lib.hid (show laid R = .tuple #[.nilIface, .int .i64 2] from by rw [← hrun, laid_no _ (by decide)])
        rw [← hm] at hB3 h1
        have hm1 : ((m : Int) != 1) = true := by simp only [bne_iff_ne, ne_eq]; omega
        have hm2 : (m != 1) = true := by simp only [bne_iff_ne, ne_eq]; omega
        obtain ⟨⟨p0, p1, p2⟩, _⟩ := hB3
        clear hrun hT3 hm HRun HHd
        go_wp2_with fail
        go_ret2
        exact ⟨ret_v (x := .tuple #[.nilIface, .int .i64 2]) (by rw [HRe.out]), HBl.out⟩
end Go.Proofs.Ytochpomddfjkoaa.Ex

namespace Go.Proofs.Ytochpomddfjkoaa.Ex
open Go.RowKit Go.Proofs.Ytochpomddfjkoaa.BM Go.Proofs.Ytochpomddfjkoaa.VaM Go.Proofs.Ytochpomddfjkoaa.Va Go.Proofs.Ytochpomddfjkoaa.ExM Go.Proofs.Ytochpomddfjkoaa.EvM

set_option maxRecDepth 100000 in
set_option maxHeartbeats 4000000 in
theorem mayPart_any (x : O) (w : World) : Calls Try.prog 45 #[agO x] w fun e w' => e = .returned (.bool (decide (Ok x))) ∧ Below w.heap.size w w' := by
  obtain ⟨c, a, ⟨k, n, s⟩⟩ := x
  have hq := neq_v k n 0 0 s ⟨#[]⟩
  have hs : same ⟨k, n, s⟩ v0 = true ↔ (⟨k, n, s⟩ : V) = v0 := same_iff
  rw [show same ⟨k, n, s⟩ ⟨0, 0, ⟨#[]⟩⟩ = same ⟨k, n, s⟩ v0 from rfl] at hq
  obtain ⟨z, hz⟩ : ∃ z, z = same ⟨k, n, s⟩ v0 := ⟨_, rfl⟩
  rw [← hz] at hs
  simp only [← hz] at hq
  have HM := Lib.hid (May_any k n s)
  obtain ⟨m, hm⟩ : ∃ m, m = decide (VaM.May ⟨k, n, s⟩) := ⟨_, rfl⟩
  rw [← hm] at HM
  have hm' : m = true ↔ VaM.May ⟨k, n, s⟩ := by rw [hm, decide_eq_true_iff]
  have hok : Ok ⟨c, a, ⟨k, n, s⟩⟩ ↔ 0 ≤ c ∧ c < 10 ∧ 0 ≤ a ∧ a < 6 ∧ (c = 1 ∨ a = 0) ∧ m = true ∧ (c = 0 ∨ z = true) := by
    unfold Ok
    rw [hm', hs]
  obtain ⟨R, hR⟩ : ∃ R, R = decide (Ok ⟨c, a, ⟨k, n, s⟩⟩) := ⟨_, rfl⟩
  rw [← hR]
  have hr : R = true ↔ 0 ≤ c ∧ c < 10 ∧ 0 ≤ a ∧ a < 6 ∧ (c = 1 ∨ a = 0) ∧ m = true ∧ (c = 0 ∨ z = true) := by rw [hR, decide_eq_true_iff, hok]
  have hzm : z = true → m = true := fun h => by rw [hm']; rw [hs.1 h]; decide
  obtain ⟨o0', o1, o2, o3, o4⟩ := (bxO_new w ⟨c, a, ⟨k, n, s⟩⟩).cells
  simp only at o0' o1 o2 o3 o4
  have HB := Lib.hid ((Below.refl w.heap.size w).alloc (Nat.le_refl _) (.cells #[.int .i64 c, .int .i64 a, .int .i64 k, .int .i64 n, .string s] 57))
  unfold agO
  simp only
  clear hs hz hm hm' hok hR
  have hfalse : ¬ (0 ≤ c ∧ c < 10 ∧ 0 ≤ a ∧ a < 6 ∧ (c = 1 ∨ a = 0) ∧ m = true ∧ (c = 0 ∨ z = true)) → R = false := fun h => by
    cases R
    · rfl
    · exact absurd (hr.1 rfl) h
  have htrue := hr.2
  clear hr
  by_cases h1 : c < 0
  · have HR := Lib.hid (hfalse (by omega))
    have g1 : decide (c < 0) = true := decide_eq_true h1
    clear hfalse htrue h1 hzm hq
    go_enter Try.func45, Try.ntmps45
    go_wp2_with fail
    go_ret
    exact ⟨ret_v (x := .bool false) (by rw [HR.out]), HB.out⟩
  · have g1 : decide (c < 0) = false := decide_eq_false h1
    by_cases h2 : 10 ≤ c
    · have HR := Lib.hid (hfalse (by omega))
      have g2 : decide (10 ≤ c) = true := decide_eq_true h2
      clear hfalse htrue h1 h2 hzm hq
      go_enter Try.func45, Try.ntmps45
      go_wp2_with fail
      go_ret
      exact ⟨ret_v (x := .bool false) (by rw [HR.out]), HB.out⟩
    · have g2 : decide (10 ≤ c) = false := decide_eq_false h2
      by_cases h0 : c = 0
      · subst h0
        by_cases ha : a = 0
        · subst ha
          have HR := Lib.hid (show R = m from by
            cases m
            · exact hfalse (by simp)
            · exact htrue (by simp))
          clear hfalse htrue h1 h2 hzm hq g1 g2
          go_enter Try.func45, Try.ntmps45
          go_wp2_with fail
          refine (HM.out _).mono ?_
          rintro e w1 ⟨rfl, hb1⟩
          go_wp2_with fail
          go_ret
          exact ⟨ret_v (x := .bool m) (by rw [HR.out]), bt HB.out hb1⟩
        · have HR := Lib.hid (hfalse (by omega))
          have g3 : (a == 0) = false := by simpa using ha
          clear hfalse htrue h1 h2 hzm hq g1 g2 ha
          go_enter Try.func45, Try.ntmps45
          go_wp2_with fail
          go_ret
          exact ⟨ret_v (x := .bool false) (by rw [HR.out]), HB.out⟩
      · have g0 : (c == 0) = false := by simpa using h0
        cases z
        · have HR := Lib.hid (hfalse (by simp [h0]))
          clear hfalse htrue h1 h2 hzm h0
          go_enter Try.func45, Try.ntmps45
          go_wp2_with fail
          go_ret
          exact ⟨ret_v (x := .bool false) (by rw [HR.out]), HB.out⟩
        · have hm := hzm rfl
          by_cases hc1 : c = 1
          · subst hc1
            by_cases ha0 : 0 ≤ a
            · have g3 : decide (0 ≤ a) = true := decide_eq_true ha0
              have HR := Lib.hid (show R = decide (a < 6) from by
                by_cases h6 : a < 6
                · rw [decide_eq_true h6]
                  exact htrue ⟨by omega, by omega, ha0, h6, Or.inl rfl, hm, Or.inr rfl⟩
                · rw [decide_eq_false h6]
                  exact hfalse (by omega))
              clear hfalse htrue h1 h2 hzm h0 ha0 g0 g1 g2
              go_enter Try.func45, Try.ntmps45
              go_wp2_with fail
              go_ret
              exact ⟨ret_v (x := .bool (decide (a < 6))) (by rw [HR.out]), HB.out⟩
            · have g3 : decide (0 ≤ a) = false := decide_eq_false ha0
              have HR := Lib.hid (hfalse (by omega))
              clear hfalse htrue h1 h2 hzm h0 ha0 g0 g1 g2
              go_enter Try.func45, Try.ntmps45
              go_wp2_with fail
              go_ret
              exact ⟨ret_v (x := .bool false) (by rw [HR.out]), HB.out⟩
          · have g4 : (c == 1) = false := by simpa using hc1
            have HR := Lib.hid (show R = (a == 0) from by
              by_cases ha : a = 0
              · rw [beq_iff_eq.2 ha]
                exact htrue ⟨by omega, by omega, by omega, by omega, Or.inr ha, hm, Or.inr rfl⟩
              · rw [show (a == 0) = false from by simpa using ha]
                exact hfalse (by omega))
            clear hfalse htrue h1 h2 hzm h0 hc1
            go_enter Try.func45, Try.ntmps45
            go_wp2_with fail
            go_ret
            exact ⟨ret_v (x := .bool (a == 0)) (by rw [HR.out]), HB.out⟩

set_option maxRecDepth 100000 in
set_option maxHeartbeats 4000000 in
theorem may_own (l : List O) (A : Option Addr) (c : Nat) (w : World) (hS : SlO w A l c) :
    Calls Try.prog 39 #[.slice A l.length c] w fun e w' => e = .returned (.bool (decide (May l))) ∧ Below w.heap.size w w' := by
  have hl := slO_len hS
  have hno : 12 < l.length → ¬ May l := fun h k => by have := k.2; omega
  have hno1 : ∀ j, j < l.length → ¬ Ok (l.getD j o0) → ¬ May l := fun j hj h k => h (k.1 j hj)
  have hyes : l.length ≤ 12 → (∀ i, i < l.length → Ok (l.getD i o0)) → May l := fun h k => ⟨k, h⟩
  obtain ⟨n, hn⟩ : ∃ n, n = l.length := ⟨_, rfl⟩
  rw [← hn] at hl hno hno1 hyes ⊢
  have HS := Lib.hid hS
  have HN := Lib.hid hn
  have HNo := Lib.hid hno
  have HNo1 := Lib.hid hno1
  have HYes := Lib.hid hyes
  clear hS hn hno hno1 hyes
  by_cases h12 : n ≤ 12
  · have g1 : decide ((12 : Int) < (n : Int)) = false := by rw [decide_eq_false_iff_not]; omega
    have g2 : decide (12 < n) = false := by rw [decide_eq_false_iff_not]; omega
    go_enter Try.func39, Try.ntmps39
    go_wp2_with fail
    go_loopw [10] (fun i wr => ∃ j : Nat, i = .int .i64 j ∧ j ≤ n ∧ (∀ x, x < j → Ok (l.getD x o0)) ∧ Below w.heap.size w wr) (fun i _ => n - (intOf i).toNat)
    case atStart => exact ⟨0, rfl, Nat.zero_le _, fun x hx => absurd hx (Nat.not_lt_zero x), Below.refl _ _⟩
    case round =>
      obtain ⟨j, rfl, hj, hall, hbel⟩ := hrel
      have HAl := Lib.hid hall
      have HBl := Lib.hid hbel
      clear hall hbel
      by_cases hjn : j < n
      · obtain ⟨b1, q1, hix, hc, _⟩ := HS.out.at j (by rw [← HN.out]; exact hjn)
        have hi := fun W => hix W n c hjn
        obtain ⟨⟨oc, oa, ⟨k, m, s⟩⟩, hf⟩ : ∃ f, f = l.getD j o0 := ⟨_, rfl⟩
        rw [← hf] at hc
        obtain ⟨c0, c1, c2, c3, c4⟩ := hc wr HBl.out
        simp only at c0 c1 c2 c3 c4
        have HMp := Lib.hid (fun W => mayPart_any ⟨oc, oa, ⟨k, m, s⟩⟩ W)
        unfold agO at HMp
        simp only at HMp
        obtain ⟨o0', o1, o2, o3, o4⟩ := (bxO_new wr ⟨oc, oa, ⟨k, m, s⟩⟩).cells
        simp only at o0' o1 o2 o3 o4
        have HBa := Lib.hid (bt HBl.out ((Below.refl wr.heap.size wr).alloc (Nat.le_refl _) (.cells #[.int .i64 oc, .int .i64 oa, .int .i64 k, .int .i64 m, .string s] 57)))
        have HF := Lib.hid hf
        clear hix hc hf
        go_wp2_with fail
        refine (HMp.out _).mono ?_
        rintro e w3 ⟨rfl, hb3⟩
        have HB3 := Lib.hid (bt HBa.out hb3)
        clear hb3 c0 c1 c2 c3 c4 o0' o1 o2 o3 o4 hi HMp
        by_cases hok : Ok ⟨oc, oa, ⟨k, m, s⟩⟩
        · rw [decide_eq_true hok]
          have HSu := Lib.hid (show ∀ x, x < j + 1 → Ok (l.getD x o0) from fun x hx => by
            by_cases e : x = j
            · rw [e, ← HF.out]
              exact hok
            · exact HAl.out x (by omega))
          clear hok
          go_wp2_with fail
          go_roundw
          case rel => exact ⟨j + 1, by go_num, by omega, HSu.out, HB3.out⟩
          case measure => simp [intOf]; omega
        · rw [decide_eq_false hok]
          have HNm := Lib.hid (HNo1.out j hjn (by rw [← HF.out]; exact hok))
          clear hok
          go_wp2_with fail
          go_ret
          exact ⟨ret_v (x := .bool false) (by rw [decide_eq_false HNm.out]), HB3.out⟩
      · obtain rfl : j = n := by omega
        have HY := Lib.hid (HYes.out h12 HAl.out)
        go_wp2_with fail
        go_ret
        exact ⟨ret_v (x := .bool true) (by rw [decide_eq_true HY.out]), HBl.out⟩
  · have g1 : decide ((12 : Int) < (n : Int)) = true := by rw [decide_eq_true_iff]; omega
    have g2 : decide (12 < n) = true := by rw [decide_eq_true_iff]; omega
    have HN := Lib.hid (HNo.out (by omega))
    go_enter Try.func39, Try.ntmps39
    go_wp2_with fail
    go_ret
    exact ⟨ret_v (x := .bool false) (by rw [decide_eq_false HN.out]), Below.refl _ _⟩
end Go.Proofs.Ytochpomddfjkoaa.Ex

namespace Go.Proofs.Ytochpomddfjkoaa.ExM
open Go.RowKit Go.Proofs.Ytochpomddfjkoaa.BM Go.Proofs.Ytochpomddfjkoaa.VaM Go.Proofs.Ytochpomddfjkoaa.EvM
open Go.Proofs.Ytochpomddfjkoaa.Va (same same_iff)

theorem v0_good : VaM.May v0 ∧ Rng v0 := ⟨by decide, by decide, by decide⟩

theorem runW_may {vs : List V} {wr : Bool} (hv : ∀ x ∈ vs, VaM.May x ∧ Rng x) : ∀ (l : List O) (p : List V), (∀ o ∈ l, VaM.May o.v ∧ Rng o.v) → (∀ x ∈ p, VaM.May x ∧ Rng x) → VaM.May (runW vs wr l p).1 ∧ Rng (runW vs wr l p).1
  | [], p, _, hp => by
    rw [runW]
    split
    · rename_i h
      exact hp _ (EvM.getD_mem (l := p) (i := 0) (by omega))
    · exact v0_good
  | o :: l, p, hl, hp => by
    rw [runW]
    split
    · refine runW_may hv l _ (fun x hx => hl x (List.mem_cons_of_mem _ hx)) (fun x hx => ?_)
      rcases List.mem_append.1 hx with hx | hx
      · exact hp x (goes_mem x hx)
      · rw [List.mem_singleton.1 hx]
        exact goes_may hv (hl o (List.mem_cons_self ..))
    · exact v0_good

theorem eval_good {e : Ev} {l : List O} (hr : ∀ x ∈ e.v, Rng x) (hl : Rngs l) : VaM.May (eval e l).1 ∧ Rng (eval e l).1 ∧ ((eval e l).2 ≠ 0 → (eval e l).1 = v0) := by
  unfold eval
  by_cases h : ExM.May l ∧ EvM.May e
  · rw [if_neg (fun k => k h)]
    have hvm : ∀ x ∈ e.v, VaM.May x ∧ Rng x := fun x hx => ⟨h.2.vok hx, hr x hx⟩
    rw [← through_is]
    have hm := runW_may (wr := false) hvm l [] (fun o ho => ⟨(h.1.ok ho).2.2.2.2.2.1, hl o ho⟩) (fun x hx => by cases hx)
    exact ⟨hm.1, hm.2, runW_err _ _ _ _⟩
  · rw [if_pos h]
    exact ⟨by decide, ⟨by decide, by decide⟩, fun _ => rfl⟩

theorem holds_own {e : Ev} {l : List O} (hr : ∀ x ∈ e.v, Rng x) (hl : Rngs l) : holds e l = (decide (l.length = 0) || same (eval e l).1 (truth true)) := by
  obtain ⟨hm, _, he⟩ := eval_good hr hl
  have h0 : decide (l = []) = decide (l.length = 0) := by
    rw [Bool.eq_iff_iff, decide_eq_true_iff, decide_eq_true_iff, List.length_eq_zero_iff]
  unfold holds
  rw [h0]
  congr 1
  rw [Bool.eq_iff_iff, decide_eq_true_iff, same_iff]
  generalize eval e l = r at hm he
  obtain ⟨⟨k, n, s⟩, z⟩ := r
  simp only at hm he ⊢
  constructor
  · rintro ⟨h1, h2, h3⟩
    subst h2 h3
    rcases hm with ⟨h4, _⟩ | ⟨h4, _⟩
    · cases h4
    · obtain rfl : s = e0 := by
        cases s with
        | mk d => rw [show d = #[] from Array.eq_empty_of_size_eq_zero h4]; rfl
      rfl
  · intro h
    injection h with h1 h2 h3
    refine ⟨?_, h1, h2⟩
    by_cases hz : z = 0
    · exact hz
    · have h4 := he hz
      injection h4 with h5
      omega
end Go.Proofs.Ytochpomddfjkoaa.ExM

namespace Go.Proofs.Ytochpomddfjkoaa.Ex
open Go.RowKit Go.Proofs.Ytochpomddfjkoaa.BM Go.Proofs.Ytochpomddfjkoaa.VaM Go.Proofs.Ytochpomddfjkoaa.Va Go.Proofs.Ytochpomddfjkoaa.ExM Go.Proofs.Ytochpomddfjkoaa.EvM

theorem field_k (k n : Int) (s : ByteArray) (w : World) : (Instr.field 52 (.agg #[.int .i64 k, .int .i64 n, .string s]) 0).run Try.prog w = .ok (.int .i64 k) w := by kernel_rfl

/-- A new pile. -/
theorem held_new {vs : List V} {L : Option Addr} {vc : Nat} {w : World} (kb : Bool) (hV : SlV w L vs vc) : Held w.heap.size vs L vc kb [] (w.alloc (.cells #[.slice none 0 0, .slice L vs.length vc, .bool kb] 73)) :=
  ⟨⟨none, 0, bx_new_t w _ _ _ _, things_nil _ _⟩, fun _ hW => hV.kept (((Below.refl w.heap.size w).alloc (Nat.le_refl _) _).trans hW)⟩
end Go.Proofs.Ytochpomddfjkoaa.Ex
