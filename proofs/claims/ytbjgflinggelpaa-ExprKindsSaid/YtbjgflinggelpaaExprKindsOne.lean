/- ExprKinds: for every input the law returns true, and each argument reads afterwards as it read before. No condition.
  The walk is the theorem Go.Proofs.Ytbjgflinggelpaa.Ex.kinds_walk. -/
import Derived.Test.YtbjgflinggelpaaEventMath
import Derived.Test.YtbjgflinggelpaaValueRow
import Derived.Test.YtbjgflinggelpaaBx
import Derived.Test.YtbjgflinggelpaaStrCore
import Derived.OrdersIn
import Derived.Test.YtbjgflinggelpaaRegion
import Derived.RangeFuncNested
import Derived.RangeFuncBound
import Derived.RangeFuncCalls
import Derived.RangeFuncLeaves
import Derived.Shelf.Abstract
import Derived.Shelf.RegionOpen
import Derived.WalkKit
import Derived.OwnWalkIn
import Derived.TacticsInMore
import Derived.LoopNIn
import Derived.LoopIn
import Derived.Lib.MinMax
import Derived.Test.YtbjgflinggelpaaChA
import Derived.Test.YtbjgflinggelpaaRows
import Derived.Lib.SmallJoins
import Derived.Deep.Slices
import Derived.ShutString
import Derived.OpenShut
import Derived.Test.YtbjgflinggelpaaOpRow
import Derived.Test.YtbjgflinggelpaaChB
import Derived.ProofKit
import Derived.ChangeOld
import Derived.Below

namespace Go.Proofs.Ytbjgflinggelpaa.Ev
open Go.RowKit Go.Proofs.Ytbjgflinggelpaa.BM Go.Proofs.Ytbjgflinggelpaa.EvM
open Go.Proofs.Ytbjgflinggelpaa.VaM (V)
open Go.Proofs.Ytbjgflinggelpaa.Va (SlV slV_len bx_new_t Bx ret_v)

/-- An event of few values. -/
def Few (e : Ev) : Prop := e.s.size ≤ 60 ∧ e.v.length ≤ 10 ∧ ∀ i, i < e.v.length → (e.v.getD i v0).s.size ≤ 100
instance (e : Ev) : Decidable (Few e) := by unfold Few; infer_instance

set_option maxRecDepth 100000 in
set_option maxHeartbeats 1000000 in
theorem Few_any (e : Ev) (A : Option Addr) (c : Nat) (w : World) (hS : SlV w A e.v c) (hz : e.s.size ≤ maxLen) :
    Calls Try.prog 13 #[.agg #[.string e.s, .int .i64 e.t, .slice A e.v.length c]] w fun r w' => r = .returned (.bool (decide (Few e))) ∧ Below w.heap.size w w' := by
  obtain ⟨nm, v, l⟩ := e
  simp only at hS hz ⊢
  unfold maxLen at hz
  have hl := slV_len hS
  have hfew : Few ⟨nm, v, l⟩ ↔ nm.size ≤ 60 ∧ l.length ≤ 10 ∧ ∀ i, i < l.length → (l.getD i v0).s.size ≤ 100 := Iff.rfl
  obtain ⟨n, hn⟩ : ∃ n, n = l.length := ⟨_, rfl⟩
  rw [← hn] at hl hfew ⊢
  have HLen := Lib.hid hn
  have HS := Lib.hid hS
  have HFew := Lib.hid hfew
  have HX0 := Lib.hid (bx_new_t w 27 (.string nm) (.int .i64 v) (.slice A n c))
  have HB0 := Lib.hid ((Below.refl w.heap.size w).alloc (Nat.le_refl _) (.cells #[.string nm, .int .i64 v, .slice A n c] 27))
  clear hn hS hfew
  obtain ⟨⟨p0, p1, p2⟩, _⟩ := HX0.out
  by_cases m1 : nm.size ≤ 60
  · have hd1 : decide ((60 : Int) < (nm.size : Int)) = false := by rw [decide_eq_false_iff_not]; omega
    by_cases m2 : n ≤ 10
    · have hd2 : decide ((10 : Int) < (n : Int)) = false := by rw [decide_eq_false_iff_not]; omega
      have HF := Lib.hid (show Few ⟨nm, v, l⟩ ↔ ∀ i, i < n → (l.getD i v0).s.size ≤ 100 from ⟨fun h => (HFew.out.1 h).2.2, fun h => HFew.out.2 ⟨m1, m2, h⟩⟩)
      clear m1 HFew
      go_enter Try.func13, Try.ntmps13
      go_wp2_with fail
      obtain ⟨w1, hw1⟩ : ∃ w1, w1 = w.alloc (.cells #[.string nm, .int .i64 v, .slice A n c] 27) := ⟨_, rfl⟩
      rw [← hw1] at HX0 HB0 ⊢
      clear hw1 p0 p1 p2
      go_loopw [3] (fun i wr => ∃ j : Nat, i = .int .i64 j ∧ j ≤ n ∧ (∀ r, r < j → (l.getD r v0).s.size ≤ 100) ∧ wr = w1) (fun i _ => n - (intOf i).toNat)
      case atStart => exact ⟨0, rfl, Nat.zero_le _, fun r hr => absurd hr (Nat.not_lt_zero r), rfl⟩
      case round =>
        obtain ⟨j, rfl, hj, hall, rfl⟩ := hrel
        have HAl := Lib.hid hall
        obtain ⟨⟨_, _, p2⟩, _⟩ := HX0.out
        clear hall
        by_cases hjn : j < n
        · obtain ⟨b, q, hix, hc, hsz, _⟩ := HS.out.at v0 j (by rw [← HLen.out]; exact hjn)
          obtain ⟨⟨fk, fn, fs⟩, hf⟩ : ∃ f, f = l.getD j v0 := ⟨_, rfl⟩
          rw [← hf] at hc hsz
          obtain ⟨_, _, c0⟩ := hc wr HB0.out
          simp only at c0 hsz
          unfold maxLen at hsz
          have hi := fun W => hix W n c hjn
          have HFl := Lib.hid hf
          clear hc hix hf
          by_cases h60 : fs.size ≤ 100
          · have hd3 : decide ((100 : Int) < (fs.size : Int)) = false := by rw [decide_eq_false_iff_not]; omega
            have HY := Lib.hid h60
            clear h60
            go_wp2_with fail
            go_roundw
            case rel =>
              refine ⟨j + 1, by go_num, by omega, fun r hr => ?_, by trivial⟩
              by_cases e : r = j
              · rw [e, ← HFl.out]
                exact HY.out
              · exact HAl.out r (by omega)
            case measure => simp [intOf]; omega
          · have hd3 : decide ((100 : Int) < (fs.size : Int)) = true := by rw [decide_eq_true_iff]; omega
            have HNo := Lib.hid (show ¬ Few ⟨nm, v, l⟩ from fun h => h60 (by have := HF.out.1 h j hjn; rw [← HFl.out] at this; exact this))
            clear h60
            go_wp2_with fail
            go_ret
            exact ⟨ret_v (x := .bool false) (by rw [decide_eq_false HNo.out]), HB0.out⟩
        · obtain rfl : j = n := by omega
          have HYes := Lib.hid (HF.out.2 HAl.out)
          go_wp2_with fail
          go_ret
          exact ⟨ret_v (x := .bool true) (by rw [decide_eq_true HYes.out]), HB0.out⟩
    · have hd2 : decide ((10 : Int) < (n : Int)) = true := by rw [decide_eq_true_iff]; omega
      have HNo := Lib.hid (show ¬ Few ⟨nm, v, l⟩ from fun h => m2 (HFew.out.1 h).2.1)
      clear m2 m1
      go_enter Try.func13, Try.ntmps13
      go_wp2_with fail
      go_ret
      exact ⟨ret_v (x := .bool false) (by rw [decide_eq_false HNo.out]), HB0.out⟩
  · have hd1 : decide ((60 : Int) < (nm.size : Int)) = true := by rw [decide_eq_true_iff]; omega
    have HNo := Lib.hid (show ¬ Few ⟨nm, v, l⟩ from fun h => m1 (HFew.out.1 h).1)
    clear m1
    go_enter Try.func13, Try.ntmps13
    go_wp2_with fail
    go_ret
    exact ⟨ret_v (x := .bool false) (by rw [decide_eq_false HNo.out]), HB0.out⟩
end Go.Proofs.Ytbjgflinggelpaa.Ev

namespace Go.Proofs.Ytbjgflinggelpaa.RegR
open Go.RowKit Go.Proofs.Ytbjgflinggelpaa.Reg

section
variable {E : Fence} {n : Nat} {P : Program} {ops : Array Oper} {Q : Exit → Act → World → Prop} {fuel : Nat} {listed : Array Bool} {a : Act} {w : World}

/-- Operation number i yields v, and the world stays. -/
def Rd (E : Fence) (P : Program) (ops : Array Oper) (a : Act) (w : World) (i : Nat) (d : Option Tmp) (v : Value) : Prop :=
  ∃ o, nth ops.toList i = some o ∧ o.dst = d ∧ Region.wanted o (yielded ops a.tmps) = true ∧ (∀ f, o.about P w a.eval = some f → E.fn f) ∧ (o.semAt E.round a.eval).run P w = .ok (.value v) w

theorem rd_op {i : Nat} {d : Option Tmp} {v : Value} {K : Act → World → Prop} (h : Rd E P ops a w i d v) (k : K (a.put d v) w) : wpOpIn E n P ops Q i K a w := by
  obtain ⟨o, h1, rfl, h3, h4, h5⟩ := h
  refine wpOpIn_step (at_of_nth h1) (fun K' hK => ?_)
  rw [if_pos h3]
  refine ⟨h4, ?_⟩
  rw [h5]
  exact hK _ _ k

theorem rd_one (i : Nat) {d : Option Tmp} {v : Value} (hr : Region.ready .any ops listed = [i]) (h : Rd E P ops a w i d v) (k : wpAnyIn E n P .any ops Q fuel (listed.setIfInBounds i true) (a.put d v) w) :
    wpAnyIn E n P .any ops Q (fuel + 1) listed a w := by
  refine wpAnyIn_all hr (by simp) (fun x hx => ?_)
  obtain rfl : x = i := by simpa using hx
  exact rd_op h k

theorem rd_two (i j : Nat) {d d' : Option Tmp} {v v' : Value} (hr : Region.ready .any ops listed = [i, j]) (h : Rd E P ops a w i d v) (h' : Rd E P ops a w j d' v')
    (k : wpAnyIn E n P .any ops Q fuel (listed.setIfInBounds i true) (a.put d v) w) (k' : wpAnyIn E n P .any ops Q fuel (listed.setIfInBounds j true) (a.put d' v') w) :
    wpAnyIn E n P .any ops Q (fuel + 1) listed a w := by
  refine wpAnyIn_all hr (by simp) (fun x hx => ?_)
  have hx' : x = i ∨ x = j := by simpa using hx
  rcases hx' with rfl | rfl
  · exact rd_op h k
  · exact rd_op h' k'

/-- It yields v in whatever world. -/
theorem rd_take (i : Nat) {o : Oper} (v : Value) (hro : E.round = none) (hi : nth ops.toList i = some o) (hok : (Region.noSelect ops && Region.free .any ops listed i && (Region.ready .any ops listed).contains i) = true) (hQ : Frameless Q)
    (hw : Region.wanted o (yielded ops a.tmps) = true) (hy : ∀ w, (execOp a.eval o).run P w = .ok (.value v) w) (hab : ∀ w, o.about P w a.eval = none)
    (k : wpAnyIn E n P .any ops Q fuel (listed.setIfInBounds i true) (a.put o.dst v) w) : wpAnyIn E n P .any ops Q (fuel + 1) listed a w := by
  simp only [Bool.and_eq_true] at hok
  obtain ⟨⟨hs, hf⟩, hr⟩ := hok
  exact wpAnyIn_take hro (at_of_nth hi) hs hf hr (fun c a w => hQ c a _ _ w) ⟨.inl ⟨hw, hy⟩, hab⟩ k
end
end Go.Proofs.Ytbjgflinggelpaa.RegR

namespace Go.Proofs.Ytbjgflinggelpaa.Ev
open Go.RowKit Go.Shelf Go.Proofs.Ytbjgflinggelpaa.BM Go.Proofs.Ytbjgflinggelpaa.EvM
open Go.Proofs.Ytbjgflinggelpaa.VaM (V)
open Go.Proofs.Ytbjgflinggelpaa.Va (SlV slV_len bx_new_t bx2_new Bx Bx2 CellV)
open Go.Proofs.Ytbjgflinggelpaa.Sc (SlF slF_len CellF)
open Go.Proofs.Ytbjgflinggelpaa.ScM (d0)

attribute [local go_sem] Oper.semAt_some

/-- Fields and values, side by side. -/
abbrev FV := ScM.F × V
/-- As yield gets them. -/
def encs (x : FV) : Array Value := #[.agg #[.string x.1.s, .int .i64 x.1.k], .agg #[.int .i64 x.2.k, .int .i64 x.2.n, .string x.2.s]]
/-- The first k pairs. -/
def up (l : List ScM.F) (m : List V) (k : Nat) : List FV := (List.range k).map fun j => (l.getD j d0, m.getD j v0)
theorem up_succ (l : List ScM.F) (m : List V) (k : Nat) : up l m (k + 1) = up l m k ++ [(l.getD k d0, m.getD k v0)] := by simp [up, List.range_succ]
theorem up_length (l : List ScM.F) (m : List V) (k : Nat) : (up l m k).length = k := by simp [up]
theorem up_mem {l : List ScM.F} {m : List V} {k : Nat} {x : FV} : x ∈ up l m k ↔ ∃ j, j < k ∧ (l.getD j d0, m.getD j v0) = x := by simp [up]

theorem cut {P Q : Prop} (h : P → Q) (p : P) : Q := h p

set_option maxRecDepth 100000 in
set_option maxHeartbeats 4000000 in
/-- The iterator's own body: for every loop body that keeps what was there. -/
theorem paired1_in (E : Fence) (n : Nat) (hE : E.fn 84) (hro : E.round = none) (hn : 1 ≤ n) (lo b1 b2 : Nat) (A : Option Addr) (l : List ScM.F) (c : Nat) (B : Option Addr) (m : List V) (d : Nat) (w : World)
    (hS : SlF w A l c) (hT : SlV w B m d) (x1 : w.cell? ⟨b1, 0, none⟩ = some (.slice A l.length c)) (x2 : w.cell? ⟨b2, 0, none⟩ = some (.slice B m.length d)) (J Jx : List FV → World → Prop) (BW : Nat) (hJa : AbidesFrom BW J) (N : Nat) (hN : N = min l.length m.length)
    (hY : ∀ pre x W, J pre W → pre.length < N → YieldAt E (n - 1) Try.prog lo (encs x) W fun e W' =>
      (e = .returned (.bool true) ∧ J (pre ++ [x]) W' ∧ Below w.heap.size W W') ∨ (e = .returned (.bool false) ∧ Jx (pre ++ [x]) W'))
    (W : World) (hW : Below w.heap.size w W) (h0 : J [] W) :
    CallsIn E n Try.prog 84 #[.func (.yield lo) #[] #[], .pointer (some ⟨b1, 0, none⟩), .pointer (some ⟨b2, 0, none⟩)] W fun e W' => (∃ v, e = .returned v) ∧
      ((∃ ys, ys = up l m N ∧ J ys W') ∨ (∃ pre, (∃ k, k ≤ N ∧ pre = up l m k) ∧ Jx pre W')) := by
  have hl := slF_len hS
  have hm := slV_len hT
  have HY := Lib.hid hY
  have HS := Lib.hid hS
  have HT := Lib.hid hT
  have HX1 := Lib.hid x1
  have HX2 := Lib.hid x2
  have k1 := (hW.cell (p := ⟨b1, 0, none⟩) (World.block_lt_of_cell? w _ x1)).trans x1
  have k2 := (hW.cell (p := ⟨b2, 0, none⟩) (World.block_lt_of_cell? w _ x2)).trans x2
  obtain ⟨r, hr⟩ : ∃ r, r = l.length := ⟨_, rfl⟩
  obtain ⟨s, hs⟩ : ∃ s, s = m.length := ⟨_, rfl⟩
  rw [← hr] at hl HX1 k1 hN
  rw [← hs] at hm HX2 k2 hN
  have HR := Lib.hid hr
  have HSn := Lib.hid hs
  have HW := Lib.hid hW
  clear hY hS hT x1 x2 hr hs hW
  refine callsIn_of_wp Try.func84 rfl hE ?_ hro
  simp only [Try.ntmps84, List.size_toArray, List.length_cons, List.length_nil, Nat.reduceAdd, Nat.reduceSub, Array.replicate_succ, Array.replicate_zero, List.push_toArray, List.append_toArray, List.nil_append, List.cons_append]
  have hmn : min (r : Int) (s : Int) = (N : Int) := by omega
  gi_wp2
  clear k1 k2
  gi_loopw [10] (fun i wr => ∃ k : Nat, k ≤ N ∧ i = .int .i64 k ∧ J (up l m k) wr ∧ Below w.heap.size w wr) (fun i _ => N - (intOf i).toNat)
  case atStart => exact ⟨0, Nat.zero_le _, rfl, h0, HW.out⟩
  case round =>
    obtain ⟨j, hj, rfl, hJ, hbel⟩ := hrel
    have HJ := Lib.hid hJ
    have HBl := Lib.hid hbel
    by_cases hjn : j < N
    · obtain ⟨p1, q1, hix1, hc1, _⟩ := HS.out.at j (by rw [← HR.out]; omega)
      obtain ⟨p2, q2, hix2, hc2, _⟩ := HT.out.at v0 j (by rw [← HSn.out]; omega)
      have hsucc := up_succ l m j
      have hlen := up_length l m j
      obtain ⟨⟨fs, fk⟩, hf⟩ : ∃ f, f = l.getD j d0 := ⟨_, rfl⟩
      obtain ⟨⟨vk, vn, vs⟩, hv⟩ : ∃ f, f = m.getD j v0 := ⟨_, rfl⟩
      rw [← hf] at hc1 hsucc
      rw [← hv] at hc2 hsucc
      obtain ⟨W2, hW2⟩ : ∃ W2, W2 = wr.drew := ⟨_, rfl⟩
      have hb2 : Below w.heap.size w W2 := by rw [hW2]; exact hbel.drew
      have hJ2 : J (up l m j) W2 := by rw [hW2]; exact hJa _ wr wr.drew none hJ ⟨rfl, rfl, rfl, Nat.le_refl _, fun _ _ _ => rfl⟩ (fun r e => by cases e)
      obtain ⟨c0, c1⟩ := hc1 W2 hb2
      obtain ⟨e0, e1, e2⟩ := hc2 W2 hb2
      simp only at c0 c1 e0 e1 e2
      have hi1 := fun W => hix1 W r c (by omega)
      have hi2 := fun W => hix2 W s d (by omega)
      have k1 := (hb2.cell (p := ⟨b1, 0, none⟩) (World.block_lt_of_cell? w _ HX1.out)).trans HX1.out
      have k2 := (hb2.cell (p := ⟨b2, 0, none⟩) (World.block_lt_of_cell? w _ HX2.out)).trans HX2.out
      obtain ⟨fn, tmps, assign, body, hy, hR⟩ := HY.out (up l m j) (⟨fs, fk⟩, ⟨vk, vn, vs⟩) W2 hJ2 (by rw [hlen]; exact hjn)
      have HSu := Lib.hid hsucc
      have HRd := Lib.hid hR
      simp only [encs] at hy
      have HB2 := Lib.hid hb2
      have HW2 := Lib.hid hW2
      clear hc1 hc2 hix1 hix2 hf hv hJ hbel hsucc hlen hR hb2 hW2 hJ2
      gi_wp2
      refine wpIn_region_any (by kernel_rfl) ?_
      change wpAnyIn _ _ _ _ _ _ _ _ _ wr.drew
      rw [← HW2.out]
      refine cut (P := ?T) ?tree ?leaf
      case tree =>
        intro leaf
        refine RegR.rd_take 0 (.func (.yield lo) #[] #[]) hro rfl (by kernel_rfl) (by repeat (first | exact Reg.frameless_bodyPost | refine Reg.frameless_then ?_ | refine Reg.frameless_inBlock ?_)) rfl (fun W => by go_simp) (fun _ => rfl) ?_
        simp only [Act.put, List.setIfInBounds_toArray, List.set_cons_zero, List.set_cons_succ]
        refine RegR.rd_take 2 (.int .i64 (j : Int)) hro rfl (by kernel_rfl) (by repeat (first | exact Reg.frameless_bodyPost | refine Reg.frameless_then ?_ | refine Reg.frameless_inBlock ?_)) rfl (fun W => by go_simp) (fun _ => rfl) ?_
        simp only [Act.put, List.setIfInBounds_toArray, List.set_cons_zero, List.set_cons_succ]
        refine RegR.rd_take 6 (.int .i64 (j : Int)) hro rfl (by kernel_rfl) (by repeat (first | exact Reg.frameless_bodyPost | refine Reg.frameless_then ?_ | refine Reg.frameless_inBlock ?_)) rfl (fun W => by go_simp) (fun _ => rfl) ?_
        simp only [Act.put, List.setIfInBounds_toArray, List.set_cons_zero, List.set_cons_succ]
        refine RegR.rd_two 1 5 (v := .slice A r c) (v' := .slice B s d) (by kernel_rfl) ⟨_, rfl, rfl, rfl, (fun _ h => by cases h), by rw [hro, Oper.semAt_none]; go_simp⟩ ⟨_, rfl, rfl, rfl, (fun _ h => by cases h), by rw [hro, Oper.semAt_none]; go_simp⟩ ?_ ?_
        · simp only [Act.put, List.setIfInBounds_toArray, List.set_cons_zero, List.set_cons_succ]
          refine RegR.rd_take 3 (.pointer (some ⟨p1, q1, none⟩)) hro rfl (by kernel_rfl) (by repeat (first | exact Reg.frameless_bodyPost | refine Reg.frameless_then ?_ | refine Reg.frameless_inBlock ?_)) rfl (fun W => by go_simp) (fun _ => rfl) ?_
          simp only [Act.put, List.setIfInBounds_toArray, List.set_cons_zero, List.set_cons_succ]
          refine RegR.rd_two 4 5 (v := .agg #[.string fs, .int .i64 fk]) (v' := .slice B s d) (by kernel_rfl) ⟨_, rfl, rfl, rfl, (fun _ h => by cases h), by rw [hro, Oper.semAt_none]; go_simp⟩ ⟨_, rfl, rfl, rfl, (fun _ h => by cases h), by rw [hro, Oper.semAt_none]; go_simp⟩ ?_ ?_
          · simp only [Act.put, List.setIfInBounds_toArray, List.set_cons_zero, List.set_cons_succ]
            refine RegR.rd_one 5 (v := .slice B s d) (by kernel_rfl) ⟨_, rfl, rfl, rfl, (fun _ h => by cases h), by rw [hro, Oper.semAt_none]; go_simp⟩ ?_
            simp only [Act.put, List.setIfInBounds_toArray, List.set_cons_zero, List.set_cons_succ]
            refine RegR.rd_take 7 (.pointer (some ⟨p2, q2, none⟩)) hro rfl (by kernel_rfl) (by repeat (first | exact Reg.frameless_bodyPost | refine Reg.frameless_then ?_ | refine Reg.frameless_inBlock ?_)) rfl (fun W => by go_simp) (fun _ => rfl) ?_
            simp only [Act.put, List.setIfInBounds_toArray, List.set_cons_zero, List.set_cons_succ]
            refine RegR.rd_one 8 (v := .agg #[.int .i64 vk, .int .i64 vn, .string vs]) (by kernel_rfl) ⟨_, rfl, rfl, rfl, (fun _ h => by cases h), by rw [hro, Oper.semAt_none]; go_simp⟩ ?_
            simp only [Act.put, List.setIfInBounds_toArray, List.set_cons_zero, List.set_cons_succ]
            exact leaf
          · simp only [Act.put, List.setIfInBounds_toArray, List.set_cons_zero, List.set_cons_succ]
            refine RegR.rd_take 7 (.pointer (some ⟨p2, q2, none⟩)) hro rfl (by kernel_rfl) (by repeat (first | exact Reg.frameless_bodyPost | refine Reg.frameless_then ?_ | refine Reg.frameless_inBlock ?_)) rfl (fun W => by go_simp) (fun _ => rfl) ?_
            simp only [Act.put, List.setIfInBounds_toArray, List.set_cons_zero, List.set_cons_succ]
            refine RegR.rd_two 4 8 (v := .agg #[.string fs, .int .i64 fk]) (v' := .agg #[.int .i64 vk, .int .i64 vn, .string vs]) (by kernel_rfl) ⟨_, rfl, rfl, rfl, (fun _ h => by cases h), by rw [hro, Oper.semAt_none]; go_simp⟩ ⟨_, rfl, rfl, rfl, (fun _ h => by cases h), by rw [hro, Oper.semAt_none]; go_simp⟩ ?_ ?_
            · simp only [Act.put, List.setIfInBounds_toArray, List.set_cons_zero, List.set_cons_succ]
              refine RegR.rd_one 8 (v := .agg #[.int .i64 vk, .int .i64 vn, .string vs]) (by kernel_rfl) ⟨_, rfl, rfl, rfl, (fun _ h => by cases h), by rw [hro, Oper.semAt_none]; go_simp⟩ ?_
              simp only [Act.put, List.setIfInBounds_toArray, List.set_cons_zero, List.set_cons_succ]
              exact leaf
            · simp only [Act.put, List.setIfInBounds_toArray, List.set_cons_zero, List.set_cons_succ]
              refine RegR.rd_one 4 (v := .agg #[.string fs, .int .i64 fk]) (by kernel_rfl) ⟨_, rfl, rfl, rfl, (fun _ h => by cases h), by rw [hro, Oper.semAt_none]; go_simp⟩ ?_
              simp only [Act.put, List.setIfInBounds_toArray, List.set_cons_zero, List.set_cons_succ]
              exact leaf
        · simp only [Act.put, List.setIfInBounds_toArray, List.set_cons_zero, List.set_cons_succ]
          refine RegR.rd_take 7 (.pointer (some ⟨p2, q2, none⟩)) hro rfl (by kernel_rfl) (by repeat (first | exact Reg.frameless_bodyPost | refine Reg.frameless_then ?_ | refine Reg.frameless_inBlock ?_)) rfl (fun W => by go_simp) (fun _ => rfl) ?_
          simp only [Act.put, List.setIfInBounds_toArray, List.set_cons_zero, List.set_cons_succ]
          refine RegR.rd_two 1 8 (v := .slice A r c) (v' := .agg #[.int .i64 vk, .int .i64 vn, .string vs]) (by kernel_rfl) ⟨_, rfl, rfl, rfl, (fun _ h => by cases h), by rw [hro, Oper.semAt_none]; go_simp⟩ ⟨_, rfl, rfl, rfl, (fun _ h => by cases h), by rw [hro, Oper.semAt_none]; go_simp⟩ ?_ ?_
          · simp only [Act.put, List.setIfInBounds_toArray, List.set_cons_zero, List.set_cons_succ]
            refine RegR.rd_take 3 (.pointer (some ⟨p1, q1, none⟩)) hro rfl (by kernel_rfl) (by repeat (first | exact Reg.frameless_bodyPost | refine Reg.frameless_then ?_ | refine Reg.frameless_inBlock ?_)) rfl (fun W => by go_simp) (fun _ => rfl) ?_
            simp only [Act.put, List.setIfInBounds_toArray, List.set_cons_zero, List.set_cons_succ]
            refine RegR.rd_two 4 8 (v := .agg #[.string fs, .int .i64 fk]) (v' := .agg #[.int .i64 vk, .int .i64 vn, .string vs]) (by kernel_rfl) ⟨_, rfl, rfl, rfl, (fun _ h => by cases h), by rw [hro, Oper.semAt_none]; go_simp⟩ ⟨_, rfl, rfl, rfl, (fun _ h => by cases h), by rw [hro, Oper.semAt_none]; go_simp⟩ ?_ ?_
            · simp only [Act.put, List.setIfInBounds_toArray, List.set_cons_zero, List.set_cons_succ]
              refine RegR.rd_one 8 (v := .agg #[.int .i64 vk, .int .i64 vn, .string vs]) (by kernel_rfl) ⟨_, rfl, rfl, rfl, (fun _ h => by cases h), by rw [hro, Oper.semAt_none]; go_simp⟩ ?_
              simp only [Act.put, List.setIfInBounds_toArray, List.set_cons_zero, List.set_cons_succ]
              exact leaf
            · simp only [Act.put, List.setIfInBounds_toArray, List.set_cons_zero, List.set_cons_succ]
              refine RegR.rd_one 4 (v := .agg #[.string fs, .int .i64 fk]) (by kernel_rfl) ⟨_, rfl, rfl, rfl, (fun _ h => by cases h), by rw [hro, Oper.semAt_none]; go_simp⟩ ?_
              simp only [Act.put, List.setIfInBounds_toArray, List.set_cons_zero, List.set_cons_succ]
              exact leaf
          · simp only [Act.put, List.setIfInBounds_toArray, List.set_cons_zero, List.set_cons_succ]
            refine RegR.rd_one 1 (v := .slice A r c) (by kernel_rfl) ⟨_, rfl, rfl, rfl, (fun _ h => by cases h), by rw [hro, Oper.semAt_none]; go_simp⟩ ?_
            simp only [Act.put, List.setIfInBounds_toArray, List.set_cons_zero, List.set_cons_succ]
            refine RegR.rd_take 3 (.pointer (some ⟨p1, q1, none⟩)) hro rfl (by kernel_rfl) (by repeat (first | exact Reg.frameless_bodyPost | refine Reg.frameless_then ?_ | refine Reg.frameless_inBlock ?_)) rfl (fun W => by go_simp) (fun _ => rfl) ?_
            simp only [Act.put, List.setIfInBounds_toArray, List.set_cons_zero, List.set_cons_succ]
            refine RegR.rd_one 4 (v := .agg #[.string fs, .int .i64 fk]) (by kernel_rfl) ⟨_, rfl, rfl, rfl, (fun _ h => by cases h), by rw [hro, Oper.semAt_none]; go_simp⟩ ?_
            simp only [Act.put, List.setIfInBounds_toArray, List.set_cons_zero, List.set_cons_succ]
            exact leaf
      case leaf =>
        refine wpAnyIn_all (rs := [9]) (by kernel_rfl) (by simp) (fun x hx => ?_)
        obtain rfl : x = 9 := by simpa using hx
        refine wpOpIn_step rfl (fun K' hK => ?_)
        rw [if_pos (by rfl)]
        unfold Oper.wpIn
        rw [hro, Oper.semAt_none]
        refine ⟨fun f hf => ?_, ?_⟩
        · simp [Oper.about, go_sem] at hf
        · go_simp
          refine HRd.out.mono ?_
          rintro e W3 (⟨rfl, hJ3, hk3⟩ | ⟨rfl, hJx3⟩)
          · refine hK _ _ ?_
            clear hK
            refine RegR.rd_one 10 (v := .bool false) (by kernel_rfl) ⟨_, rfl, rfl, rfl, (fun _ h => by cases h), by rw [hro, Oper.semAt_none]; go_simp⟩ ?_
            simp only [Act.put, List.setIfInBounds_toArray, List.set_cons_zero, List.set_cons_succ]
            refine wpAnyIn_done (by kernel_rfl) ?_ _
            clear k1 k2 c0 c1 e0 e1 e2 hi1 hi2 hy hmn h0
            gi_wp2
            go_roundw
            case rel => exact ⟨j + 1, by omega, by simp, by rw [HSu.out]; exact hJ3, HB2.out.trans hk3⟩
            case measure => simp [intOf]; omega
          · refine hK _ _ ?_
            clear hK
            refine RegR.rd_one 10 (v := .bool true) (by kernel_rfl) ⟨_, rfl, rfl, rfl, (fun _ h => by cases h), by rw [hro, Oper.semAt_none]; go_simp⟩ ?_
            simp only [Act.put, List.setIfInBounds_toArray, List.set_cons_zero, List.set_cons_succ]
            refine wpAnyIn_done (by kernel_rfl) ?_ _
            clear k1 k2 c0 c1 e0 e1 e2 hi1 hi2 hy hmn h0
            gi_wp2
            refine bodyPost_ret (results_none rfl _ _ _) rfl ?_
            exact ⟨⟨_, rfl⟩, .inr ⟨_, ⟨j + 1, by omega, HSu.out.symm⟩, hJx3⟩⟩
    · obtain rfl : j = N := by omega
      gi_wp2
      go_end0
      exact ⟨⟨_, rfl⟩, .inl ⟨_, rfl, HJ.out⟩⟩

set_option maxHeartbeats 1000000 in
/-- paired itself: both slices are boxed; the function value holds the boxes. -/
theorem paired_in (E : Fence) (n : Nat) (hE : E.fn 69) (hro : E.round = none) (A : Option Addr) (r c : Nat) (B : Option Addr) (s d : Nat) (w : World) :
    CallsIn E n Try.prog 69 #[.slice A r c, .slice B s d] w fun e w' => e = .returned (.func (.func 84) #[] #[.pointer (some ⟨w.heap.size, 0, none⟩), .pointer (some ⟨w.heap.size + 1, 0, none⟩)]) ∧
      w' = (w.alloc (.cells #[.slice A r c] 22)).alloc (.cells #[.slice B s d] 25) := by
  refine callsIn_of_wp Try.func69 rfl hE ?_ hro
  simp only [Try.ntmps69, List.size_toArray, List.length_cons, List.length_nil, Nat.reduceAdd, Nat.reduceSub, Array.replicate_succ, Array.replicate_zero, List.push_toArray, List.append_toArray, List.nil_append, List.cons_append]
  gi_wp2
  go_ret
  exact ⟨by simp, rfl⟩

/-- What paired hands back goes through the pairs, and keeps what was there. -/
theorem paired_stops (E : Fence) (n : Nat) (hE : E.fn 84) (hro : E.round = none) (hn : 1 ≤ n) (b1 b2 : Nat) (A : Option Addr) (l : List ScM.F) (c : Nat) (B : Option Addr) (m : List V) (d : Nat) (w : World)
    (hS : SlF w A l c) (hT : SlV w B m d) (x1 : w.cell? ⟨b1, 0, none⟩ = some (.slice A l.length c)) (x2 : w.cell? ⟨b2, 0, none⟩ = some (.slice B m.length d)) :
    SeqStopsK E n Try.prog 84 #[.pointer (some ⟨b1, 0, none⟩), .pointer (some ⟨b2, 0, none⟩)] encs (Below w.heap.size) (fun ys => ys = up l m (min l.length m.length))
      (fun pre => ∃ k, k ≤ min l.length m.length ∧ pre = up l m k) (min l.length m.length) w := fun lo J Jx W hW hJa _ hY h0 =>
  paired1_in E n hE hro hn lo b1 b2 A l c B m d w hS hT x1 x2 J Jx _ hJa _ rfl hY W hW h0

/-- Is each value of its field's kind, as long as there are both? -/
def Kinds (l : List ScM.F) (m : List V) : Prop := ∀ i, i < min l.length m.length → (l.getD i d0).k = (m.getD i v0).k
instance (l : List ScM.F) (m : List V) : Decidable (Kinds l m) := by unfold Kinds; infer_instance

set_option maxRecDepth 100000 in
set_option maxHeartbeats 4000000 in
theorem ofKinds_any (A : Option Addr) (l : List ScM.F) (c : Nat) (B : Option Addr) (m : List V) (d : Nat) (w : World) (hS : SlF w A l c) (hT : SlV w B m d) :
    Calls Try.prog 50 #[.slice A l.length c, .slice B m.length d] w fun e w' => e = .returned (.bool (decide (Kinds l m))) ∧ Below w.heap.size w w' := by
  refine (callsIn_wide (n := 6)).1 ?_
  have bR := ((Boxed.new w 4 (.bool false)).alloc (.cells #[.slice A l.length c] 22)).alloc (.cells #[.slice B m.length d] 25)
  have bF := (Boxed.new (w.alloc (.cells #[.bool false] 4)) 22 (.slice A l.length c)).alloc (.cells #[.slice B m.length d] 25)
  have bV := Boxed.new ((w.alloc (.cells #[.bool false] 4)).alloc (.cells #[.slice A l.length c] 22)) 25 (.slice B m.length d)
  simp only [World.size_alloc] at bF bV
  have hB0 : Below w.heap.size w (((w.alloc (.cells #[.bool false] 4)).alloc (.cells #[.slice A l.length c] 22)).alloc (.cells #[.slice B m.length d] 25)) := (((Below.refl _ w).alloc (Nat.le_refl _) _).alloc (by simp) _).alloc (by simp; omega) _
  have hsz : (((w.alloc (.cells #[.bool false] 4)).alloc (.cells #[.slice A l.length c] 22)).alloc (.cells #[.slice B m.length d] 25)).heap.size = w.heap.size + 3 := by simp
  have HbR := Lib.hid bR
  have HbF := Lib.hid bF
  have HbV := Lib.hid bV
  have HB0 := Lib.hid hB0
  have Hsz := Lib.hid hsz
  clear bR bF bV hB0 hsz
  refine callsIn_of_wp_marks Try.func50 rfl trivial ?_ rfl
  simp only [Try.ntmps50, List.size_toArray, List.length_cons, List.length_nil, Nat.reduceAdd, Nat.reduceSub, Array.replicate_succ, Array.replicate_zero, List.push_toArray, List.append_toArray, List.nil_append, List.cons_append]
  gi_wp2_with (refine ⟨trivial, ?_⟩; gi_at_call 69; refine (paired_in Fence.wide _ trivial rfl _ _ _ _ _ _ _).mono ?_; rintro e w' ⟨rfl, rfl⟩)
  obtain ⟨W0, hW0⟩ : ∃ W0, ((w.alloc (.cells #[.bool false] 4)).alloc (.cells #[.slice A l.length c] 22)).alloc (.cells #[.slice B m.length d] 25) = W0 := ⟨_, rfl⟩
  have bR := HbR.out
  have bF := HbF.out
  have bV := HbV.out
  have hB0 := HB0.out
  have hsz := Hsz.out
  rw [hW0] at bR bF bV hB0 hsz ⊢
  clear hW0 HbR HbF HbV HB0 Hsz
  refine wpIn_rangeFunc_ownH rfl (by omega) (gf := 84) (lb := #[.pointer (some ⟨w.heap.size + 1, 0, none⟩), .pointer (some ⟨w.heap.size + 1 + 1, 0, none⟩)]) rfl trivial (enters_of Try.func84 (by kernel_rfl) rfl)
    (paired_stops Fence.wide _ trivial rfl (by omega) (w.heap.size + 1) (w.heap.size + 1 + 1) A l c B m d W0 (hS.kept hB0) (hT.kept hB0) bF.cell bV.cell) belowK_t (belowK_b (Nat.le_refl _)) (Below.refl _ _) (fun _ => rfl)
    (fun pre W => (Boxed W w.heap.size 4 (.bool false) ∧ (∀ x ∈ pre, x.1.k = x.2.k)) ∧ Below W0.heap.size W0 W)
    (fun c pre W => ((c = .ret ∧ ∃ x ∈ pre, x.1.k ≠ x.2.k) ∧ Boxed W w.heap.size 4 (.bool false)) ∧ Below w.heap.size w W)
    (OwnFrom.and (OwnFrom.and (Own.from (boxed_own _ _ _) _) (ownFrom_pure _ _)) (ownFrom_below (Nat.le_refl _) (Nat.le_refl _)))
    (fun c => OwnFrom.and (OwnFrom.and (ownFrom_pure _ _) (Own.from (boxed_own _ _ _) _)) (ownFrom_below (Nat.le_refl _) hB0.size))
    ⟨⟨bR, fun x hx => by cases hx⟩, Below.refl _ _⟩
    (fun x a' W => ∃ bf bv, W.cell? ⟨bf, 1, none⟩ = some (.int .i64 x.1.k) ∧ W.cell? ⟨bv, 0, none⟩ = some (.int .i64 x.2.k) ∧ a' = { tmps := #[.slice A l.length c, .slice B m.length d, undef, undef, .pointer (some ⟨w.heap.size, 0, none⟩), .pointer (some ⟨bf, 0, none⟩), .pointer (some ⟨bv, 0, none⟩), .slice A l.length c, .slice B m.length d, .func (.func 84) #[] #[.pointer (some ⟨w.heap.size + 1, 0, none⟩), .pointer (some ⟨w.heap.size + 1 + 1, 0, none⟩)], .agg #[.string x.1.s, .int .i64 x.1.k], .agg #[.int .i64 x.2.k, .int .i64 x.2.n, .string x.2.s], undef, undef, undef, undef, undef], defers := [] })
    (fun x a' _ X Y row hs hg hr => by obtain ⟨bf, bv, h1, h2, h3⟩ := hs; exact ⟨bf, bv, cell_kept h1 hg (fun r e => (hr r e).2), cell_kept h2 hg (fun r e => (hr r e).2), h3⟩)
    ?assign ?body ?done ?stop
  case assign =>
    rintro lo pre ⟨⟨fs, fk⟩, ⟨vk, vn, vs⟩⟩ W K ⟨⟨bR1, hp⟩, hB1⟩ hK
    simp only [encs]
    gi_wp2
    have hz := hB1.size
    have ha := (Below.refl (W.alloc (.cells #[.string fs, .int .i64 fk] 63)).heap.size (W.alloc (.cells #[.string fs, .int .i64 fk] 63))).alloc (Nat.le_refl _) (.cells #[.int .i64 vk, .int .i64 vn, .string vs] 38)
    obtain ⟨⟨_, y1⟩, _⟩ := (bx2_new W 63 (.string fs) (.int .i64 fk)).kept ha
    obtain ⟨⟨z0, _, _⟩, _⟩ := bx_new_t (W.alloc (.cells #[.string fs, .int .i64 fk] 63)) 38 (.int .i64 vk) (.int .i64 vn) (.string vs)
    rw [show (W.alloc (.cells #[.string fs, .int .i64 fk] 63)).heap.size = W.heap.size + 1 from by simp] at z0
    exact hK _ _ (((KeepsOthers.alloc _ _).trans (KeepsOthers.alloc _ _)).from _) (((Below.refl _ W).alloc hz _).alloc (by simp; omega) _) ⟨⟨(bR1.alloc _).alloc _, hp⟩, (hB1.alloc hz _).alloc (by simp; omega) _⟩
      ⟨W.heap.size, W.heap.size + 1, y1, z0, rfl⟩
  case body =>
    rintro lo pre ⟨⟨fs, fk⟩, ⟨vk, vn, vs⟩⟩ a' W hl ⟨r, hr⟩ ⟨⟨bR1, hp⟩, hB1⟩ ⟨bf, bv, c1, c0, rfl⟩ hlt
    simp only at c1 c0
    have cR := bR1.cell
    have fR := bR1.frozen
    by_cases he : vk = fk
    · subst he
      gi_wp2
      refine ⟨KeepsFrom.refl _ _, Below.refl _ _, ⟨bR1, fun x hx => ?_⟩, hB1⟩
      rcases List.mem_append.1 hx with hx | hx
      · exact hp x hx
      · simp only [List.mem_singleton] at hx
        rw [hx]
    · gi_wp2
      refine ⟨(KeepsOthers.setCell _ _ _).from _, ⟨⟨rfl, _, List.mem_append.2 (.inr (List.mem_singleton.2 rfl)), fun h => he h.symm⟩, bR1.set _⟩, (hB0.trans (hB1.mono hB0.size)).setCell (p := ⟨w.heap.size, 0, none⟩) (Nat.le_refl _) _⟩
  case done =>
    rintro D ys W hD rfl ⟨⟨bR1, hp⟩, hB1⟩ hK
    have cR := bR1.cell
    have fR := bR1.frozen
    have hyes : Kinds l m := fun i hi => hp (l.getD i d0, m.getD i v0) (up_mem.2 ⟨i, hi, rfl⟩)
    have HYes := Lib.hid hyes
    clear hyes
    gi_wp2
    have hK' := (KeepsOthers.setCell W ⟨w.heap.size, 0, none⟩ (.bool true)).same D _ hK rfl
    refine ⟨by simp, .inl ⟨_, _, rfl, run_takeDeferred hK', ?_⟩⟩
    have hc5 := cell_kept (World.cell?_setCell_same' W ⟨w.heap.size, 0, none⟩ (.bool true) (by rw [cR]; rfl)) (grownBy_putObj' _ D (.deferred none)) (fun r e => by cases e; exact ⟨_, hK', rfl⟩)
    refine ⟨.bool true, ?_, by rw [decide_eq_true HYes.out], ((hB0.trans (hB1.mono hB0.size)).setCell (p := ⟨w.heap.size, 0, none⟩) (Nat.le_refl _) _).trans (belowK_b (w := w) (Nat.le_refl _) _ D _ _ (by omega) hK' rfl rfl)⟩
    simp [results, Try.f50, go_sem, hc5]
  case stop =>
    rintro D c' pre W hD ⟨k, hk, rfl⟩ ⟨⟨⟨rfl, x, hx, hne⟩, bR1⟩, hB1⟩ hK
    have cR := bR1.cell
    have hno : ¬ Kinds l m := fun h => by
      obtain ⟨j, hj, rfl⟩ := up_mem.1 hx
      exact hne (h j (by omega))
    have HNo := Lib.hid hno
    clear hno hx hne
    gi_wp2
    refine ⟨by simp, .inl ⟨_, _, rfl, run_takeDeferred hK, ?_⟩⟩
    have hc5 := cell_kept cR (grownBy_putObj' _ D (.deferred none)) (fun r e => by cases e; exact ⟨_, hK, rfl⟩)
    refine ⟨.bool false, ?_, by rw [decide_eq_false HNo.out], hB1.trans (belowK_b (w := w) (Nat.le_refl _) W D _ _ (by omega) hK rfl rfl)⟩
    simp [results, Try.f50, go_sem, hc5]
end Go.Proofs.Ytbjgflinggelpaa.Ev

namespace Go.Proofs.Ytbjgflinggelpaa.Ev
open Go.RowKit Go.Proofs.Ytbjgflinggelpaa.BM Go.Proofs.Ytbjgflinggelpaa.EvM
open Go.Proofs.Ytbjgflinggelpaa.VaM (V)
open Go.Proofs.Ytbjgflinggelpaa.Va (SlV slV_len bx_new_t Bx ret_v)
open Go.Proofs.Ytbjgflinggelpaa.Sc (SlF slF_len)
open Go.Proofs.Ytbjgflinggelpaa.ScM (d0 Sc)

theorem kinds_iff {l : List ScM.F} {m : List V} (h : l.length = m.length) : l.map (·.k) = m.map (·.k) ↔ Kinds l m := by
  unfold Kinds
  rw [← h, Nat.min_self]
  constructor
  · intro e i hi
    have h1 : (l.map (·.k))[i]? = (m.map (·.k))[i]? := by rw [e]
    rw [List.getElem?_map, List.getElem?_map, List.getElem?_eq_getElem hi, List.getElem?_eq_getElem (by omega)] at h1
    rw [List.getD_eq_getElem?_getD, List.getD_eq_getElem?_getD, List.getElem?_eq_getElem hi, List.getElem?_eq_getElem (by omega)]
    simpa using h1
  · intro hh
    apply List.ext_getElem
    · simpa using h
    · intro i h1 h2
      rw [List.length_map] at h1 h2
      have h3 := hh i h1
      rw [List.getD_eq_getElem?_getD, List.getD_eq_getElem?_getD, List.getElem?_eq_getElem h1, List.getElem?_eq_getElem h2] at h3
      simpa using h3

theorem valid_1 {s : Sc} {e : Ev} (h : ¬ (ScM.May s ∧ May e)) : valid s e = 1 := by rw [valid, if_pos h]
theorem valid_3 {s : Sc} {e : Ev} (h : ScM.May s ∧ May e) (h2 : s.s ≠ e.s) : valid s e = 3 := by rw [valid, if_neg (fun k => k h), if_pos h2]
theorem valid_l {s : Sc} {e : Ev} (h : ScM.May s ∧ May e) (h2 : s.s = e.s) (h3 : s.f.length ≠ e.v.length) : valid s e = 5 := by
  rw [valid, if_neg (fun k => k h), if_neg (fun k => k h2), if_neg (fun k => h3 (by have := congrArg List.length k; simpa using this))]
theorem valid_k {s : Sc} {e : Ev} (h : ScM.May s ∧ May e) (h2 : s.s = e.s) (h3 : s.f.length = e.v.length) : valid s e = if Kinds s.f e.v then 0 else 5 := by
  rw [valid, if_neg (fun k => k h), if_neg (fun k => k h2)]
  by_cases hk : Kinds s.f e.v
  · rw [if_pos hk, if_pos ((kinds_iff h3).2 hk)]
  · rw [if_neg hk, if_neg (fun k => hk ((kinds_iff h3).1 k))]

set_option maxRecDepth 100000 in
set_option maxHeartbeats 2000000 in
theorem Valid_any (a : Sc) (b : Ev) (A : Option Addr) (c : Nat) (B : Option Addr) (d : Nat) (w : World) (h : SlF w A a.f c) (k : SlV w B b.v d) (ha : Sc.Fine a) (hb : Fine b) :
    Calls Try.prog 27 #[.agg #[.string a.s, .int .i64 a.v, .slice A a.f.length c], .agg #[.string b.s, .int .i64 b.t, .slice B b.v.length d]] w fun e w' => e = .returned (.int .i64 (valid a b)) ∧ Below w.heap.size w w' := by
  have hv1 := fun h => @valid_1 a b h
  have hv3 := fun h h2 => @valid_3 a b h h2
  have hvl := fun h h2 h3 => @valid_l a b h h2 h3
  have hvk := fun h h2 h3 => @valid_k a b h h2 h3
  obtain ⟨E, hE⟩ : ∃ E, E = valid a b := ⟨_, rfl⟩
  rw [← hE] at hv1 hv3 hvl hvk ⊢
  have hm1 := fun W (hW : Below w.heap.size w W) => Sc.May_any a A c W (h.kept hW) ha
  have hm2 := fun W (hW : Below w.heap.size w W) => May_any b B d W (k.kept hW) hb
  have hkd := fun W (hW : Below w.heap.size w W) => ofKinds_any A a.f c B b.v d W (h.kept hW) (k.kept hW)
  have hl := slF_len h
  have hm := slV_len k
  clear hE h k ha hb
  obtain ⟨s1, v1, l⟩ := a
  obtain ⟨s2, v2, m⟩ := b
  simp only at hv1 hv3 hvl hvk hm1 hm2 hkd hl hm ⊢
  obtain ⟨M1, hM1⟩ : ∃ M, M = ScM.May ⟨s1, v1, l⟩ := ⟨_, rfl⟩
  obtain ⟨M2, hM2⟩ : ∃ M, M = May ⟨s2, v2, m⟩ := ⟨_, rfl⟩
  obtain ⟨B1, hB1⟩ : ∃ x, x = decide (ScM.May ⟨s1, v1, l⟩) := ⟨_, rfl⟩
  obtain ⟨B2, hB2⟩ : ∃ x, x = decide (May ⟨s2, v2, m⟩) := ⟨_, rfl⟩
  have b1 : B1 = true ↔ M1 := by rw [hB1, hM1, decide_eq_true_iff]
  have b2 : B2 = true ↔ M2 := by rw [hB2, hM2, decide_eq_true_iff]
  simp only [← hB1] at hm1
  simp only [← hB2] at hm2
  rw [← hM1, ← hM2, ← b1, ← b2] at hv1 hv3 hvl hvk
  clear b1 b2 hB1 hB2 hM1 hM2
  obtain ⟨n, hn⟩ : ∃ n, n = l.length := ⟨_, rfl⟩
  obtain ⟨r, hr⟩ : ∃ r, r = m.length := ⟨_, rfl⟩
  simp only [← hn] at hm1 hkd
  simp only [← hr] at hm2 hkd
  rw [← hn, ← hr] at hvl hvk ⊢
  rw [← hn] at hl
  rw [← hr] at hm
  obtain ⟨KB, hKB⟩ : ∃ x, x = decide (Kinds l m) := ⟨_, rfl⟩
  have kb : (if Kinds l m then (0 : Int) else 5) = if KB = true then 0 else 5 := by
    rw [hKB]
    simp only [decide_eq_true_iff]
  rw [kb] at hvk
  simp only [← hKB] at hkd
  have HM1 := Lib.hid hm1
  have HM2 := Lib.hid hm2
  have HK := Lib.hid hkd
  have HV1 := Lib.hid hv1
  have HV3 := Lib.hid hv3
  have HVl := Lib.hid hvl
  have HVk := Lib.hid hvk
  clear hn hr hm1 hm2 hkd hv1 hv3 hvl hvk kb hKB
  have hb1 := (Below.refl w.heap.size w).alloc (Nat.le_refl _) (.cells #[.string s1, .int .i64 v1, .slice A n c] 24)
  have hk := (Below.refl (w.alloc (.cells #[.string s1, .int .i64 v1, .slice A n c] 24)).heap.size (w.alloc (.cells #[.string s1, .int .i64 v1, .slice A n c] 24))).alloc (Nat.le_refl _) (.cells #[.string s2, .int .i64 v2, .slice B r d] 27)
  have hx2 := bx_new_t (w.alloc (.cells #[.string s1, .int .i64 v1, .slice A n c] 24)) 27 (.string s2) (.int .i64 v2) (.slice B r d)
  rw [show (w.alloc (.cells #[.string s1, .int .i64 v1, .slice A n c] 24)).heap.size = w.heap.size + 1 from by simp] at hx2
  have HX1 := Lib.hid ((bx_new_t w 24 (.string s1) (.int .i64 v1) (.slice A n c)).kept hk)
  have HX2 := Lib.hid hx2
  obtain ⟨⟨p0, p1, p2⟩, _⟩ := HX1.out
  have HB := Lib.hid (bt hb1 hk)
  clear hb1 hk hx2
  go_enter Try.func27, Try.ntmps27
  go_wp2_with fail
  refine (HM1.out _ HB.out).mono ?_
  rintro e w1 ⟨rfl, hb1⟩
  have HX11 := Lib.hid (HX1.out.kept hb1)
  have HX21 := Lib.hid (HX2.out.kept hb1)
  have HB1 := Lib.hid (bt HB.out hb1)
  clear hb1 HB HX1 HX2 p0 p1 p2 HM1
  cases B1
  · have HE := Lib.hid (HV1.out (fun h => by cases h.1))
    go_wp2_with fail
    go_ret
    exact ⟨ret_v (x := .int .i64 1) (by rw [HE.out]), HB1.out⟩
  · obtain ⟨⟨q0, q1, q2⟩, _⟩ := HX21.out
    go_wp2_with fail
    refine (HM2.out _ HB1.out).mono ?_
    rintro e w2 ⟨rfl, hb2⟩
    have HX1 := Lib.hid (HX11.out.kept hb2)
    have HX2 := Lib.hid (HX21.out.kept hb2)
    have HB2 := Lib.hid (bt HB1.out hb2)
    clear hb2 HB1 HX11 HX21 q0 q1 q2 HM2
    obtain ⟨⟨p0, p1, p2⟩, _⟩ := HX1.out
    obtain ⟨⟨q0, q1, q2⟩, _⟩ := HX2.out
    cases B2
    · have HE := Lib.hid (HV1.out (fun h => by cases h.2))
      go_wp2_with fail
      go_ret
      exact ⟨ret_v (x := .int .i64 1) (by rw [HE.out]), HB2.out⟩
    · by_cases g1 : s1 = s2
      · subst g1
        have ee : (s1.toList == s1.toList) = true := by simp
        by_cases g3 : n = r
        · subst g3
          have HVv := Lib.hid (HVk.out (by simp) rfl rfl)
          go_wp2_with fail
          refine (HK.out _ HB2.out).mono ?_
          rintro e w3 ⟨rfl, hb3⟩
          have HB3 := Lib.hid (bt HB2.out hb3)
          clear hb3 p0 p1 p2 q0 q1 q2
          cases KB
          · go_wp2_with fail
            go_ret
            exact ⟨ret_v (x := .int .i64 5) (by rw [HVv.out]; rfl), HB3.out⟩
          · go_wp2_with fail
            go_ret
            exact ⟨ret_v (x := .int .i64 0) (by rw [HVv.out]; rfl), HB3.out⟩
        · have hd : ¬ ((n : Int) = r) := by omega
          have HE := Lib.hid (HVl.out (by simp) rfl g3)
          clear g3
          go_wp2_with fail
          go_ret
          exact ⟨ret_v (x := .int .i64 5) (by rw [HE.out]), HB2.out⟩
      · have ee := str_ne g1
        have HE := Lib.hid (HV3.out (by simp) g1)
        clear g1
        go_wp2_with fail
        go_ret
        exact ⟨ret_v (x := .int .i64 3) (by rw [HE.out]), HB2.out⟩
end Go.Proofs.Ytbjgflinggelpaa.Ev

namespace Go.Proofs.Ytbjgflinggelpaa.Sc
open Go.RowKit Go.Proofs.Ytbjgflinggelpaa.BM Go.Proofs.Ytbjgflinggelpaa.LeM Go.Proofs.Ytbjgflinggelpaa.VaM Go.Proofs.Ytbjgflinggelpaa.Va Go.Proofs.Ytbjgflinggelpaa.ScM

/-- A schema of few fields. -/
def Few (s : Sc) : Prop := s.s.size ≤ 60 ∧ s.f.length ≤ 10 ∧ ∀ i, i < s.f.length → (s.f.getD i d0).s.size ≤ 60
instance (s : Sc) : Decidable (Few s) := by unfold Few; infer_instance

set_option maxRecDepth 100000 in
set_option maxHeartbeats 1000000 in
theorem Few_any (s : Sc) (A : Option Addr) (c : Nat) (w : World) (hS : SlF w A s.f c) (hz : s.s.size ≤ maxLen) :
    Calls Try.prog 12 #[.agg #[.string s.s, .int .i64 s.v, .slice A s.f.length c]] w fun e w' => e = .returned (.bool (decide (Few s))) ∧ Below w.heap.size w w' := by
  obtain ⟨nm, v, l⟩ := s
  simp only at hS hz ⊢
  unfold maxLen at hz
  have hl := slF_len hS
  have hfew : Few ⟨nm, v, l⟩ ↔ nm.size ≤ 60 ∧ l.length ≤ 10 ∧ ∀ i, i < l.length → (l.getD i d0).s.size ≤ 60 := Iff.rfl
  obtain ⟨n, hn⟩ : ∃ n, n = l.length := ⟨_, rfl⟩
  rw [← hn] at hl hfew ⊢
  have HLen := Lib.hid hn
  have HS := Lib.hid hS
  have HFew := Lib.hid hfew
  have HX0 := Lib.hid (bx_new_t w 24 (.string nm) (.int .i64 v) (.slice A n c))
  have HB0 := Lib.hid ((Below.refl w.heap.size w).alloc (Nat.le_refl _) (.cells #[.string nm, .int .i64 v, .slice A n c] 24))
  clear hn hS hfew
  obtain ⟨⟨p0, p1, p2⟩, _⟩ := HX0.out
  by_cases m1 : nm.size ≤ 60
  · have hd1 : decide ((60 : Int) < (nm.size : Int)) = false := by rw [decide_eq_false_iff_not]; omega
    by_cases m2 : n ≤ 10
    · have hd2 : decide ((10 : Int) < (n : Int)) = false := by rw [decide_eq_false_iff_not]; omega
      have HF := Lib.hid (show Few ⟨nm, v, l⟩ ↔ ∀ i, i < n → (l.getD i d0).s.size ≤ 60 from ⟨fun h => (HFew.out.1 h).2.2, fun h => HFew.out.2 ⟨m1, m2, h⟩⟩)
      clear m1 HFew
      go_enter Try.func12, Try.ntmps12
      go_wp2_with fail
      obtain ⟨w1, hw1⟩ : ∃ w1, w1 = w.alloc (.cells #[.string nm, .int .i64 v, .slice A n c] 24) := ⟨_, rfl⟩
      rw [← hw1] at HX0 HB0 ⊢
      clear hw1 p0 p1 p2
      go_loopw [3] (fun i wr => ∃ j : Nat, i = .int .i64 j ∧ j ≤ n ∧ (∀ r, r < j → (l.getD r d0).s.size ≤ 60) ∧ wr = w1) (fun i _ => n - (intOf i).toNat)
      case atStart => exact ⟨0, rfl, Nat.zero_le _, fun r hr => absurd hr (Nat.not_lt_zero r), rfl⟩
      case round =>
        obtain ⟨j, rfl, hj, hall, rfl⟩ := hrel
        have HAl := Lib.hid hall
        obtain ⟨⟨_, _, p2⟩, _⟩ := HX0.out
        clear hall
        by_cases hjn : j < n
        · obtain ⟨b, q, hix, hc, hsz⟩ := HS.out.at j (by rw [← HLen.out]; exact hjn)
          obtain ⟨⟨fs, fk⟩, hf⟩ : ∃ f, f = l.getD j d0 := ⟨_, rfl⟩
          rw [← hf] at hc hsz
          obtain ⟨c0, _⟩ := hc wr HB0.out
          simp only at c0 hsz
          unfold maxLen at hsz
          have hi := fun W => hix W n c hjn
          have HFl := Lib.hid hf
          clear hc hix hf
          by_cases h60 : fs.size ≤ 60
          · have hd3 : decide ((60 : Int) < (fs.size : Int)) = false := by rw [decide_eq_false_iff_not]; omega
            have HY := Lib.hid h60
            clear h60
            go_wp2_with fail
            go_roundw
            case rel =>
              refine ⟨j + 1, by go_num, by omega, fun r hr => ?_, by trivial⟩
              by_cases e : r = j
              · rw [e, ← HFl.out]
                exact HY.out
              · exact HAl.out r (by omega)
            case measure => simp [intOf]; omega
          · have hd3 : decide ((60 : Int) < (fs.size : Int)) = true := by rw [decide_eq_true_iff]; omega
            have HNo := Lib.hid (show ¬ Few ⟨nm, v, l⟩ from fun h => h60 (by have := HF.out.1 h j hjn; rw [← HFl.out] at this; exact this))
            clear h60
            go_wp2_with fail
            go_ret
            exact ⟨ret_v (x := .bool false) (by rw [decide_eq_false HNo.out]), HB0.out⟩
        · obtain rfl : j = n := by omega
          have HYes := Lib.hid (HF.out.2 HAl.out)
          go_wp2_with fail
          go_ret
          exact ⟨ret_v (x := .bool true) (by rw [decide_eq_true HYes.out]), HB0.out⟩
    · have hd2 : decide ((10 : Int) < (n : Int)) = true := by rw [decide_eq_true_iff]; omega
      have HNo := Lib.hid (show ¬ Few ⟨nm, v, l⟩ from fun h => m2 (HFew.out.1 h).2.1)
      clear m2 m1
      go_enter Try.func12, Try.ntmps12
      go_wp2_with fail
      go_ret
      exact ⟨ret_v (x := .bool false) (by rw [decide_eq_false HNo.out]), HB0.out⟩
  · have hd1 : decide ((60 : Int) < (nm.size : Int)) = true := by rw [decide_eq_true_iff]; omega
    have HNo := Lib.hid (show ¬ Few ⟨nm, v, l⟩ from fun h => m1 (HFew.out.1 h).1)
    clear m1
    go_enter Try.func12, Try.ntmps12
    go_wp2_with fail
    go_ret
    exact ⟨ret_v (x := .bool false) (by rw [decide_eq_false HNo.out]), HB0.out⟩
end Go.Proofs.Ytbjgflinggelpaa.Sc

namespace Go.Proofs.Ytbjgflinggelpaa.Op
open Go.RowKit Go.ChangeShapes Go.WideShapes Go.Proofs.Ytbjgflinggelpaa.Va Go.Proofs.Ytbjgflinggelpaa.VaM Go.Proofs.Ytbjgflinggelpaa.EvM

/-- An event that came in: its values lie where its slice says. -/
def ArgE (W : World) (s : ByteArray) (t : Int) (a : Option Addr) (len cap : Nat) : Prop := ∃ l : List V, l.length = len ∧ SlV W a l cap ∧ Ev.Fine ⟨s, t, l⟩

theorem flat_cells {w : World} {b : Nat} : ∀ (l : List V) (o : Nat), (∀ i, i < l.length → CellV w b (o + i * 3) (l.getD i v0)) → ∀ (j : Nat) (u : Value), (l.flatMap encV)[j]? = some u → w.cell? ⟨b, o + j, none⟩ = some u
  | [], _, _, j, u, h => by simp at h
  | x :: l, o, hc, j, u, h => by
    rw [List.flatMap_cons] at h
    have h0 := hc 0 (by simp)
    rw [Nat.zero_mul, Nat.add_zero, List.getD_cons_zero] at h0
    obtain ⟨c0, c1, c2⟩ := h0
    by_cases hj : j < 3
    · rw [List.getElem?_append_left (by simpa [encV] using hj)] at h
      have hw : j = 0 ∨ j = 1 ∨ j = 2 := by omega
      rcases hw with rfl | rfl | rfl
      · obtain rfl : _ = u := by simpa [encV] using h
        exact c0
      · obtain rfl : _ = u := by simpa [encV] using h
        exact c1
      · obtain rfl : _ = u := by simpa [encV] using h
        exact c2
    · rw [List.getElem?_append_right (by simp only [encV, List.length_cons, List.length_nil]; omega)] at h
      have h2 := flat_cells l (o + 3) (fun i hi => by
        have h3 := hc (i + 1) (by simpa using hi)
        rw [List.getD_cons_succ] at h3
        rw [show o + 3 + i * 3 = o + (i + 1) * 3 from by omega]
        exact h3) (j - 3) u h
      rw [show o + 3 + (j - 3) = o + j from by omega] at h2
      exact h2

theorem elems_flat {w : World} {p : Nat → Prop} : ∀ l : List V, RG.Elems KV p w l (l.flatMap encV)
  | [] => rfl
  | x :: l => ⟨encV x, l.flatMap encV, rfl, rfl, elems_flat l⟩

set_option maxRecDepth 100000 in
theorem open_event {H : Type} {enc : TypeId × Value → H} {W : World} {r : Reach} {b0 : Nat} {v : Value} {d : DataW H} {p : List MemPlace} (hv : Value.okWide Try.prog W r b0 27 v)
    (h : DataW.Trod enc Try.prog W 0 (fun _ => true) true 27 v d p) : ∃ s n a len cap, v = .agg #[.string s, .int .i64 n, .slice a len cap] ∧ ArgE W s n a len cap := by
  obtain ⟨v0, v1, v2, y0, y1, y2, fuel, rfl, _, _, h0, h1, h2⟩ := Joins.open_agg3 Try.underlying27 (by kernel_rfl) (by kernel_rfl) hv h
  obtain ⟨s, hs, _, ws⟩ := DataW.trod_string Try.underlying9 h0
  obtain ⟨n, hn, _, wn⟩ := DataW.trod_int Try.underlying3 h1
  simp only [List.cons.injEq, and_true] at hs hn
  subst hs hn
  have hb := bounds_i64 wn
  rcases Deep.open_slice Try.underlying25 h2 with ⟨hcs, _⟩ | ⟨x, l, c, m, k, D, Pl, hcs, _, hl, hm, hmm, _, hr⟩
  · simp only [List.cons.injEq, and_true] at hcs
    subst hcs
    exact ⟨s, n, none, 0, 0, rfl, [], rfl, slV_none W, ws, by simp only; omega, by simp only; omega⟩
  · simp only [List.cons.injEq, and_true] at hcs
    subst hcs
    simp only [if_true] at hmm
    rw [hmm] at hr
    have each : ∀ i, i < l → ∃ x' : V, (x'.s.size ≤ maxLen ∧ Rng x') ∧ W.cell? (x.add (i * 3)) = some (.int .i64 x'.k) ∧ W.cell? (x.add (i * 3 + 1)) = some (.int .i64 x'.n) ∧ W.cell? (x.add (i * 3 + 2)) = some (.string x'.s) := by
      intro i hi
      obtain ⟨cs', hc, ht⟩ := hr i (by omega)
      rw [show Try.prog.cellsOf 38 = 3 from by kernel_rfl] at hc
      obtain ⟨_, hlen, hcell⟩ := World.cells?_some hc
      match cs', hlen with
      | [v0, v1, v2], _ =>
        obtain ⟨y0, y1, y2, k, _, _, t0, t1, t2⟩ := Deep.trod_struct3 Try.underlying38 ht
        have c1 : Try.prog.cellsOf 3 = 1 := by kernel_rfl
        have c2 : Try.prog.cellsOf 9 = 1 := by kernel_rfl
        simp only [c1] at t0 t1
        simp only [c2] at t2
        obtain ⟨n0, e0', _, _⟩ := DataW.trod_int Try.underlying3 t0
        obtain ⟨n1, e1', _, w1⟩ := DataW.trod_int Try.underlying3 t1
        obtain ⟨s, e2', _, w2⟩ := DataW.trod_string Try.underlying9 t2
        simp only [List.drop_zero, List.drop_succ_cons, List.take_succ_cons, List.take_zero, List.cons.injEq, and_true] at e0' e1' e2'
        subst e0' e1' e2'
        have g0 := hcell 0 (by decide)
        have g1 := hcell 1 (by decide)
        have g2 := hcell 2 (by decide)
        have hb := bounds_i64 w1
        refine ⟨⟨n0, n1, s⟩, ⟨w2, by simp only; omega, by simp only; omega⟩, ?_, ?_, ?_⟩
        · rw [Deep.add_add, Nat.add_zero] at g0
          exact g0
        · rw [Deep.add_add] at g1
          exact g1
        · rw [Deep.add_add] at g2
          exact g2
    let g : Nat → V := fun i => if h : i < l then Classical.choose (each i h) else EvM.v0
    have hg : ∀ i, i < l → ((g i).s.size ≤ maxLen ∧ Rng (g i)) ∧ W.cell? (x.add (i * 3)) = some (.int .i64 (g i).k) ∧ W.cell? (x.add (i * 3 + 1)) = some (.int .i64 (g i).n) ∧ W.cell? (x.add (i * 3 + 2)) = some (.string (g i).s) := by
      intro i hi
      have e : g i = Classical.choose (each i hi) := dif_pos hi
      rw [e]
      exact Classical.choose_spec (each i hi)
    have hgl : ((List.range l).map g).length = l := by simp
    have hgd : ∀ i, i < l → ((List.range l).map g).getD i EvM.v0 = g i := fun i hi => by simp [List.getD_eq_getElem?_getD, hi]
    refine ⟨s, n, some x, l, c, rfl, (List.range l).map g, hgl, ⟨⟨⟨((List.range l).map g).flatMap encV, fun h0 => ?_, elems_flat _⟩, by rw [hgl]; exact hl, (fun e => by cases e), hm⟩, fun f hf => ?_⟩, ws, by simp only; omega, by simp only; omega⟩
    · have hl0 : 0 < l := by
        rcases Nat.eq_zero_or_pos l with e | e
        · subst e
          simp at h0
        · exact e
      obtain ⟨b, o, sp⟩ := x
      have hsp : sp = none := by simpa [Addr.add] using World.cell?_spot (hg 0 hl0).2.1
      subst hsp
      refine ⟨b, o, rfl, flat_cells _ o fun i hi => ?_⟩
      rw [hgl] at hi
      rw [hgd i hi]
      obtain ⟨_, g1, g2, g3⟩ := hg i hi
      rw [Addr.add_lit] at g1 g2 g3
      exact ⟨g1, g2, g3⟩
    · obtain ⟨i, hi, rfl⟩ := List.mem_map.1 hf
      exact (hg i (List.mem_range.1 hi)).1
end Go.Proofs.Ytbjgflinggelpaa.Op

namespace Go.Proofs.Ytbjgflinggelpaa.Op
open Go.RowKit Go.ChangeShapes Go.WideShapes Go.Proofs.Ytbjgflinggelpaa.Sc Go.Proofs.Ytbjgflinggelpaa.ScM Go.Proofs.Ytbjgflinggelpaa.VaM

/-- A schema that came in: its fields lie where its slice says. -/
def ArgS (W : World) (s : ByteArray) (v : Int) (a : Option Addr) (len cap : Nat) : Prop := ∃ l : List F, l.length = len ∧ SlF W a l cap ∧ Fine ⟨s, v, l⟩

set_option maxRecDepth 100000 in
theorem two {H : Type} {enc : TypeId × Value → H} {P : Program} {w : World} {base : Nat} {spare : Nat → Bool} {held : Bool} {t : TypeId} {g0 g1 : Field} {fuel : Nat} {u0 u1 : Value} {x : DataW H × List MemPlace}
    (ht : P.underlying t = some (.struct #[g0, g1])) (h : DataW.trod enc P w base spare held fuel t [u0, u1] = some x) :
    ∃ y0 y1 n, DataW.trod enc P w base spare held n g0.type (([u0, u1].drop g0.offset).take (P.cellsOf g0.type)) = some y0 ∧ DataW.trod enc P w base spare held n g1.type (([u0, u1].drop g1.offset).take (P.cellsOf g1.type)) = some y1 := by
  obtain ⟨ys, n, _, _, _, hn, hat⟩ := DataW.trod_struct ht h
  obtain ⟨a, b, rfl⟩ : ∃ a b, ys = [a, b] := by
    match ys, hn with
    | [a, b], _ => exact ⟨a, b, rfl⟩
  exact ⟨a, b, n, by simpa using hat 0 g0 rfl, by simpa using hat 1 g1 rfl⟩

set_option maxRecDepth 100000 in
theorem open_fields {H : Type} {enc : TypeId × Value → H} {W : World} {fuel : Nat} {v2 : Value} {y2 : DataW H × List MemPlace} (h2 : DataW.trod enc Try.prog W 0 (fun _ => true) true fuel 22 [v2] = some y2) :
    ∃ a len cap, v2 = .slice a len cap ∧ ∃ l : List F, l.length = len ∧ SlF W a l cap := by
  rcases Deep.open_slice Try.underlying22 h2 with ⟨hcs, _⟩ | ⟨x, l, c, m, k, D, Pl, hcs, _, hl, hm, hmm, _, hr⟩
  · simp only [List.cons.injEq, and_true] at hcs
    subst hcs
    exact ⟨none, 0, 0, rfl, [], rfl, slF_none W⟩
  · simp only [List.cons.injEq, and_true] at hcs
    subst hcs
    simp only [if_true] at hmm
    rw [hmm] at hr
    have each : ∀ i, i < l → ∃ f : F, f.s.size ≤ maxLen ∧ W.cell? (x.add (i * 2)) = some (.string f.s) ∧ W.cell? (x.add (i * 2 + 1)) = some (.int .i64 f.k) := by
      intro i hi
      obtain ⟨cs', hc, ht⟩ := hr i (by omega)
      rw [show Try.prog.cellsOf 63 = 2 from by kernel_rfl] at hc
      obtain ⟨_, hlen, hcell⟩ := World.cells?_some hc
      match cs', hlen with
      | [v0, v1], _ =>
        obtain ⟨y0, y1, k, t0, t1⟩ := two Try.underlying63 ht
        have c1 : Try.prog.cellsOf 3 = 1 := by kernel_rfl
        have c2 : Try.prog.cellsOf 9 = 1 := by kernel_rfl
        simp only [c1, c2] at t0 t1
        obtain ⟨f0, e0', _, w0⟩ := DataW.trod_string Try.underlying9 t0
        obtain ⟨f1, e1', _, _⟩ := DataW.trod_int Try.underlying3 t1
        simp only [List.drop_zero, List.drop_succ_cons, List.take_succ_cons, List.take_zero, List.cons.injEq, and_true] at e0' e1'
        subst e0' e1'
        have g0 := hcell 0 (by decide)
        have g1 := hcell 1 (by decide)
        refine ⟨⟨f0, f1⟩, w0, ?_, ?_⟩
        · rw [Deep.add_add, Nat.add_zero] at g0
          exact g0
        · rw [Deep.add_add] at g1
          exact g1
    let g : Nat → F := fun i => if h : i < l then Classical.choose (each i h) else d0
    have hg : ∀ i, i < l → (g i).s.size ≤ maxLen ∧ W.cell? (x.add (i * 2)) = some (.string (g i).s) ∧ W.cell? (x.add (i * 2 + 1)) = some (.int .i64 (g i).k) := by
      intro i hi
      have e : g i = Classical.choose (each i hi) := dif_pos hi
      rw [e]
      exact Classical.choose_spec (each i hi)
    have hgl : ((List.range l).map g).length = l := by simp
    have hgd : ∀ i, i < l → ((List.range l).map g).getD i d0 = g i := fun i hi => by simp [List.getD_eq_getElem?_getD, hi]
    refine ⟨some x, l, c, rfl, (List.range l).map g, hgl, fun h0 => ?_, by rw [hgl]; exact hl, (fun e => by cases e), hm, fun f hf => ?_⟩
    · rw [hgl] at h0
      obtain ⟨b, o, sp⟩ := x
      have hsp : sp = none := by simpa [Addr.add] using World.cell?_spot (hg 0 h0).2.1
      subst hsp
      refine ⟨b, o, rfl, fun i hi => ?_⟩
      rw [hgl] at hi
      rw [hgd i hi]
      obtain ⟨_, g1, g2⟩ := hg i hi
      rw [Addr.add_lit] at g1 g2
      exact ⟨g1, g2⟩
    · obtain ⟨i, hi, rfl⟩ := List.mem_map.1 hf
      exact (hg i (List.mem_range.1 hi)).1

set_option maxRecDepth 100000 in
theorem open_schema {H : Type} {enc : TypeId × Value → H} {W : World} {r : Reach} {b0 : Nat} {v : Value} {d : DataW H} {p : List MemPlace} (hv : Value.okWide Try.prog W r b0 24 v)
    (h : DataW.Trod enc Try.prog W 0 (fun _ => true) true 24 v d p) : ∃ s n a len cap, v = .agg #[.string s, .int .i64 n, .slice a len cap] ∧ ArgS W s n a len cap := by
  obtain ⟨v0, v1, v2, y0, y1, y2, fuel, rfl, _, _, h0, h1, h2⟩ := Joins.open_agg3 Try.underlying24 (by kernel_rfl) (by kernel_rfl) hv h
  obtain ⟨s, hs, _, ws⟩ := DataW.trod_string Try.underlying9 h0
  obtain ⟨n, hn, _, wn⟩ := DataW.trod_int Try.underlying3 h1
  simp only [List.cons.injEq, and_true] at hs hn
  subst hs hn
  have hb := bounds_i64 wn
  obtain ⟨a, len, cap, rfl, l, hl, hf⟩ := open_fields h2
  exact ⟨s, n, a, len, cap, rfl, l, hl, hf, ws, by simp only; omega, by simp only; omega⟩

set_option maxRecDepth 100000 in
theorem open_field {H : Type} {enc : TypeId × Value → H} {W : World} {r : Reach} {b0 : Nat} {v : Value} {d : DataW H} {p : List MemPlace} (hv : Value.okWide Try.prog W r b0 63 v)
    (h : DataW.Trod enc Try.prog W 0 (fun _ => true) true 63 v d p) : ∃ s n, v = .agg #[.string s, .int .i64 n] ∧ s.size ≤ maxLen := by
  obtain ⟨v0, v1, y0, y1, fuel, rfl, _, _, h0, h1⟩ := Joins.open_agg2 Try.underlying63 (by kernel_rfl) (by kernel_rfl) hv h
  obtain ⟨s, hs, _, ws⟩ := DataW.trod_string Try.underlying9 h0
  obtain ⟨n, hn, _, _⟩ := DataW.trod_int Try.underlying3 h1
  simp only [List.cons.injEq, and_true] at hs hn
  subst hs hn
  exact ⟨s, n, rfl, ws⟩
end Go.Proofs.Ytbjgflinggelpaa.Op

namespace Go.Proofs.Ytbjgflinggelpaa.Op
open Go.RowKit Go.ChangeShapes Go.WideShapes Go.Proofs.Ytbjgflinggelpaa.VaM Go.Proofs.Ytbjgflinggelpaa.ExM Go.Proofs.Ytbjgflinggelpaa.Ex

/-- Parts that came in lie where their slice says. -/
def ArgO (W : World) (a : Option Addr) (len cap : Nat) : Prop := ∃ l : List O, l.length = len ∧ SlO W a l cap

theorem cells_o {w : World} {b : Nat} : ∀ (l : List O) (o : Nat), (∀ i, i < l.length → CellO w b (o + i * 5) (l.getD i o0)) → ∀ (j : Nat) (u : Value), (l.flatMap encO)[j]? = some u → w.cell? ⟨b, o + j, none⟩ = some u
  | [], _, _, j, u, h => by simp at h
  | x :: l, o, hc, j, u, h => by
    rw [List.flatMap_cons] at h
    have h0 := hc 0 (by simp)
    rw [Nat.zero_mul, Nat.add_zero, List.getD_cons_zero] at h0
    obtain ⟨c0, c1, c2, c3, c4⟩ := h0
    by_cases hj : j < 5
    · rw [List.getElem?_append_left (by simpa [encO] using hj)] at h
      have hw : j = 0 ∨ j = 1 ∨ j = 2 ∨ j = 3 ∨ j = 4 := by omega
      rcases hw with rfl | rfl | rfl | rfl | rfl
      · obtain rfl : _ = u := by simpa [encO] using h
        exact c0
      · obtain rfl : _ = u := by simpa [encO] using h
        exact c1
      · obtain rfl : _ = u := by simpa [encO] using h
        exact c2
      · obtain rfl : _ = u := by simpa [encO] using h
        exact c3
      · obtain rfl : _ = u := by simpa [encO] using h
        exact c4
    · rw [List.getElem?_append_right (by simp only [encO, List.length_cons, List.length_nil]; omega)] at h
      have h2 := cells_o l (o + 5) (fun i hi => by
        have h3 := hc (i + 1) (by simpa using hi)
        rw [List.getD_cons_succ] at h3
        rw [show o + 5 + i * 5 = o + (i + 1) * 5 from by omega]
        exact h3) (j - 5) u h
      rw [show o + 5 + (j - 5) = o + j from by omega] at h2
      exact h2

set_option maxRecDepth 100000 in
theorem open_ops {H : Type} {enc : TypeId × Value → H} {W : World} {r : Reach} {b0 : Nat} {v : Value} {d : DataW H} {p : List MemPlace} (hv : Value.okWide Try.prog W r b0 28 v)
    (h : DataW.Trod enc Try.prog W 0 (fun _ => true) true 28 v d p) : ∃ a len cap, v = .slice a len cap ∧ ArgO W a len cap := by
  obtain ⟨a, len, cap, rfl⟩ := okWide_slice Try.underlying28 hv
  refine ⟨a, len, cap, rfl, ?_⟩
  obtain ⟨fuel, hf⟩ := h
  simp only [Value.cells] at hf
  rcases Deep.open_slice Try.underlying28 hf with ⟨hcs, _⟩ | ⟨x, l, c, m, n, D, Pl, hcs, _, hl, hm, hmm, _, hr⟩
  · simp only [List.cons.injEq, Value.slice.injEq, and_true] at hcs
    obtain ⟨rfl, rfl, rfl⟩ := hcs
    exact ⟨[], rfl, slO_none W⟩
  · simp only [List.cons.injEq, Value.slice.injEq, and_true] at hcs
    obtain ⟨rfl, rfl, rfl⟩ := hcs
    simp only [if_true] at hmm
    subst hmm
    have each : ∀ i, i < len → ∃ y : O, Fin y ∧ W.cell? (x.add (i * 5)) = some (.int .i64 y.c) ∧ W.cell? (x.add (i * 5 + 1)) = some (.int .i64 y.a) ∧ W.cell? (x.add (i * 5 + 2)) = some (.int .i64 y.v.k) ∧ W.cell? (x.add (i * 5 + 3)) = some (.int .i64 y.v.n) ∧ W.cell? (x.add (i * 5 + 4)) = some (.string y.v.s) := by
      intro i hi
      obtain ⟨cs', hc, ht⟩ := hr i (by omega)
      rw [show Try.prog.cellsOf 52 = 5 from by kernel_rfl] at hc
      obtain ⟨_, hlen, hcell⟩ := World.cells?_some hc
      match cs', hlen with
      | [u0, u1, u2, u3, u4], _ =>
        obtain ⟨y0, y1, y2, k, _, _, t0, t1, t2⟩ := Deep.trod_struct3 Try.underlying52 ht
        have c1 : Try.prog.cellsOf 3 = 1 := by kernel_rfl
        have c2 : Try.prog.cellsOf 9 = 1 := by kernel_rfl
        have c3 : Try.prog.cellsOf 38 = 3 := by kernel_rfl
        simp only [c1] at t0 t1
        simp only [c3] at t2
        simp only [List.drop_zero, List.drop_succ_cons, List.take_succ_cons, List.take_zero] at t0 t1 t2
        obtain ⟨n0, e0', _, w0⟩ := DataW.trod_int Try.underlying3 t0
        obtain ⟨n1, e1', _, w1⟩ := DataW.trod_int Try.underlying3 t1
        obtain ⟨z0, z1, z2, k', _, _, s0, s1, s2⟩ := Deep.trod_struct3 Try.underlying38 t2
        simp only [c1] at s0 s1
        simp only [c2] at s2
        obtain ⟨n2, e2', _, _⟩ := DataW.trod_int Try.underlying3 s0
        obtain ⟨n3, e3', _, w3⟩ := DataW.trod_int Try.underlying3 s1
        obtain ⟨s, e4', _, w4⟩ := DataW.trod_string Try.underlying9 s2
        simp only [List.drop_zero, List.drop_succ_cons, List.take_succ_cons, List.take_zero, List.cons.injEq, and_true] at e0' e1' e2' e3' e4'
        subst e0' e1' e2' e3' e4'
        have g0 := hcell 0 (by decide)
        have g1 := hcell 1 (by decide)
        have g2 := hcell 2 (by decide)
        have g3 := hcell 3 (by decide)
        have g4 := hcell 4 (by decide)
        have b0 := bounds_i64 w0
        have b1 := bounds_i64 w1
        have b3 := bounds_i64 w3
        refine ⟨⟨n0, n1, ⟨n2, n3, s⟩⟩, ⟨w4, ⟨by simp only; omega, by simp only; omega⟩, ⟨by simp only; omega, by simp only; omega⟩, by simp only; omega, by simp only; omega⟩, ?_, ?_, ?_, ?_, ?_⟩
        · rw [Deep.add_add, Nat.add_zero] at g0
          exact g0
        · rw [Deep.add_add] at g1
          exact g1
        · rw [Deep.add_add] at g2
          exact g2
        · rw [Deep.add_add] at g3
          exact g3
        · rw [Deep.add_add] at g4
          exact g4
    let g : Nat → O := fun i => if h : i < len then Classical.choose (each i h) else o0
    have hg : ∀ i, i < len → Fin (g i) ∧ W.cell? (x.add (i * 5)) = some (.int .i64 (g i).c) ∧ W.cell? (x.add (i * 5 + 1)) = some (.int .i64 (g i).a) ∧ W.cell? (x.add (i * 5 + 2)) = some (.int .i64 (g i).v.k) ∧ W.cell? (x.add (i * 5 + 3)) = some (.int .i64 (g i).v.n) ∧ W.cell? (x.add (i * 5 + 4)) = some (.string (g i).v.s) := by
      intro i hi
      have e : g i = Classical.choose (each i hi) := dif_pos hi
      rw [e]
      exact Classical.choose_spec (each i hi)
    have hgl : ((List.range len).map g).length = len := by simp
    have hgd : ∀ i, i < len → ((List.range len).map g).getD i o0 = g i := fun i hi => by simp [List.getD_eq_getElem?_getD, hi]
    refine ⟨(List.range len).map g, hgl, ⟨⟨((List.range len).map g).flatMap encO, fun h0 => ?_, elems_o _ _ _⟩, by rw [hgl]; exact hl, (fun e => by cases e), hm⟩, fun f hf => ?_⟩
    · have hl0 : 0 < len := by
        rcases Nat.eq_zero_or_pos len with e | e
        · subst e
          simp at h0
        · exact e
      obtain ⟨b, o, sp⟩ := x
      have hsp : sp = none := by simpa [Addr.add] using World.cell?_spot (hg 0 hl0).2.1
      subst hsp
      refine ⟨b, o, rfl, cells_o _ o fun i hi => ?_⟩
      rw [hgl] at hi
      rw [hgd i hi]
      obtain ⟨_, g0, g1, g2, g3, g4⟩ := hg i hi
      rw [Addr.add_lit] at g0 g1 g2 g3 g4
      exact ⟨g0, g1, g2, g3, g4⟩
    · obtain ⟨i, hi, rfl⟩ := List.mem_map.1 hf
      exact (hg i (List.mem_range.1 hi)).1
end Go.Proofs.Ytbjgflinggelpaa.Op

namespace Go.Proofs.Ytbjgflinggelpaa.Ex
open Go.RowKit Go.Proofs.Ytbjgflinggelpaa.BM Go.Proofs.Ytbjgflinggelpaa.LM Go.Proofs.Ytbjgflinggelpaa.VaM Go.Proofs.Ytbjgflinggelpaa.Va Go.Proofs.Ytbjgflinggelpaa.ExM Go.Proofs.Ytbjgflinggelpaa.EvM
open Go.Proofs.Ytbjgflinggelpaa.Sc (SlF slF_len)

theorem kinds_facts {s : ScM.Sc} {e : Ev} {l : List O} (h : valid s e = 0) : ((kind s l).2 ≠ 0 → (kind s l).1 = 0 ∧ ((eval e l).2 = (kind s l).2 ∨ (eval e l).2 = 6)) ∧
    ((kind s l).2 = 0 → ((eval e l).2 = 6 ∧ (eval e l).1 = v0) ∨ ((eval e l).2 = 0 ∧ (eval e l).1.k = (kind s l).1)) := by
  unfold valid at h
  by_cases h1 : ¬ (ScM.May s ∧ EvM.May e)
  · rw [if_pos h1] at h
    cases h
  · rw [if_neg h1] at h
    have h1' : ScM.May s ∧ EvM.May e := Classical.not_not.1 h1
    by_cases h2 : s.s ≠ e.s
    · rw [if_pos h2] at h
      cases h
    · rw [if_neg h2] at h
      by_cases h3 : s.f.map (·.k) = e.v.map (·.k)
      · have hk : (s.f.map fun f => kval f.k).map (·.k) = e.v.map (·.k) := by
          rw [List.map_map, ← h3]
          rfl
        by_cases hl : ExM.May l
        · have e1 : kind s l = ((through (s.f.map fun f => kval f.k) l true).1.k, (through (s.f.map fun f => kval f.k) l true).2) := by rw [kind, if_neg (fun k => k ⟨h1'.1, hl⟩)]
          have e2 : eval e l = through e.v l false := by rw [eval, if_neg (fun k => k ⟨hl, h1'.2⟩)]
          rw [e1, e2]
          have herr := @through_err (s.f.map fun f => kval f.k) l true
          rcases through_kinds hk l with g | ⟨g1, g2⟩
          · rw [g]
            exact ⟨fun hn => ⟨by rw [herr hn]; rfl, Or.inr rfl⟩, fun _ => Or.inl ⟨rfl, rfl⟩⟩
          · exact ⟨fun hn => ⟨by rw [herr hn]; rfl, Or.inl g1.symm⟩, fun h0 => Or.inr ⟨by rw [← g1]; exact h0, g2.symm⟩⟩
        · have e1 : kind s l = (0, 1) := by rw [kind, if_pos (fun k => hl k.2)]
          have e2 : eval e l = (v0, 1) := by rw [eval, if_pos (fun k => hl k.1)]
          rw [e1, e2]
          exact ⟨fun _ => ⟨rfl, Or.inl rfl⟩, fun h => by cases h⟩
      · rw [if_neg h3] at h
        cases h

set_option maxRecDepth 100000 in
set_option maxHeartbeats 4000000 in
theorem kinds_walk (sn : ByteArray) (v : Int) (B : Option Addr) (len0 cap0 : Nat) (nm : ByteArray) (t : Int) (A : Option Addr) (len1 cap1 : Nat) (C : Option Addr) (len2 cap2 : Nat) (W : World) (h0 : Op.ArgS W sn v B len0 cap0) (h1 : Op.ArgE W nm t A len1 cap1) (h2 : Op.ArgO W C len2 cap2) :
    Calls Try.prog 4 #[.agg #[.string sn, .int .i64 v, .slice B len0 cap0], .agg #[.string nm, .int .i64 t, .slice A len1 cap1], .slice C len2 cap2] W fun e w' => e = .returned (.bool true) ∧ Below W.heap.size W w' := by
  obtain ⟨f, hn0, hF, hfz⟩ := h0
  obtain ⟨vs, hn1, hS, hz⟩ := h1
  obtain ⟨l, hn2, hO⟩ := h2
  subst hn0 hn1 hn2
  have hfs := fun w (h : Below W.heap.size W w) => Sc.Few_any ⟨sn, v, f⟩ B cap0 w (hF.kept h) hfz.1
  have hfe := fun w (h : Below W.heap.size W w) => Ev.Few_any ⟨nm, t, vs⟩ A cap1 w (hS.kept h) hz.1
  have hfo := fun w (h : Below W.heap.size W w) => Few_any l C cap2 w (hO.kept h)
  have hva := fun w (h : Below W.heap.size W w) => Ev.Valid_any ⟨sn, v, f⟩ ⟨nm, t, vs⟩ B cap0 A cap1 w (hF.kept h) (hS.kept h) hfz hz
  have hki := fun w (h : Below W.heap.size W w) => Kind_any ⟨sn, v, f⟩ l B cap0 C cap2 w (hF.kept h) hfz (hO.kept h)
  have hev := fun w (h : Below W.heap.size W w) => Eval_any ⟨nm, t, vs⟩ l A cap1 C cap2 w (hS.kept h) hz (hO.kept h)
  have hfac := @kinds_facts ⟨sn, v, f⟩ ⟨nm, t, vs⟩ l
  obtain ⟨R, hR⟩ : ∃ R, R = valid ⟨sn, v, f⟩ ⟨nm, t, vs⟩ := ⟨_, rfl⟩
  obtain ⟨K, hK⟩ : ∃ K, K = kind ⟨sn, v, f⟩ l := ⟨_, rfl⟩
  obtain ⟨E, hE⟩ : ∃ E, E = eval ⟨nm, t, vs⟩ l := ⟨_, rfl⟩
  rw [← hR, ← hK, ← hE] at hfac
  simp only [← hR] at hva
  simp only [← hK] at hki
  simp only [← hE] at hev
  clear hR hK hE
  obtain ⟨kk, kf⟩ := K
  obtain ⟨⟨yk, yn, ys⟩, yr⟩ := E
  unfold TwoV at hev
  simp only at hfs hfe hva hki hev hfac
  obtain ⟨n0, e0'⟩ : ∃ n, n = f.length := ⟨_, rfl⟩
  obtain ⟨n1, e1'⟩ : ∃ n, n = vs.length := ⟨_, rfl⟩
  obtain ⟨n2, e2'⟩ : ∃ n, n = l.length := ⟨_, rfl⟩
  simp only [← e0'] at hfs hva hki
  simp only [← e1'] at hfe hva hev
  simp only [← e2'] at hfo hki hev
  rw [← e0', ← e1', ← e2']
  have HFs := Lib.hid hfs
  have HFe := Lib.hid hfe
  have HFo := Lib.hid hfo
  have HVa := Lib.hid hva
  have HKi := Lib.hid hki
  have HEv := Lib.hid hev
  have HFac := Lib.hid hfac
  have hx1 := bx_new_t W 24 (.string sn) (.int .i64 v) (.slice B n0 cap0)
  have hb1 := (Below.refl W.heap.size W).alloc (Nat.le_refl _) (.cells #[.string sn, .int .i64 v, .slice B n0 cap0] 24)
  obtain ⟨u1, hu1⟩ : ∃ u, u = W.alloc (.cells #[.string sn, .int .i64 v, .slice B n0 cap0] 24) := ⟨_, rfl⟩
  have hs1 : u1.heap.size = W.heap.size + 1 := by rw [hu1]; simp
  rw [← hu1] at hx1 hb1
  have hy1 := bx_new_t u1 27 (.string nm) (.int .i64 t) (.slice A n1 cap1)
  have hb2 := (Below.refl u1.heap.size u1).alloc (Nat.le_refl _) (.cells #[.string nm, .int .i64 t, .slice A n1 cap1] 27)
  have hx2 := hx1.kept hb2
  have hbb := bt hb1 hb2
  rw [hs1] at hy1
  rw [hu1] at hx2 hy1 hbb
  have HX2 := Lib.hid hx2
  have HY2 := Lib.hid hy1
  have HB2 := Lib.hid hbb
  clear hfs hfe hfo hva hki hev hfac hx1 hb1 hu1 hs1 hy1 hb2 hx2 hbb u1 hF hfz hS hz hO e0' e1' e2'
  go_enter Try.func4, Try.ntmps4
  go_wp2_with fail
  obtain ⟨w2, hw2⟩ : ∃ w2, w2 = (W.alloc (.cells #[.string sn, .int .i64 v, .slice B n0 cap0] 24)).alloc (.cells #[.string nm, .int .i64 t, .slice A n1 cap1] 27) := ⟨_, rfl⟩
  rw [← hw2] at HX2 HY2 HB2 ⊢
  clear hw2
  refine (awake_any w2).mono ?_
  rintro e w3 ⟨rfl, hb3⟩
  have HB3 := Lib.hid (bt HB2.out hb3)
  have HX3 := Lib.hid (HX2.out.kept hb3)
  have HY3 := Lib.hid (HY2.out.kept hb3)
  clear hb3 HB2 HX2 HY2
  obtain ⟨⟨p0, p1, p2⟩, _⟩ := HX3.out
  obtain ⟨a1, ha1⟩ : ∃ a, a = decide (Sc.Few ⟨sn, v, f⟩) := ⟨_, rfl⟩
  have HF := Lib.hid (HFs.out w3 HB3.out)
  rw [← ha1] at HF
  clear ha1
  go_wp2_with fail
  refine HF.out.mono ?_
  rintro e w4 ⟨rfl, hb4⟩
  have HB4 := Lib.hid (bt HB3.out hb4)
  have HX4 := Lib.hid (HX3.out.kept hb4)
  have HY4 := Lib.hid (HY3.out.kept hb4)
  clear hb4 HB3 HX3 HY3 HF p0 p1 p2
  obtain ⟨⟨p0, p1, p2⟩, _⟩ := HY4.out
  obtain ⟨a2, ha2⟩ : ∃ a, a = decide (Ev.Few ⟨nm, t, vs⟩) := ⟨_, rfl⟩
  have HF := Lib.hid (HFe.out w4 HB4.out)
  rw [← ha2] at HF
  clear ha2
  go_wp2_with fail
  refine HF.out.mono ?_
  rintro e w5 ⟨rfl, hb5⟩
  have HB5 := Lib.hid (bt HB4.out hb5)
  have HX5 := Lib.hid (HX4.out.kept hb5)
  have HY5 := Lib.hid (HY4.out.kept hb5)
  clear hb5 HB4 HX4 HY4 HF p0 p1 p2
  obtain ⟨a3, ha3⟩ : ∃ a, a = decide (Few l) := ⟨_, rfl⟩
  have HF := Lib.hid (HFo.out w5 HB5.out)
  rw [← ha3] at HF
  clear ha3
  go_wp2_with fail
  refine HF.out.mono ?_
  rintro e w6 ⟨rfl, hb6⟩
  have HB6 := Lib.hid (bt HB5.out hb6)
  have HX6 := Lib.hid (HX5.out.kept hb6)
  have HY6 := Lib.hid (HY5.out.kept hb6)
  clear hb6 HB5 HX5 HY5 HF
  obtain ⟨⟨p0, p1, p2⟩, _⟩ := HX6.out
  obtain ⟨⟨y0, y1, y2⟩, _⟩ := HY6.out
  have hways : (a1 = false ∨ (a1 = true ∧ a2 = false) ∨ (a1 = true ∧ a2 = true ∧ a3 = false)) ∨ (a1 = true ∧ a2 = true ∧ a3 = true) := by cases a1 <;> cases a2 <;> cases a3 <;> simp
  rcases hways with hbad | ⟨rfl, rfl, rfl⟩
  · rcases hbad with rfl | ⟨rfl, rfl⟩ | ⟨rfl, rfl, rfl⟩
    all_goals
      go_wp2_with fail
      go_ret
      exact ⟨ret_v (x := .bool true) rfl, HB6.out⟩
  · go_wp2_with fail
    refine (HVa.out w6 HB6.out).mono ?_
    rintro e w7 ⟨rfl, hb7⟩
    have HB7 := Lib.hid (bt HB6.out hb7)
    have HX7 := Lib.hid (HX6.out.kept hb7)
    have HY7 := Lib.hid (HY6.out.kept hb7)
    clear hb7 HB6 HX6 HY6 p0 p1 p2 y0 y1 y2
    obtain ⟨⟨p0, p1, p2⟩, _⟩ := HX7.out
    by_cases hR : R = 0
    · subst hR
      obtain ⟨hf1, hf2⟩ := HFac.out rfl
      have HF1 := Lib.hid hf1
      have HF2 := Lib.hid hf2
      clear HFac hf1 hf2
      go_wp2_with fail
      refine (HKi.out w7 HB7.out).mono ?_
      rintro e w8 ⟨rfl, hb8⟩
      have HB8 := Lib.hid (bt HB7.out hb8)
      have HY8 := Lib.hid (HY7.out.kept hb8)
      clear hb8 HB7 HX7 HY7 p0 p1 p2
      obtain ⟨⟨p0, p1, p2⟩, _⟩ := HY8.out
      go_wp2_with fail
      refine (HEv.out w8 HB8.out).mono ?_
      rintro e w9 ⟨rfl, hb9⟩
      have ha10 := (Below.refl w9.heap.size w9).alloc (Nat.le_refl _) (.cells #[.int .i64 yk, .int .i64 yn, .string ys] 38)
      obtain ⟨⟨q0, q1, q2⟩, _⟩ := bx_new_t w9 38 (.int .i64 yk) (.int .i64 yn) (.string ys)
      have HB10 := Lib.hid (bt HB8.out (bt hb9 ha10))
      clear hb9 ha10 p0 p1 p2
      by_cases hkf : kf = 0
      · subst hkf
        rcases HF2.out rfl with ⟨rfl, hv⟩ | ⟨rfl, rfl⟩
        · injection hv with h1 h2 h3
          have h4 : ys = ⟨#[]⟩ := h3
          subst h1 h2 h4
          clear h3
          go_wp2_with fail
          go_ret
          exact ⟨ret_v (x := .bool true) rfl, HB10.out⟩
        · go_wp2_with fail
          go_ret
          exact ⟨ret_v (x := .bool true) rfl, HB10.out⟩
      · have g1 : (kf != 0) = true := by rw [bne_iff_ne]; exact hkf
        obtain ⟨rfl, hg⟩ := HF1.out hkf
        rcases hg with rfl | rfl
        · clear hkf
          go_wp2_with fail
          go_ret
          exact ⟨ret_v (x := .bool true) rfl, HB10.out⟩
        · obtain ⟨z, hz⟩ : ∃ z, ((6 : Int) == kf) = z := ⟨_, rfl⟩
          clear hkf
          cases z
          all_goals
            go_wp2_with fail
            go_ret
            exact ⟨ret_v (x := .bool true) rfl, HB10.out⟩
    · have g1 : (R != 0) = true := by rw [bne_iff_ne]; exact hR
      clear hR
      go_wp2_with fail
      go_ret
      exact ⟨ret_v (x := .bool true) rfl, HB7.out⟩
end Go.Proofs.Ytbjgflinggelpaa.Ex

namespace Go.Proofs.Ytbjgflinggelpaa.exprKinds
open Go.ChangeShapes Go.WideShapes Go.ChangeAt Go.RowKit

theorem own : ownKnob Try.prog.godebug = none := by kernel_rfl
theorem laidOut : laidOutB Try.prog = true := by kernel_rfl

set_option maxRecDepth 100000 in
theorem lifted (os : Os) (started : os.Started) (H : Type) (enc : TypeId × Value → H) :
    ReturnsInHanded {} Try.checked os 4 .any (Rows.exprKindsSpec.pre6 enc Try.prog Try.f4 Rows.exprKindsRow.domain false) (Rows.exprKindsSpec.post enc Try.prog Try.f4 false true false false) := by
  refine returnsInHanded_of_change (C := Try.checked) own started (by kernel_rfl) Try.func4
    (ChangeSpec.witness6 (enc := enc) (C := Try.checked) false ⟨#[], #[.agg #[.string ⟨#[]⟩, .int .i64 0, .slice none 0 0], .agg #[.string ⟨#[]⟩, .int .i64 0, .slice none 0 0], .slice none 0 0], []⟩ 8 (by kernel_rfl) (by kernel_rfl) (by kernel_rfl) (by kernel_rfl)) ?_
  intro W base args ds gs before hval0 hW hcnd _
  have hval : ∀ (j : Nat) t v, Try.f4.params[j]? = some t → args[j]? = some v → Value.okWide Try.prog W .any base t v := hval0
  have hW' := hW
  obtain ⟨p, q, hA0, hV, rfl, hfz, hnd⟩ := hW
  have hA : DataW.TrodAll enc Try.prog W 0 (fun _ => true) true Try.f4.params.toList args.toList ds p := hA0
  rw [Try.params4] at hA hval
  obtain ⟨v0, vs0, d0, ds0, p0, q0, hargs, rfl, rfl, h0, r0⟩ := trodAll_cons hA
  obtain ⟨v1, vs1, d1, ds1, p1, q1, rfl, rfl, rfl, h1, r1⟩ := trodAll_cons r0
  obtain ⟨v2, vs2, d2, ds2, p2, q2, rfl, rfl, rfl, h2, r2⟩ := trodAll_cons r1
  obtain ⟨rfl, rfl, rfl⟩ := trodAll_nil r2
  obtain rfl : args = #[v0, v1, v2] := by cases args; simp_all
  obtain ⟨rfl, rfl⟩ := trodVars_none hV
  have k0 := h0
  have lt0 : ∀ x ∈ p0, x.block < W.heap.size := by obtain ⟨m, hm⟩ := k0; exact DataW.trod_lt m _ _ _ hm
  obtain ⟨ss0, nn0, a0, len0, cap0, rfl, w0⟩ := Op.open_schema (hval 0 24 v0 rfl rfl) h0
  have k1 := h1
  have lt1 : ∀ x ∈ p1, x.block < W.heap.size := by obtain ⟨m, hm⟩ := k1; exact DataW.trod_lt m _ _ _ hm
  obtain ⟨ss1, nn1, a1, len1, cap1, rfl, w1⟩ := Op.open_event (hval 1 27 v1 rfl rfl) h1
  have k2 := h2
  have lt2 : ∀ x ∈ p2, x.block < W.heap.size := by obtain ⟨m, hm⟩ := k2; exact DataW.trod_lt m _ _ _ hm
  obtain ⟨a2, len2, cap2, rfl, w2⟩ := Op.open_ops (hval 2 28 v2 rfl rfl) h2
  clear hA0 hval0
  refine (Go.Proofs.Ytbjgflinggelpaa.Ex.kinds_walk ss0 nn0 a0 len0 cap0 ss1 nn1 a1 len1 cap1 a2 len2 cap2 W w0 w1 w2).mono fun e W' ⟨he, bel⟩ => ?_
  subst he
  exact ⟨_, rfl, _, _, _, [], _, [], hW', trodAll_mk1 (shut_bool Try.underlying4 _), (trodAll_cons_mk (Below.trod laidOut (by kernel_rfl) (of_decide_eq_true (by kernel_rfl)) k0 bel lt0) (trodAll_cons_mk (Below.trod laidOut (by kernel_rfl) (of_decide_eq_true (by kernel_rfl)) k1 bel lt1) (trodAll_cons_mk (Below.trod laidOut (by kernel_rfl) (of_decide_eq_true (by kernel_rfl)) k2 bel lt2) trodAll_mk0))), rfl, bel.frame _, fun h => by cases h⟩

theorem over : Rows.exprKindsRow.holds Try.pinned (OpenSpec.ofChange Rows.exprKindsSpec) :=
  OpenClaim.holds_of_wide 4 Try.f4 rfl rfl rfl rfl rfl rfl rfl ⟨rfl, rfl, rfl, rfl, rfl⟩ rfl rfl rfl rfl rfl (by kernel_rfl) Try.func4 (by kernel_rfl)
    (of_decide_eq_true (by kernel_rfl)) (by unfold Func.isWrapper; first | (rw [if_pos (by decide +kernel)]; kernel_rfl) | (rw [if_neg (by decide +kernel)]; exact ⟨rfl, rfl⟩))
    (fun os started H enc _ => lifted os started H enc)

theorem proved : Rows.ExprKindsSaid := over
#print axioms proved
end Go.Proofs.Ytbjgflinggelpaa.exprKinds
