/- paired and ofKinds: fields with their values, gone through by a function to range over; asked: both lie where the slices say. -/
import Derived.RangeFuncNested
import Derived.RangeFuncBound
import Derived.RangeFuncCalls
import Derived.RangeFuncLeaves
import Derived.Shelf.Abstract
import Derived.Shelf.RegionOpen
import Derived.WalkKit
import Derived.OwnWalkIn
import Derived.TacticsInMore
import Derived.LoopNIn
import Derived.LoopIn
import Derived.Lib.MinMax
import Derived.Test.YtbakhodijhacoaaEventMath
import Derived.Test.YtbakhodijhacoaaValueRow
import Derived.Test.YtbakhodijhacoaaSchemaRow
import Derived.Test.YtbakhodijhacoaaRegionR
namespace Go.Proofs.Ytbakhodijhacoaa.Ev
open Go.RowKit Go.Shelf Go.Proofs.Ytbakhodijhacoaa.BM Go.Proofs.Ytbakhodijhacoaa.EvM
open Go.Proofs.Ytbakhodijhacoaa.VaM (V)
open Go.Proofs.Ytbakhodijhacoaa.Va (SlV slV_len bx_new_t bx2_new Bx Bx2 CellV)
open Go.Proofs.Ytbakhodijhacoaa.Sc (SlF slF_len CellF)
open Go.Proofs.Ytbakhodijhacoaa.ScM (d0)

attribute [local go_sem] Oper.semAt_some

/-- Fields and values, side by side. -/
abbrev FV := ScM.F × V
/-- As yield gets them. -/
def encs (x : FV) : Array Value := #[.agg #[.string x.1.s, .int .i64 x.1.k], .agg #[.int .i64 x.2.k, .int .i64 x.2.n, .string x.2.s]]
/-- The first k pairs. -/
def up (l : List ScM.F) (m : List V) (k : Nat) : List FV := (List.range k).map fun j => (l.getD j d0, m.getD j v0)
theorem up_succ (l : List ScM.F) (m : List V) (k : Nat) : up l m (k + 1) = up l m k ++ [(l.getD k d0, m.getD k v0)] := by simp [up, List.range_succ]
theorem up_length (l : List ScM.F) (m : List V) (k : Nat) : (up l m k).length = k := by simp [up]
theorem up_mem {l : List ScM.F} {m : List V} {k : Nat} {x : FV} : x ∈ up l m k ↔ ∃ j, j < k ∧ (l.getD j d0, m.getD j v0) = x := by simp [up]

theorem cut {P Q : Prop} (h : P → Q) (p : P) : Q := h p

set_option maxRecDepth 100000 in
set_option maxHeartbeats 4000000 in
/-- The iterator's own body: for every loop body that keeps what was there. -/
theorem paired1_in (E : Fence) (n : Nat) (hE : E.fn 58) (hro : E.round = none) (hn : 1 ≤ n) (lo b1 b2 : Nat) (A : Option Addr) (l : List ScM.F) (c : Nat) (B : Option Addr) (m : List V) (d : Nat) (w : World)
    (hS : SlF w A l c) (hT : SlV w B m d) (x1 : w.cell? ⟨b1, 0, none⟩ = some (.slice A l.length c)) (x2 : w.cell? ⟨b2, 0, none⟩ = some (.slice B m.length d)) (J Jx : List FV → World → Prop) (BW : Nat) (hJa : AbidesFrom BW J) (N : Nat) (hN : N = min l.length m.length)
    (hY : ∀ pre x W, J pre W → pre.length < N → YieldAt E (n - 1) Try.prog lo (encs x) W fun e W' =>
      (e = .returned (.bool true) ∧ J (pre ++ [x]) W' ∧ Below w.heap.size W W') ∨ (e = .returned (.bool false) ∧ Jx (pre ++ [x]) W'))
    (W : World) (hW : Below w.heap.size w W) (h0 : J [] W) :
    CallsIn E n Try.prog 58 #[.func (.yield lo) #[] #[], .pointer (some ⟨b1, 0, none⟩), .pointer (some ⟨b2, 0, none⟩)] W fun e W' => (∃ v, e = .returned v) ∧
      ((∃ ys, ys = up l m N ∧ J ys W') ∨ (∃ pre, (∃ k, k ≤ N ∧ pre = up l m k) ∧ Jx pre W')) := by
  have hl := slF_len hS
  have hm := slV_len hT
  have HY := Lib.hid hY
  have HS := Lib.hid hS
  have HT := Lib.hid hT
  have HX1 := Lib.hid x1
  have HX2 := Lib.hid x2
  have k1 := (hW.cell (p := ⟨b1, 0, none⟩) (World.block_lt_of_cell? w _ x1)).trans x1
  have k2 := (hW.cell (p := ⟨b2, 0, none⟩) (World.block_lt_of_cell? w _ x2)).trans x2
  obtain ⟨r, hr⟩ : ∃ r, r = l.length := ⟨_, rfl⟩
  obtain ⟨s, hs⟩ : ∃ s, s = m.length := ⟨_, rfl⟩
  rw [← hr] at hl HX1 k1 hN
  rw [← hs] at hm HX2 k2 hN
  have HR := Lib.hid hr
  have HSn := Lib.hid hs
  have HW := Lib.hid hW
  clear hY hS hT x1 x2 hr hs hW
  refine callsIn_of_wp Try.func58 rfl hE ?_ hro
  simp only [Try.ntmps58, List.size_toArray, List.length_cons, List.length_nil, Nat.reduceAdd, Nat.reduceSub, Array.replicate_succ, Array.replicate_zero, List.push_toArray, List.append_toArray, List.nil_append, List.cons_append]
  have hmn : min (r : Int) (s : Int) = (N : Int) := by omega
  gi_wp2
  clear k1 k2
  gi_loopw [10] (fun i wr => ∃ k : Nat, k ≤ N ∧ i = .int .i64 k ∧ J (up l m k) wr ∧ Below w.heap.size w wr) (fun i _ => N - (intOf i).toNat)
  case atStart => exact ⟨0, Nat.zero_le _, rfl, h0, HW.out⟩
  case round =>
    obtain ⟨j, hj, rfl, hJ, hbel⟩ := hrel
    have HJ := Lib.hid hJ
    have HBl := Lib.hid hbel
    by_cases hjn : j < N
    · obtain ⟨p1, q1, hix1, hc1, _⟩ := HS.out.at j (by rw [← HR.out]; omega)
      obtain ⟨p2, q2, hix2, hc2, _⟩ := HT.out.at v0 j (by rw [← HSn.out]; omega)
      have hsucc := up_succ l m j
      have hlen := up_length l m j
      obtain ⟨⟨fs, fk⟩, hf⟩ : ∃ f, f = l.getD j d0 := ⟨_, rfl⟩
      obtain ⟨⟨vk, vn, vs⟩, hv⟩ : ∃ f, f = m.getD j v0 := ⟨_, rfl⟩
      rw [← hf] at hc1 hsucc
      rw [← hv] at hc2 hsucc
      obtain ⟨W2, hW2⟩ : ∃ W2, W2 = wr.drew := ⟨_, rfl⟩
      have hb2 : Below w.heap.size w W2 := by rw [hW2]; exact hbel.drew
      have hJ2 : J (up l m j) W2 := by rw [hW2]; exact hJa _ wr wr.drew none hJ ⟨rfl, rfl, rfl, Nat.le_refl _, fun _ _ _ => rfl⟩ (fun r e => by cases e)
      obtain ⟨c0, c1⟩ := hc1 W2 hb2
      obtain ⟨e0, e1, e2⟩ := hc2 W2 hb2
      simp only at c0 c1 e0 e1 e2
      have hi1 := fun W => hix1 W r c (by omega)
      have hi2 := fun W => hix2 W s d (by omega)
      have k1 := (hb2.cell (p := ⟨b1, 0, none⟩) (World.block_lt_of_cell? w _ HX1.out)).trans HX1.out
      have k2 := (hb2.cell (p := ⟨b2, 0, none⟩) (World.block_lt_of_cell? w _ HX2.out)).trans HX2.out
      obtain ⟨fn, tmps, assign, body, hy, hR⟩ := HY.out (up l m j) (⟨fs, fk⟩, ⟨vk, vn, vs⟩) W2 hJ2 (by rw [hlen]; exact hjn)
      have HSu := Lib.hid hsucc
      have HRd := Lib.hid hR
      simp only [encs] at hy
      have HB2 := Lib.hid hb2
      have HW2 := Lib.hid hW2
      clear hc1 hc2 hix1 hix2 hf hv hJ hbel hsucc hlen hR hb2 hW2 hJ2
      gi_wp2
      refine wpIn_region_any (by kernel_rfl) ?_
      change wpAnyIn _ _ _ _ _ _ _ _ _ wr.drew
      rw [← HW2.out]
      refine cut (P := ?T) ?tree ?leaf
      case tree =>
        intro leaf
        refine RegR.rd_take 0 (.func (.yield lo) #[] #[]) hro rfl (by kernel_rfl) (by repeat (first | exact Reg.frameless_bodyPost | refine Reg.frameless_then ?_ | refine Reg.frameless_inBlock ?_)) rfl (fun W => by go_simp) (fun _ => rfl) ?_
        simp only [Act.put, List.setIfInBounds_toArray, List.set_cons_zero, List.set_cons_succ]
        refine RegR.rd_take 2 (.int .i64 (j : Int)) hro rfl (by kernel_rfl) (by repeat (first | exact Reg.frameless_bodyPost | refine Reg.frameless_then ?_ | refine Reg.frameless_inBlock ?_)) rfl (fun W => by go_simp) (fun _ => rfl) ?_
        simp only [Act.put, List.setIfInBounds_toArray, List.set_cons_zero, List.set_cons_succ]
        refine RegR.rd_take 6 (.int .i64 (j : Int)) hro rfl (by kernel_rfl) (by repeat (first | exact Reg.frameless_bodyPost | refine Reg.frameless_then ?_ | refine Reg.frameless_inBlock ?_)) rfl (fun W => by go_simp) (fun _ => rfl) ?_
        simp only [Act.put, List.setIfInBounds_toArray, List.set_cons_zero, List.set_cons_succ]
        refine RegR.rd_two 1 5 (v := .slice A r c) (v' := .slice B s d) (by kernel_rfl) ⟨_, rfl, rfl, rfl, (fun _ h => by cases h), by rw [hro, Oper.semAt_none]; go_simp⟩ ⟨_, rfl, rfl, rfl, (fun _ h => by cases h), by rw [hro, Oper.semAt_none]; go_simp⟩ ?_ ?_
        · simp only [Act.put, List.setIfInBounds_toArray, List.set_cons_zero, List.set_cons_succ]
          refine RegR.rd_take 3 (.pointer (some ⟨p1, q1, none⟩)) hro rfl (by kernel_rfl) (by repeat (first | exact Reg.frameless_bodyPost | refine Reg.frameless_then ?_ | refine Reg.frameless_inBlock ?_)) rfl (fun W => by go_simp) (fun _ => rfl) ?_
          simp only [Act.put, List.setIfInBounds_toArray, List.set_cons_zero, List.set_cons_succ]
          refine RegR.rd_two 4 5 (v := .agg #[.string fs, .int .i64 fk]) (v' := .slice B s d) (by kernel_rfl) ⟨_, rfl, rfl, rfl, (fun _ h => by cases h), by rw [hro, Oper.semAt_none]; go_simp⟩ ⟨_, rfl, rfl, rfl, (fun _ h => by cases h), by rw [hro, Oper.semAt_none]; go_simp⟩ ?_ ?_
          · simp only [Act.put, List.setIfInBounds_toArray, List.set_cons_zero, List.set_cons_succ]
            refine RegR.rd_one 5 (v := .slice B s d) (by kernel_rfl) ⟨_, rfl, rfl, rfl, (fun _ h => by cases h), by rw [hro, Oper.semAt_none]; go_simp⟩ ?_
            simp only [Act.put, List.setIfInBounds_toArray, List.set_cons_zero, List.set_cons_succ]
            refine RegR.rd_take 7 (.pointer (some ⟨p2, q2, none⟩)) hro rfl (by kernel_rfl) (by repeat (first | exact Reg.frameless_bodyPost | refine Reg.frameless_then ?_ | refine Reg.frameless_inBlock ?_)) rfl (fun W => by go_simp) (fun _ => rfl) ?_
            simp only [Act.put, List.setIfInBounds_toArray, List.set_cons_zero, List.set_cons_succ]
            refine RegR.rd_one 8 (v := .agg #[.int .i64 vk, .int .i64 vn, .string vs]) (by kernel_rfl) ⟨_, rfl, rfl, rfl, (fun _ h => by cases h), by rw [hro, Oper.semAt_none]; go_simp⟩ ?_
            simp only [Act.put, List.setIfInBounds_toArray, List.set_cons_zero, List.set_cons_succ]
            exact leaf
          · simp only [Act.put, List.setIfInBounds_toArray, List.set_cons_zero, List.set_cons_succ]
            refine RegR.rd_take 7 (.pointer (some ⟨p2, q2, none⟩)) hro rfl (by kernel_rfl) (by repeat (first | exact Reg.frameless_bodyPost | refine Reg.frameless_then ?_ | refine Reg.frameless_inBlock ?_)) rfl (fun W => by go_simp) (fun _ => rfl) ?_
            simp only [Act.put, List.setIfInBounds_toArray, List.set_cons_zero, List.set_cons_succ]
            refine RegR.rd_two 4 8 (v := .agg #[.string fs, .int .i64 fk]) (v' := .agg #[.int .i64 vk, .int .i64 vn, .string vs]) (by kernel_rfl) ⟨_, rfl, rfl, rfl, (fun _ h => by cases h), by rw [hro, Oper.semAt_none]; go_simp⟩ ⟨_, rfl, rfl, rfl, (fun _ h => by cases h), by rw [hro, Oper.semAt_none]; go_simp⟩ ?_ ?_
            · simp only [Act.put, List.setIfInBounds_toArray, List.set_cons_zero, List.set_cons_succ]
              refine RegR.rd_one 8 (v := .agg #[.int .i64 vk, .int .i64 vn, .string vs]) (by kernel_rfl) ⟨_, rfl, rfl, rfl, (fun _ h => by cases h), by rw [hro, Oper.semAt_none]; go_simp⟩ ?_
              simp only [Act.put, List.setIfInBounds_toArray, List.set_cons_zero, List.set_cons_succ]
              exact leaf
            · simp only [Act.put, List.setIfInBounds_toArray, List.set_cons_zero, List.set_cons_succ]
              refine RegR.rd_one 4 (v := .agg #[.string fs, .int .i64 fk]) (by kernel_rfl) ⟨_, rfl, rfl, rfl, (fun _ h => by cases h), by rw [hro, Oper.semAt_none]; go_simp⟩ ?_
              simp only [Act.put, List.setIfInBounds_toArray, List.set_cons_zero, List.set_cons_succ]
              exact leaf
        · simp only [Act.put, List.setIfInBounds_toArray, List.set_cons_zero, List.set_cons_succ]
          refine RegR.rd_take 7 (.pointer (some ⟨p2, q2, none⟩)) hro rfl (by kernel_rfl) (by repeat (first | exact Reg.frameless_bodyPost | refine Reg.frameless_then ?_ | refine Reg.frameless_inBlock ?_)) rfl (fun W => by go_simp) (fun _ => rfl) ?_
          simp only [Act.put, List.setIfInBounds_toArray, List.set_cons_zero, List.set_cons_succ]
          refine RegR.rd_two 1 8 (v := .slice A r c) (v' := .agg #[.int .i64 vk, .int .i64 vn, .string vs]) (by kernel_rfl) ⟨_, rfl, rfl, rfl, (fun _ h => by cases h), by rw [hro, Oper.semAt_none]; go_simp⟩ ⟨_, rfl, rfl, rfl, (fun _ h => by cases h), by rw [hro, Oper.semAt_none]; go_simp⟩ ?_ ?_
          · simp only [Act.put, List.setIfInBounds_toArray, List.set_cons_zero, List.set_cons_succ]
            refine RegR.rd_take 3 (.pointer (some ⟨p1, q1, none⟩)) hro rfl (by kernel_rfl) (by repeat (first | exact Reg.frameless_bodyPost | refine Reg.frameless_then ?_ | refine Reg.frameless_inBlock ?_)) rfl (fun W => by go_simp) (fun _ => rfl) ?_
            simp only [Act.put, List.setIfInBounds_toArray, List.set_cons_zero, List.set_cons_succ]
            refine RegR.rd_two 4 8 (v := .agg #[.string fs, .int .i64 fk]) (v' := .agg #[.int .i64 vk, .int .i64 vn, .string vs]) (by kernel_rfl) ⟨_, rfl, rfl, rfl, (fun _ h => by cases h), by rw [hro, Oper.semAt_none]; go_simp⟩ ⟨_, rfl, rfl, rfl, (fun _ h => by cases h), by rw [hro, Oper.semAt_none]; go_simp⟩ ?_ ?_
            · simp only [Act.put, List.setIfInBounds_toArray, List.set_cons_zero, List.set_cons_succ]
              refine RegR.rd_one 8 (v := .agg #[.int .i64 vk, .int .i64 vn, .string vs]) (by kernel_rfl) ⟨_, rfl, rfl, rfl, (fun _ h => by cases h), by rw [hro, Oper.semAt_none]; go_simp⟩ ?_
              simp only [Act.put, List.setIfInBounds_toArray, List.set_cons_zero, List.set_cons_succ]
              exact leaf
            · simp only [Act.put, List.setIfInBounds_toArray, List.set_cons_zero, List.set_cons_succ]
              refine RegR.rd_one 4 (v := .agg #[.string fs, .int .i64 fk]) (by kernel_rfl) ⟨_, rfl, rfl, rfl, (fun _ h => by cases h), by rw [hro, Oper.semAt_none]; go_simp⟩ ?_
              simp only [Act.put, List.setIfInBounds_toArray, List.set_cons_zero, List.set_cons_succ]
              exact leaf
          · simp only [Act.put, List.setIfInBounds_toArray, List.set_cons_zero, List.set_cons_succ]
            refine RegR.rd_one 1 (v := .slice A r c) (by kernel_rfl) ⟨_, rfl, rfl, rfl, (fun _ h => by cases h), by rw [hro, Oper.semAt_none]; go_simp⟩ ?_
            simp only [Act.put, List.setIfInBounds_toArray, List.set_cons_zero, List.set_cons_succ]
            refine RegR.rd_take 3 (.pointer (some ⟨p1, q1, none⟩)) hro rfl (by kernel_rfl) (by repeat (first | exact Reg.frameless_bodyPost | refine Reg.frameless_then ?_ | refine Reg.frameless_inBlock ?_)) rfl (fun W => by go_simp) (fun _ => rfl) ?_
            simp only [Act.put, List.setIfInBounds_toArray, List.set_cons_zero, List.set_cons_succ]
            refine RegR.rd_one 4 (v := .agg #[.string fs, .int .i64 fk]) (by kernel_rfl) ⟨_, rfl, rfl, rfl, (fun _ h => by cases h), by rw [hro, Oper.semAt_none]; go_simp⟩ ?_
            simp only [Act.put, List.setIfInBounds_toArray, List.set_cons_zero, List.set_cons_succ]
            exact leaf
      case leaf =>
        refine wpAnyIn_all (rs := [9]) (by kernel_rfl) (by simp) (fun x hx => ?_)
        obtain rfl : x = 9 := by simpa using hx
        refine wpOpIn_step rfl (fun K' hK => ?_)
        rw [if_pos (by rfl)]
        unfold Oper.wpIn
        rw [hro, Oper.semAt_none]
        refine ⟨fun f hf => ?_, ?_⟩
        · simp [Oper.about, go_sem] at hf
        · go_simp
          refine HRd.out.mono ?_
          rintro e W3 (⟨rfl, hJ3, hk3⟩ | ⟨rfl, hJx3⟩)
          · refine hK _ _ ?_
            clear hK
            refine RegR.rd_one 10 (v := .bool false) (by kernel_rfl) ⟨_, rfl, rfl, rfl, (fun _ h => by cases h), by rw [hro, Oper.semAt_none]; go_simp⟩ ?_
            simp only [Act.put, List.setIfInBounds_toArray, List.set_cons_zero, List.set_cons_succ]
            refine wpAnyIn_done (by kernel_rfl) ?_ _
            clear k1 k2 c0 c1 e0 e1 e2 hi1 hi2 hy hmn h0
            gi_wp2
            go_roundw
            case rel => exact ⟨j + 1, by omega, by simp, by rw [HSu.out]; exact hJ3, HB2.out.trans hk3⟩
            case measure => simp [intOf]; omega
          · refine hK _ _ ?_
            clear hK
            refine RegR.rd_one 10 (v := .bool true) (by kernel_rfl) ⟨_, rfl, rfl, rfl, (fun _ h => by cases h), by rw [hro, Oper.semAt_none]; go_simp⟩ ?_
            simp only [Act.put, List.setIfInBounds_toArray, List.set_cons_zero, List.set_cons_succ]
            refine wpAnyIn_done (by kernel_rfl) ?_ _
            clear k1 k2 c0 c1 e0 e1 e2 hi1 hi2 hy hmn h0
            gi_wp2
            refine bodyPost_ret (results_none rfl _ _ _) rfl ?_
            exact ⟨⟨_, rfl⟩, .inr ⟨_, ⟨j + 1, by omega, HSu.out.symm⟩, hJx3⟩⟩
    · obtain rfl : j = N := by omega
      gi_wp2
      go_end0
      exact ⟨⟨_, rfl⟩, .inl ⟨_, rfl, HJ.out⟩⟩

set_option maxHeartbeats 1000000 in
/-- paired itself: both slices are boxed; the function value holds the boxes. -/
theorem paired_in (E : Fence) (n : Nat) (hE : E.fn 54) (hro : E.round = none) (A : Option Addr) (r c : Nat) (B : Option Addr) (s d : Nat) (w : World) :
    CallsIn E n Try.prog 54 #[.slice A r c, .slice B s d] w fun e w' => e = .returned (.func (.func 58) #[] #[.pointer (some ⟨w.heap.size, 0, none⟩), .pointer (some ⟨w.heap.size + 1, 0, none⟩)]) ∧
      w' = (w.alloc (.cells #[.slice A r c] 22)).alloc (.cells #[.slice B s d] 25) := by
  refine callsIn_of_wp Try.func54 rfl hE ?_ hro
  simp only [Try.ntmps54, List.size_toArray, List.length_cons, List.length_nil, Nat.reduceAdd, Nat.reduceSub, Array.replicate_succ, Array.replicate_zero, List.push_toArray, List.append_toArray, List.nil_append, List.cons_append]
  gi_wp2
  go_ret
  exact ⟨by simp, rfl⟩

/-- What paired hands back goes through the pairs, and keeps what was there. -/
theorem paired_stops (E : Fence) (n : Nat) (hE : E.fn 58) (hro : E.round = none) (hn : 1 ≤ n) (b1 b2 : Nat) (A : Option Addr) (l : List ScM.F) (c : Nat) (B : Option Addr) (m : List V) (d : Nat) (w : World)
    (hS : SlF w A l c) (hT : SlV w B m d) (x1 : w.cell? ⟨b1, 0, none⟩ = some (.slice A l.length c)) (x2 : w.cell? ⟨b2, 0, none⟩ = some (.slice B m.length d)) :
    SeqStopsK E n Try.prog 58 #[.pointer (some ⟨b1, 0, none⟩), .pointer (some ⟨b2, 0, none⟩)] encs (Below w.heap.size) (fun ys => ys = up l m (min l.length m.length))
      (fun pre => ∃ k, k ≤ min l.length m.length ∧ pre = up l m k) (min l.length m.length) w := fun lo J Jx W hW hJa _ hY h0 =>
  paired1_in E n hE hro hn lo b1 b2 A l c B m d w hS hT x1 x2 J Jx _ hJa _ rfl hY W hW h0

/-- Is each value of its field's kind, as long as there are both? -/
def Kinds (l : List ScM.F) (m : List V) : Prop := ∀ i, i < min l.length m.length → (l.getD i d0).k = (m.getD i v0).k
instance (l : List ScM.F) (m : List V) : Decidable (Kinds l m) := by unfold Kinds; infer_instance

set_option maxRecDepth 100000 in
set_option maxHeartbeats 4000000 in
theorem ofKinds_any (A : Option Addr) (l : List ScM.F) (c : Nat) (B : Option Addr) (m : List V) (d : Nat) (w : World) (hS : SlF w A l c) (hT : SlV w B m d) :
    Calls Try.prog 40 #[.slice A l.length c, .slice B m.length d] w fun e w' => e = .returned (.bool (decide (Kinds l m))) ∧ Below w.heap.size w w' := by
  refine (callsIn_wide (n := 6)).1 ?_
  have bR := ((Boxed.new w 4 (.bool false)).alloc (.cells #[.slice A l.length c] 22)).alloc (.cells #[.slice B m.length d] 25)
  have bF := (Boxed.new (w.alloc (.cells #[.bool false] 4)) 22 (.slice A l.length c)).alloc (.cells #[.slice B m.length d] 25)
  have bV := Boxed.new ((w.alloc (.cells #[.bool false] 4)).alloc (.cells #[.slice A l.length c] 22)) 25 (.slice B m.length d)
  simp only [World.size_alloc] at bF bV
  have hB0 : Below w.heap.size w (((w.alloc (.cells #[.bool false] 4)).alloc (.cells #[.slice A l.length c] 22)).alloc (.cells #[.slice B m.length d] 25)) := (((Below.refl _ w).alloc (Nat.le_refl _) _).alloc (by simp) _).alloc (by simp; omega) _
  have hsz : (((w.alloc (.cells #[.bool false] 4)).alloc (.cells #[.slice A l.length c] 22)).alloc (.cells #[.slice B m.length d] 25)).heap.size = w.heap.size + 3 := by simp
  have HbR := Lib.hid bR
  have HbF := Lib.hid bF
  have HbV := Lib.hid bV
  have HB0 := Lib.hid hB0
  have Hsz := Lib.hid hsz
  clear bR bF bV hB0 hsz
  refine callsIn_of_wp_marks Try.func40 rfl trivial ?_ rfl
  simp only [Try.ntmps40, List.size_toArray, List.length_cons, List.length_nil, Nat.reduceAdd, Nat.reduceSub, Array.replicate_succ, Array.replicate_zero, List.push_toArray, List.append_toArray, List.nil_append, List.cons_append]
  gi_wp2_with (refine ⟨trivial, ?_⟩; gi_at_call 54; refine (paired_in Fence.wide _ trivial rfl _ _ _ _ _ _ _).mono ?_; rintro e w' ⟨rfl, rfl⟩)
  obtain ⟨W0, hW0⟩ : ∃ W0, ((w.alloc (.cells #[.bool false] 4)).alloc (.cells #[.slice A l.length c] 22)).alloc (.cells #[.slice B m.length d] 25) = W0 := ⟨_, rfl⟩
  have bR := HbR.out
  have bF := HbF.out
  have bV := HbV.out
  have hB0 := HB0.out
  have hsz := Hsz.out
  rw [hW0] at bR bF bV hB0 hsz ⊢
  clear hW0 HbR HbF HbV HB0 Hsz
  refine wpIn_rangeFunc_ownH rfl (by omega) (gf := 58) (lb := #[.pointer (some ⟨w.heap.size + 1, 0, none⟩), .pointer (some ⟨w.heap.size + 1 + 1, 0, none⟩)]) rfl trivial (enters_of Try.func58 (by kernel_rfl) rfl)
    (paired_stops Fence.wide _ trivial rfl (by omega) (w.heap.size + 1) (w.heap.size + 1 + 1) A l c B m d W0 (hS.kept hB0) (hT.kept hB0) bF.cell bV.cell) belowK_t (belowK_b (Nat.le_refl _)) (Below.refl _ _) (fun _ => rfl)
    (fun pre W => (Boxed W w.heap.size 4 (.bool false) ∧ (∀ x ∈ pre, x.1.k = x.2.k)) ∧ Below W0.heap.size W0 W)
    (fun c pre W => ((c = .ret ∧ ∃ x ∈ pre, x.1.k ≠ x.2.k) ∧ Boxed W w.heap.size 4 (.bool false)) ∧ Below w.heap.size w W)
    (OwnFrom.and (OwnFrom.and (Own.from (boxed_own _ _ _) _) (ownFrom_pure _ _)) (ownFrom_below (Nat.le_refl _) (Nat.le_refl _)))
    (fun c => OwnFrom.and (OwnFrom.and (ownFrom_pure _ _) (Own.from (boxed_own _ _ _) _)) (ownFrom_below (Nat.le_refl _) hB0.size))
    ⟨⟨bR, fun x hx => by cases hx⟩, Below.refl _ _⟩
    (fun x a' W => ∃ bf bv, W.cell? ⟨bf, 1, none⟩ = some (.int .i64 x.1.k) ∧ W.cell? ⟨bv, 0, none⟩ = some (.int .i64 x.2.k) ∧ a' = { tmps := #[.slice A l.length c, .slice B m.length d, undef, undef, .pointer (some ⟨w.heap.size, 0, none⟩), .pointer (some ⟨bf, 0, none⟩), .pointer (some ⟨bv, 0, none⟩), .slice A l.length c, .slice B m.length d, .func (.func 58) #[] #[.pointer (some ⟨w.heap.size + 1, 0, none⟩), .pointer (some ⟨w.heap.size + 1 + 1, 0, none⟩)], .agg #[.string x.1.s, .int .i64 x.1.k], .agg #[.int .i64 x.2.k, .int .i64 x.2.n, .string x.2.s], undef, undef, undef, undef, undef], defers := [] })
    (fun x a' _ X Y row hs hg hr => by obtain ⟨bf, bv, h1, h2, h3⟩ := hs; exact ⟨bf, bv, cell_kept h1 hg (fun r e => (hr r e).2), cell_kept h2 hg (fun r e => (hr r e).2), h3⟩)
    ?assign ?body ?done ?stop
  case assign =>
    rintro lo pre ⟨⟨fs, fk⟩, ⟨vk, vn, vs⟩⟩ W K ⟨⟨bR1, hp⟩, hB1⟩ hK
    simp only [encs]
    gi_wp2
    have hz := hB1.size
    have ha := (Below.refl (W.alloc (.cells #[.string fs, .int .i64 fk] 42)).heap.size (W.alloc (.cells #[.string fs, .int .i64 fk] 42))).alloc (Nat.le_refl _) (.cells #[.int .i64 vk, .int .i64 vn, .string vs] 44)
    obtain ⟨⟨_, y1⟩, _⟩ := (bx2_new W 42 (.string fs) (.int .i64 fk)).kept ha
    obtain ⟨⟨z0, _, _⟩, _⟩ := bx_new_t (W.alloc (.cells #[.string fs, .int .i64 fk] 42)) 44 (.int .i64 vk) (.int .i64 vn) (.string vs)
    rw [show (W.alloc (.cells #[.string fs, .int .i64 fk] 42)).heap.size = W.heap.size + 1 from by simp] at z0
    exact hK _ _ (((KeepsOthers.alloc _ _).trans (KeepsOthers.alloc _ _)).from _) (((Below.refl _ W).alloc hz _).alloc (by simp; omega) _) ⟨⟨(bR1.alloc _).alloc _, hp⟩, (hB1.alloc hz _).alloc (by simp; omega) _⟩
      ⟨W.heap.size, W.heap.size + 1, y1, z0, rfl⟩
  case body =>
    rintro lo pre ⟨⟨fs, fk⟩, ⟨vk, vn, vs⟩⟩ a' W hl ⟨r, hr⟩ ⟨⟨bR1, hp⟩, hB1⟩ ⟨bf, bv, c1, c0, rfl⟩ hlt
    simp only at c1 c0
    have cR := bR1.cell
    have fR := bR1.frozen
    by_cases he : vk = fk
    · subst he
      gi_wp2
      refine ⟨KeepsFrom.refl _ _, Below.refl _ _, ⟨bR1, fun x hx => ?_⟩, hB1⟩
      rcases List.mem_append.1 hx with hx | hx
      · exact hp x hx
      · simp only [List.mem_singleton] at hx
        rw [hx]
    · gi_wp2
      refine ⟨(KeepsOthers.setCell _ _ _).from _, ⟨⟨rfl, _, List.mem_append.2 (.inr (List.mem_singleton.2 rfl)), fun h => he h.symm⟩, bR1.set _⟩, (hB0.trans (hB1.mono hB0.size)).setCell (p := ⟨w.heap.size, 0, none⟩) (Nat.le_refl _) _⟩
  case done =>
    rintro D ys W hD rfl ⟨⟨bR1, hp⟩, hB1⟩ hK
    have cR := bR1.cell
    have fR := bR1.frozen
    have hyes : Kinds l m := fun i hi => hp (l.getD i d0, m.getD i v0) (up_mem.2 ⟨i, hi, rfl⟩)
    have HYes := Lib.hid hyes
    clear hyes
    gi_wp2
    have hK' := (KeepsOthers.setCell W ⟨w.heap.size, 0, none⟩ (.bool true)).same D _ hK rfl
    refine ⟨by simp, .inl ⟨_, _, rfl, run_takeDeferred hK', ?_⟩⟩
    have hc5 := cell_kept (World.cell?_setCell_same' W ⟨w.heap.size, 0, none⟩ (.bool true) (by rw [cR]; rfl)) (grownBy_putObj' _ D (.deferred none)) (fun r e => by cases e; exact ⟨_, hK', rfl⟩)
    refine ⟨.bool true, ?_, by rw [decide_eq_true HYes.out], ((hB0.trans (hB1.mono hB0.size)).setCell (p := ⟨w.heap.size, 0, none⟩) (Nat.le_refl _) _).trans (belowK_b (w := w) (Nat.le_refl _) _ D _ _ (by omega) hK' rfl rfl)⟩
    simp [results, Try.f40, go_sem, hc5]
  case stop =>
    rintro D c' pre W hD ⟨k, hk, rfl⟩ ⟨⟨⟨rfl, x, hx, hne⟩, bR1⟩, hB1⟩ hK
    have cR := bR1.cell
    have hno : ¬ Kinds l m := fun h => by
      obtain ⟨j, hj, rfl⟩ := up_mem.1 hx
      exact hne (h j (by omega))
    have HNo := Lib.hid hno
    clear hno hx hne
    gi_wp2
    refine ⟨by simp, .inl ⟨_, _, rfl, run_takeDeferred hK, ?_⟩⟩
    have hc5 := cell_kept cR (grownBy_putObj' _ D (.deferred none)) (fun r e => by cases e; exact ⟨_, hK, rfl⟩)
    refine ⟨.bool false, ?_, by rw [decide_eq_false HNo.out], hB1.trans (belowK_b (w := w) (Nat.le_refl _) W D _ _ (by omega) hK rfl rfl)⟩
    simp [results, Try.f40, go_sem, hc5]
end Go.Proofs.Ytbakhodijhacoaa.Ev
