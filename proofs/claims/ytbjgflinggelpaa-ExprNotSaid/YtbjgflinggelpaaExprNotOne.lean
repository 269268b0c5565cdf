/- ExprNot: for every input the law returns true, and each argument reads afterwards as it read before. No condition.
  The walk is the theorem Go.Proofs.Ytbjgflinggelpaa.Ex.not_walk. -/
import Derived.Test.YtbjgflinggelpaaEventMath
import Derived.Test.YtbjgflinggelpaaValueRow
import Derived.Test.YtbjgflinggelpaaBx
import Derived.Test.YtbjgflinggelpaaStrCore
import Derived.Test.YtbjgflinggelpaaRows
import Derived.Test.YtbjgflinggelpaaChA
import Derived.Lib.SmallJoins
import Derived.Deep.Slices
import Derived.ShutString
import Derived.OpenShut
import Derived.Test.YtbjgflinggelpaaChB
import Derived.BigQuiet
import Derived.Test.YtbjgflinggelpaaValueHeld
import Derived.Test.YtbjgflinggelpaaExprMath
import Derived.Test.YtbjgflinggelpaaOpRow
import Derived.Test.YtbjgflinggelpaaRegAppend
import Derived.WalkKit
import Derived.ProofKit
import Derived.ChangeOld
import Derived.Below

namespace Go.Proofs.Ytbjgflinggelpaa.Ev
open Go.RowKit Go.Proofs.Ytbjgflinggelpaa.BM Go.Proofs.Ytbjgflinggelpaa.EvM
open Go.Proofs.Ytbjgflinggelpaa.VaM (V)
open Go.Proofs.Ytbjgflinggelpaa.Va (SlV slV_len bx_new_t Bx ret_v)

/-- An event of few values. -/
def Few (e : Ev) : Prop := e.s.size ≤ 60 ∧ e.v.length ≤ 10 ∧ ∀ i, i < e.v.length → (e.v.getD i v0).s.size ≤ 100
instance (e : Ev) : Decidable (Few e) := by unfold Few; infer_instance

set_option maxRecDepth 100000 in
set_option maxHeartbeats 1000000 in
theorem Few_any (e : Ev) (A : Option Addr) (c : Nat) (w : World) (hS : SlV w A e.v c) (hz : e.s.size ≤ maxLen) :
    Calls Try.prog 13 #[.agg #[.string e.s, .int .i64 e.t, .slice A e.v.length c]] w fun r w' => r = .returned (.bool (decide (Few e))) ∧ Below w.heap.size w w' := by
  obtain ⟨nm, v, l⟩ := e
  simp only at hS hz ⊢
  unfold maxLen at hz
  have hl := slV_len hS
  have hfew : Few ⟨nm, v, l⟩ ↔ nm.size ≤ 60 ∧ l.length ≤ 10 ∧ ∀ i, i < l.length → (l.getD i v0).s.size ≤ 100 := Iff.rfl
  obtain ⟨n, hn⟩ : ∃ n, n = l.length := ⟨_, rfl⟩
  rw [← hn] at hl hfew ⊢
  have HLen := Lib.hid hn
  have HS := Lib.hid hS
  have HFew := Lib.hid hfew
  have HX0 := Lib.hid (bx_new_t w 27 (.string nm) (.int .i64 v) (.slice A n c))
  have HB0 := Lib.hid ((Below.refl w.heap.size w).alloc (Nat.le_refl _) (.cells #[.string nm, .int .i64 v, .slice A n c] 27))
  clear hn hS hfew
  obtain ⟨⟨p0, p1, p2⟩, _⟩ := HX0.out
  by_cases m1 : nm.size ≤ 60
  · have hd1 : decide ((60 : Int) < (nm.size : Int)) = false := by rw [decide_eq_false_iff_not]; omega
    by_cases m2 : n ≤ 10
    · have hd2 : decide ((10 : Int) < (n : Int)) = false := by rw [decide_eq_false_iff_not]; omega
      have HF := Lib.hid (show Few ⟨nm, v, l⟩ ↔ ∀ i, i < n → (l.getD i v0).s.size ≤ 100 from ⟨fun h => (HFew.out.1 h).2.2, fun h => HFew.out.2 ⟨m1, m2, h⟩⟩)
      clear m1 HFew
      go_enter Try.func13, Try.ntmps13
      go_wp2_with fail
      obtain ⟨w1, hw1⟩ : ∃ w1, w1 = w.alloc (.cells #[.string nm, .int .i64 v, .slice A n c] 27) := ⟨_, rfl⟩
      rw [← hw1] at HX0 HB0 ⊢
      clear hw1 p0 p1 p2
      go_loopw [3] (fun i wr => ∃ j : Nat, i = .int .i64 j ∧ j ≤ n ∧ (∀ r, r < j → (l.getD r v0).s.size ≤ 100) ∧ wr = w1) (fun i _ => n - (intOf i).toNat)
      case atStart => exact ⟨0, rfl, Nat.zero_le _, fun r hr => absurd hr (Nat.not_lt_zero r), rfl⟩
      case round =>
        obtain ⟨j, rfl, hj, hall, rfl⟩ := hrel
        have HAl := Lib.hid hall
        obtain ⟨⟨_, _, p2⟩, _⟩ := HX0.out
        clear hall
        by_cases hjn : j < n
        · obtain ⟨b, q, hix, hc, hsz, _⟩ := HS.out.at v0 j (by rw [← HLen.out]; exact hjn)
          obtain ⟨⟨fk, fn, fs⟩, hf⟩ : ∃ f, f = l.getD j v0 := ⟨_, rfl⟩
          rw [← hf] at hc hsz
          obtain ⟨_, _, c0⟩ := hc wr HB0.out
          simp only at c0 hsz
          unfold maxLen at hsz
          have hi := fun W => hix W n c hjn
          have HFl := Lib.hid hf
          clear hc hix hf
          by_cases h60 : fs.size ≤ 100
          · have hd3 : decide ((100 : Int) < (fs.size : Int)) = false := by rw [decide_eq_false_iff_not]; omega
            have HY := Lib.hid h60
            clear h60
            go_wp2_with fail
            go_roundw
            case rel =>
              refine ⟨j + 1, by go_num, by omega, fun r hr => ?_, by trivial⟩
              by_cases e : r = j
              · rw [e, ← HFl.out]
                exact HY.out
              · exact HAl.out r (by omega)
            case measure => simp [intOf]; omega
          · have hd3 : decide ((100 : Int) < (fs.size : Int)) = true := by rw [decide_eq_true_iff]; omega
            have HNo := Lib.hid (show ¬ Few ⟨nm, v, l⟩ from fun h => h60 (by have := HF.out.1 h j hjn; rw [← HFl.out] at this; exact this))
            clear h60
            go_wp2_with fail
            go_ret
            exact ⟨ret_v (x := .bool false) (by rw [decide_eq_false HNo.out]), HB0.out⟩
        · obtain rfl : j = n := by omega
          have HYes := Lib.hid (HF.out.2 HAl.out)
          go_wp2_with fail
          go_ret
          exact ⟨ret_v (x := .bool true) (by rw [decide_eq_true HYes.out]), HB0.out⟩
    · have hd2 : decide ((10 : Int) < (n : Int)) = true := by rw [decide_eq_true_iff]; omega
      have HNo := Lib.hid (show ¬ Few ⟨nm, v, l⟩ from fun h => m2 (HFew.out.1 h).2.1)
      clear m2 m1
      go_enter Try.func13, Try.ntmps13
      go_wp2_with fail
      go_ret
      exact ⟨ret_v (x := .bool false) (by rw [decide_eq_false HNo.out]), HB0.out⟩
  · have hd1 : decide ((60 : Int) < (nm.size : Int)) = true := by rw [decide_eq_true_iff]; omega
    have HNo := Lib.hid (show ¬ Few ⟨nm, v, l⟩ from fun h => m1 (HFew.out.1 h).1)
    clear m1
    go_enter Try.func13, Try.ntmps13
    go_wp2_with fail
    go_ret
    exact ⟨ret_v (x := .bool false) (by rw [decide_eq_false HNo.out]), HB0.out⟩
end Go.Proofs.Ytbjgflinggelpaa.Ev

namespace Go.Proofs.Ytbjgflinggelpaa.Op
open Go.RowKit Go.ChangeShapes Go.WideShapes Go.Proofs.Ytbjgflinggelpaa.Va Go.Proofs.Ytbjgflinggelpaa.VaM Go.Proofs.Ytbjgflinggelpaa.EvM

/-- An event that came in: its values lie where its slice says. -/
def ArgE (W : World) (s : ByteArray) (t : Int) (a : Option Addr) (len cap : Nat) : Prop := ∃ l : List V, l.length = len ∧ SlV W a l cap ∧ Ev.Fine ⟨s, t, l⟩

theorem flat_cells {w : World} {b : Nat} : ∀ (l : List V) (o : Nat), (∀ i, i < l.length → CellV w b (o + i * 3) (l.getD i v0)) → ∀ (j : Nat) (u : Value), (l.flatMap encV)[j]? = some u → w.cell? ⟨b, o + j, none⟩ = some u
  | [], _, _, j, u, h => by simp at h
  | x :: l, o, hc, j, u, h => by
    rw [List.flatMap_cons] at h
    have h0 := hc 0 (by simp)
    rw [Nat.zero_mul, Nat.add_zero, List.getD_cons_zero] at h0
    obtain ⟨c0, c1, c2⟩ := h0
    by_cases hj : j < 3
    · rw [List.getElem?_append_left (by simpa [encV] using hj)] at h
      have hw : j = 0 ∨ j = 1 ∨ j = 2 := by omega
      rcases hw with rfl | rfl | rfl
      · obtain rfl : _ = u := by simpa [encV] using h
        exact c0
      · obtain rfl : _ = u := by simpa [encV] using h
        exact c1
      · obtain rfl : _ = u := by simpa [encV] using h
        exact c2
    · rw [List.getElem?_append_right (by simp only [encV, List.length_cons, List.length_nil]; omega)] at h
      have h2 := flat_cells l (o + 3) (fun i hi => by
        have h3 := hc (i + 1) (by simpa using hi)
        rw [List.getD_cons_succ] at h3
        rw [show o + 3 + i * 3 = o + (i + 1) * 3 from by omega]
        exact h3) (j - 3) u h
      rw [show o + 3 + (j - 3) = o + j from by omega] at h2
      exact h2

theorem elems_flat {w : World} {p : Nat → Prop} : ∀ l : List V, RG.Elems KV p w l (l.flatMap encV)
  | [] => rfl
  | x :: l => ⟨encV x, l.flatMap encV, rfl, rfl, elems_flat l⟩

set_option maxRecDepth 100000 in
theorem open_event {H : Type} {enc : TypeId × Value → H} {W : World} {r : Reach} {b0 : Nat} {v : Value} {d : DataW H} {p : List MemPlace} (hv : Value.okWide Try.prog W r b0 27 v)
    (h : DataW.Trod enc Try.prog W 0 (fun _ => true) true 27 v d p) : ∃ s n a len cap, v = .agg #[.string s, .int .i64 n, .slice a len cap] ∧ ArgE W s n a len cap := by
  obtain ⟨v0, v1, v2, y0, y1, y2, fuel, rfl, _, _, h0, h1, h2⟩ := Joins.open_agg3 Try.underlying27 (by kernel_rfl) (by kernel_rfl) hv h
  obtain ⟨s, hs, _, ws⟩ := DataW.trod_string Try.underlying9 h0
  obtain ⟨n, hn, _, wn⟩ := DataW.trod_int Try.underlying3 h1
  simp only [List.cons.injEq, and_true] at hs hn
  subst hs hn
  have hb := bounds_i64 wn
  rcases Deep.open_slice Try.underlying25 h2 with ⟨hcs, _⟩ | ⟨x, l, c, m, k, D, Pl, hcs, _, hl, hm, hmm, _, hr⟩
  · simp only [List.cons.injEq, and_true] at hcs
    subst hcs
    exact ⟨s, n, none, 0, 0, rfl, [], rfl, slV_none W, ws, by simp only; omega, by simp only; omega⟩
  · simp only [List.cons.injEq, and_true] at hcs
    subst hcs
    simp only [if_true] at hmm
    rw [hmm] at hr
    have each : ∀ i, i < l → ∃ x' : V, (x'.s.size ≤ maxLen ∧ Rng x') ∧ W.cell? (x.add (i * 3)) = some (.int .i64 x'.k) ∧ W.cell? (x.add (i * 3 + 1)) = some (.int .i64 x'.n) ∧ W.cell? (x.add (i * 3 + 2)) = some (.string x'.s) := by
      intro i hi
      obtain ⟨cs', hc, ht⟩ := hr i (by omega)
      rw [show Try.prog.cellsOf 38 = 3 from by kernel_rfl] at hc
      obtain ⟨_, hlen, hcell⟩ := World.cells?_some hc
      match cs', hlen with
      | [v0, v1, v2], _ =>
        obtain ⟨y0, y1, y2, k, _, _, t0, t1, t2⟩ := Deep.trod_struct3 Try.underlying38 ht
        have c1 : Try.prog.cellsOf 3 = 1 := by kernel_rfl
        have c2 : Try.prog.cellsOf 9 = 1 := by kernel_rfl
        simp only [c1] at t0 t1
        simp only [c2] at t2
        obtain ⟨n0, e0', _, _⟩ := DataW.trod_int Try.underlying3 t0
        obtain ⟨n1, e1', _, w1⟩ := DataW.trod_int Try.underlying3 t1
        obtain ⟨s, e2', _, w2⟩ := DataW.trod_string Try.underlying9 t2
        simp only [List.drop_zero, List.drop_succ_cons, List.take_succ_cons, List.take_zero, List.cons.injEq, and_true] at e0' e1' e2'
        subst e0' e1' e2'
        have g0 := hcell 0 (by decide)
        have g1 := hcell 1 (by decide)
        have g2 := hcell 2 (by decide)
        have hb := bounds_i64 w1
        refine ⟨⟨n0, n1, s⟩, ⟨w2, by simp only; omega, by simp only; omega⟩, ?_, ?_, ?_⟩
        · rw [Deep.add_add, Nat.add_zero] at g0
          exact g0
        · rw [Deep.add_add] at g1
          exact g1
        · rw [Deep.add_add] at g2
          exact g2
    let g : Nat → V := fun i => if h : i < l then Classical.choose (each i h) else EvM.v0
    have hg : ∀ i, i < l → ((g i).s.size ≤ maxLen ∧ Rng (g i)) ∧ W.cell? (x.add (i * 3)) = some (.int .i64 (g i).k) ∧ W.cell? (x.add (i * 3 + 1)) = some (.int .i64 (g i).n) ∧ W.cell? (x.add (i * 3 + 2)) = some (.string (g i).s) := by
      intro i hi
      have e : g i = Classical.choose (each i hi) := dif_pos hi
      rw [e]
      exact Classical.choose_spec (each i hi)
    have hgl : ((List.range l).map g).length = l := by simp
    have hgd : ∀ i, i < l → ((List.range l).map g).getD i EvM.v0 = g i := fun i hi => by simp [List.getD_eq_getElem?_getD, hi]
    refine ⟨s, n, some x, l, c, rfl, (List.range l).map g, hgl, ⟨⟨⟨((List.range l).map g).flatMap encV, fun h0 => ?_, elems_flat _⟩, by rw [hgl]; exact hl, (fun e => by cases e), hm⟩, fun f hf => ?_⟩, ws, by simp only; omega, by simp only; omega⟩
    · have hl0 : 0 < l := by
        rcases Nat.eq_zero_or_pos l with e | e
        · subst e
          simp at h0
        · exact e
      obtain ⟨b, o, sp⟩ := x
      have hsp : sp = none := by simpa [Addr.add] using World.cell?_spot (hg 0 hl0).2.1
      subst hsp
      refine ⟨b, o, rfl, flat_cells _ o fun i hi => ?_⟩
      rw [hgl] at hi
      rw [hgd i hi]
      obtain ⟨_, g1, g2, g3⟩ := hg i hi
      rw [Addr.add_lit] at g1 g2 g3
      exact ⟨g1, g2, g3⟩
    · obtain ⟨i, hi, rfl⟩ := List.mem_map.1 hf
      exact (hg i (List.mem_range.1 hi)).1
end Go.Proofs.Ytbjgflinggelpaa.Op

namespace Go.Proofs.Ytbjgflinggelpaa.Ex
open Go.RowKit Go.Proofs.Ytbjgflinggelpaa.BM Go.Proofs.Ytbjgflinggelpaa.LM Go.Proofs.Ytbjgflinggelpaa.VaM Go.Proofs.Ytbjgflinggelpaa.Va Go.Proofs.Ytbjgflinggelpaa.ExM Go.Proofs.Ytbjgflinggelpaa.EvM

/-- One part. -/
theorem slO_one (w : World) (x : O) (hx : Fin x) : SlO (w.alloc (.cells #[.int .i64 x.c, .int .i64 x.a, .int .i64 x.v.k, .int .i64 x.v.n, .string x.v.s] 52)) (some ⟨w.heap.size, 0, none⟩) [x] 1 :=
  slO_new w [x] (fun y hy => by rw [List.mem_singleton.1 hy]; exact hx) (show 1 ≤ maxLen from by unfold maxLen; decide)

def loadO (i : Int) : O := ⟨1, i, v0⟩
theorem load_may {i : Int} (h0 : 0 ≤ i) (h5 : i ≤ 5) : ExM.May [loadO i] := may_of (fun x hx => by
  rw [List.mem_singleton.1 hx]
  exact ⟨(by decide : (0 : Int) ≤ 1), (by decide : (1 : Int) < 10), h0, (by show i < 6; omega), Or.inl rfl, (show VaM.May v0 from by decide), Or.inr rfl⟩) (show 1 ≤ 12 from by decide)
theorem load_fin {i : Int} (h0 : 0 ≤ i) (h5 : i ≤ 5) : Fin (loadO i) := ⟨Nat.zero_le _, ⟨(by decide : (-9223372036854775808 : Int) ≤ 0), (by decide : (0 : Int) ≤ 9223372036854775807)⟩, ⟨(by decide : (-9223372036854775808 : Int) ≤ 1), (by decide : (1 : Int) ≤ 9223372036854775807)⟩, (by show -9223372036854775808 ≤ i; omega), (by show i ≤ 9223372036854775807; omega)⟩

theorem eval_load {e : Ev} {i : Int} (h0 : 0 ≤ i) (h5 : i ≤ 5) : eval e [loadO i] = if EvM.May e then (if i.toNat < e.v.length then (e.v.getD i.toNat v0, 0) else (v0, 3)) else (v0, 1) := by
  unfold eval
  by_cases h : EvM.May e
  · rw [if_neg (fun k => k ⟨load_may h0 h5, h⟩), if_pos h]
    unfold through
    rw [ExM.run]
    have hs : ExM.step e.v false (loadO i) [] = if i.toNat < e.v.length then .ok ([] ++ [e.v.getD i.toNat v0]) else .error 3 := step_load (o := loadO i) rfl
    rw [hs]
    by_cases g : i.toNat < e.v.length
    · rw [if_pos g, if_pos g]
      rfl
    · rw [if_neg g, if_neg g]
      rfl
  · rw [if_pos (fun k => h k.2), if_neg h]

set_option maxRecDepth 100000 in
set_option maxHeartbeats 4000000 in
theorem loads_walk (nm : ByteArray) (t : Int) (A : Option Addr) (len cap : Nat) (i : Int) (W : World) (h0 : Op.ArgE W nm t A len cap) (_h1 : (Lit.int .i64 i).wf = true) :
    Calls Try.prog 9 #[.agg #[.string nm, .int .i64 t, .slice A len cap], .int .i64 i] W fun e w' => e = .returned (.bool true) ∧ Below W.heap.size W w' := by
  obtain ⟨l, hn, hS, hz⟩ := h0
  subst hn
  have hfew := fun w (h : Below W.heap.size W w) => Ev.Few_any ⟨nm, t, l⟩ A cap w (hS.kept h) hz.1
  have hl := slV_len hS
  obtain ⟨n, hn⟩ : ∃ n, n = l.length := ⟨_, rfl⟩
  simp only [← hn] at hfew
  rw [← hn] at hl ⊢
  have HLen := Lib.hid hn
  have HS := Lib.hid hS
  have HZ := Lib.hid hz
  have HFew := Lib.hid hfew
  have HX1 := Lib.hid (bx_new_t W 27 (.string nm) (.int .i64 t) (.slice A n cap))
  have HB1 := Lib.hid ((Below.refl W.heap.size W).alloc (Nat.le_refl _) (.cells #[.string nm, .int .i64 t, .slice A n cap] 27))
  clear hn hS hz hfew
  go_enter Try.func9, Try.ntmps9
  go_wp2_with fail
  obtain ⟨w1, hw1⟩ : ∃ w1, w1 = W.alloc (.cells #[.string nm, .int .i64 t, .slice A n cap] 27) := ⟨_, rfl⟩
  rw [← hw1] at HX1 HB1 ⊢
  clear hw1
  refine (awake_any w1).mono ?_
  rintro e w2 ⟨rfl, hb2⟩
  have HB2 := Lib.hid (bt HB1.out hb2)
  have HX2 := Lib.hid (HX1.out.kept hb2)
  clear hb2 HB1 HX1
  obtain ⟨⟨p0, p1, p2⟩, _⟩ := HX2.out
  obtain ⟨a1, ha1⟩ : ∃ a, a = decide (Ev.Few ⟨nm, t, l⟩) := ⟨_, rfl⟩
  have HF := Lib.hid (HFew.out w2 HB2.out)
  rw [← ha1] at HF
  clear ha1
  go_wp2_with fail
  refine HF.out.mono ?_
  rintro e w3 ⟨rfl, hb3⟩
  have HB3 := Lib.hid (bt HB2.out hb3)
  have HX3 := Lib.hid (HX2.out.kept hb3)
  clear hb3 HB2 HX2 HF p0 p1 p2
  obtain ⟨⟨p0, p1, p2⟩, _⟩ := HX3.out
  obtain ⟨a2, g2⟩ : ∃ a, decide (i < 0) = a := ⟨_, rfl⟩
  obtain ⟨a3, g3⟩ : ∃ a, decide (5 < i) = a := ⟨_, rfl⟩
  have hways : (a1 = false ∨ (a1 = true ∧ a2 = true) ∨ (a1 = true ∧ a2 = false ∧ a3 = true)) ∨ (a1 = true ∧ a2 = false ∧ a3 = false) := by cases a1 <;> cases a2 <;> cases a3 <;> simp
  rcases hways with hbad | ⟨rfl, rfl, rfl⟩
  · rcases hbad with rfl | ⟨rfl, rfl⟩ | ⟨rfl, rfl, rfl⟩
    all_goals
      go_wp2_with fail
      go_ret
      exact ⟨ret_v (x := .bool true) rfl, HB3.out⟩
  · have hi0 : 0 ≤ i := by rw [decide_eq_false_iff_not] at g2; omega
    have hi5 : i ≤ 5 := by rw [decide_eq_false_iff_not] at g3; omega
    have ha4 := (Below.refl w3.heap.size w3).alloc (Nat.le_refl _) (.cells #[.int .i64 1, .int .i64 i, .int .i64 0, .int .i64 0, .string ⟨#[]⟩] 52)
    have HEv := Lib.hid (Eval_any ⟨nm, t, l⟩ [loadO i] A cap (some ⟨w3.heap.size, 0, none⟩) 1 _ (HS.out.kept (bt HB3.out ha4)) HZ.out (slO_one w3 (loadO i) (load_fin hi0 hi5)))
    have HR := Lib.hid (eval_load (e := ⟨nm, t, l⟩) hi0 hi5)
    have HB4 := Lib.hid (bt HB3.out ha4)
    have HX4 := Lib.hid (HX3.out.kept ha4)
    obtain ⟨R, hR⟩ : ∃ R, R = eval ⟨nm, t, l⟩ [loadO i] := ⟨_, rfl⟩
    rw [← hR] at HEv HR
    simp only [← HLen.out] at HEv
    clear hR ha4
    obtain ⟨⟨k, j, s⟩, r⟩ := R
    unfold TwoV at HEv
    simp only at HEv
    go_wp2_with fail
    refine HEv.out.mono ?_
    rintro e w5 ⟨rfl, hb5⟩
    have ha6 := (Below.refl w5.heap.size w5).alloc (Nat.le_refl _) (.cells #[.int .i64 k, .int .i64 j, .string s] 38)
    have HB6 := Lib.hid (bt HB4.out (bt hb5 ha6))
    have HX6 := Lib.hid (HX4.out.kept (bt hb5 ha6))
    obtain ⟨⟨y0, y1, y2⟩, _⟩ := bx_new_t w5 38 (.int .i64 k) (.int .i64 j) (.string s)
    clear p0 p1 p2 hb5 ha6 HEv HX3 HX4
    obtain ⟨⟨p0, p1, p2⟩, _⟩ := HX6.out
    by_cases hm : EvM.May ⟨nm, t, l⟩
    · have hr := HR.out
      rw [if_pos hm] at hr
      by_cases hlt : i.toNat < n
      · rw [if_pos (by rw [← HLen.out]; exact hlt)] at hr
        have HSk := Lib.hid (HS.out.kept HB6.out)
        obtain ⟨b, q, hix, hc, _⟩ := HSk.out.at v0 i.toNat (by rw [← HLen.out]; exact hlt)
        have hi3 := fun W => hix W n cap hlt
        rw [Int.toNat_of_nonneg hi0] at hi3
        obtain ⟨c0, c1, c2⟩ := hc _ (Below.refl _ _)
        simp only [Prod.mk.injEq] at hr
        obtain ⟨hr1, rfl⟩ := hr
        rw [← hr1] at c0 c1 c2
        simp only at c0 c1 c2
        have hge : decide ((n : Int) ≤ i) = false := by rw [decide_eq_false_iff_not]; omega
        have heq := fun W => eql_v k j k j s s W
        have hsm : same (⟨k, j, s⟩ : V) ⟨k, j, s⟩ = true := same_iff.2 rfl
        simp only [hsm] at heq
        clear hr1 hix hc hm hlt HR hsm
        go_wp2_with fail
        go_quiet (fail)
        go_wp2_with fail
        go_ret
        exact ⟨ret_v (x := .bool true) rfl, below_drewN HB6.out _⟩
      · rw [if_neg (by rw [← HLen.out]; exact hlt)] at hr
        have hge : decide ((n : Int) ≤ i) = true := by rw [decide_eq_true_iff]; omega
        simp only [Prod.mk.injEq] at hr
        obtain ⟨hr1, rfl⟩ := hr
        injection hr1 with h1 h2 h3
        have h4 : s = ⟨#[]⟩ := h3
        subst h1 h2 h4
        clear h3
        clear hm hlt HR
        go_wp2_with fail
        go_ret
        exact ⟨ret_v (x := .bool true) rfl, HB6.out⟩
    · have hr := HR.out
      rw [if_neg hm] at hr
      simp only [Prod.mk.injEq] at hr
      obtain ⟨hr1, rfl⟩ := hr
      injection hr1 with h1 h2 h3
      have h4 : s = ⟨#[]⟩ := h3
      subst h1 h2 h4
      clear h3
      clear hm HR
      go_wp2_with fail
      go_ret
      exact ⟨ret_v (x := .bool true) rfl, HB6.out⟩
end Go.Proofs.Ytbjgflinggelpaa.Ex

namespace Go.Proofs.Ytbjgflinggelpaa.Op
open Go.RowKit Go.ChangeShapes Go.WideShapes

set_option maxRecDepth 100000 in
theorem open_value {H : Type} {enc : TypeId × Value → H} {W : World} {r : Reach} {b0 : Nat} {v : Value} {d : DataW H} {p : List MemPlace} (hv : Value.okWide Try.prog W r b0 38 v)
    (h : DataW.Trod enc Try.prog W 0 (fun _ => true) true 38 v d p) : ∃ k n s, v = .agg #[.int .i64 k, .int .i64 n, .string s] ∧ (Lit.int .i64 k).wf = true ∧ (Lit.int .i64 n).wf = true ∧ s.size ≤ maxLen := by
  obtain ⟨v0, v1, v2, y0, y1, y2, n, rfl, _, _, h0, h1, h2⟩ := Joins.open_agg3 Try.underlying38 (by kernel_rfl) (by kernel_rfl) hv h
  obtain ⟨a, ha, _, wa⟩ := DataW.trod_int Try.underlying3 h0
  obtain ⟨b, hb, _, wb⟩ := DataW.trod_int Try.underlying3 h1
  obtain ⟨s, hs, _, ws⟩ := DataW.trod_string Try.underlying9 h2
  simp only [List.cons.injEq, and_true] at ha hb hs
  subst ha hb hs
  exact ⟨a, b, s, rfl, wa, wb, ws⟩
end Go.Proofs.Ytbjgflinggelpaa.Op

namespace Go.Proofs.Ytbjgflinggelpaa.Ex
open Go.RowKit Go.Proofs.Ytbjgflinggelpaa.BM Go.Proofs.Ytbjgflinggelpaa.LM Go.Proofs.Ytbjgflinggelpaa.VaM Go.Proofs.Ytbjgflinggelpaa.Va Go.Proofs.Ytbjgflinggelpaa.ExM Go.Proofs.Ytbjgflinggelpaa.EvM

/-- An event of no value. -/
def exN : Ev := ⟨⟨#[97]⟩, 0, []⟩
theorem exN_fine : Ev.Fine exN := ⟨by unfold maxLen; decide, by decide, by decide⟩
theorem exN_may : EvM.May exN := by decide

def pushO (v : V) : O := ⟨0, 0, v⟩
def codeO (c : Int) : O := ⟨c, 0, v0⟩
theorem ok_push {v : V} (h : VaM.May v) : Ok (pushO v) := ⟨(by decide : (0 : Int) ≤ 0), (by decide : (0 : Int) < 10), (by decide : (0 : Int) ≤ 0), (by decide : (0 : Int) < 6), Or.inr rfl, h, Or.inl rfl⟩
theorem ok_code {c : Int} (h0 : 0 ≤ c) (h1 : c < 10) : Ok (codeO c) := ⟨h0, h1, (by decide : (0 : Int) ≤ 0), (by decide : (0 : Int) < 6), Or.inr rfl, (show VaM.May v0 from by decide), Or.inr rfl⟩
theorem fin_push {v : V} (h : VaM.May v) (hr : Rng v) : Fin (pushO v) := ⟨may_size h, hr, ⟨(by decide : (-9223372036854775808 : Int) ≤ 0), (by decide : (0 : Int) ≤ 9223372036854775807)⟩, (by decide : (-9223372036854775808 : Int) ≤ 0), (by decide : (0 : Int) ≤ 9223372036854775807)⟩
theorem fin_code {c : Int} (h0 : 0 ≤ c) (h1 : c < 10) : Fin (codeO c) := ⟨Nat.zero_le _, ⟨(by decide : (-9223372036854775808 : Int) ≤ 0), (by decide : (0 : Int) ≤ 9223372036854775807)⟩, ⟨(by show -9223372036854775808 ≤ c; omega), (by show c ≤ 9223372036854775807; omega)⟩, (by decide : (-9223372036854775808 : Int) ≤ 0), (by decide : (0 : Int) ≤ 9223372036854775807)⟩

theorem eval_n {l : List O} (h : ∀ x ∈ l, Ok x) (hl : l.length ≤ 12) : eval exN l = through [] l false := by
  unfold eval
  rw [if_neg (fun k => k ⟨may_of h hl, exN_may⟩)]
  rfl

theorem eval_nil : eval exN [] = (v0, 2) := by rw [eval_n (fun x hx => by cases hx) (by decide)]; rfl
theorem eval_push {v : V} (h : VaM.May v) : eval exN [pushO v] = (v, 0) := by
  rw [eval_n (l := [pushO v]) (fun x hx => by rw [List.mem_singleton.1 hx]; exact ok_push h) (show 1 ≤ 12 from by decide)]
  rfl
theorem eval_two {v : V} (h : VaM.May v) : eval exN [pushO v, pushO v] = (v0, 2) := by
  rw [eval_n (l := [pushO v, pushO v]) (fun x hx => by
    obtain rfl : x = pushO v := by simpa using hx
    exact ok_push h) (show 2 ≤ 12 from by decide)]
  rfl
theorem eval_code {c : Int} (h0 : 2 ≤ c) (h1 : c < 10) : eval exN [codeO c] = (v0, 2) := by
  rw [eval_n (l := [codeO c]) (fun x hx => by rw [List.mem_singleton.1 hx]; exact ok_code (by omega) h1) (show 1 ≤ 12 from by decide)]
  unfold through
  rw [ExM.run]
  have hs : ExM.step [] false (codeO c) [] = .error 2 := by
    by_cases h9 : c = 9
    · rw [step_not (o := codeO c) h9, if_pos (by decide)]
    · rw [step_two (o := codeO c) (by show c ≠ 0; omega) (by show c ≠ 1; omega) h9, if_pos (by decide)]
  rw [hs]
  rfl

theorem holds_nil (e : Ev) : holds e [] = true := rfl

set_option maxRecDepth 100000 in
set_option maxHeartbeats 4000000 in
theorem form_walk (nm : ByteArray) (t : Int) (A : Option Addr) (len cap : Nat) (k j : Int) (s : ByteArray) (c : Int) (W : World) (h0 : Op.ArgE W nm t A len cap) (h1 : (Lit.int .i64 k).wf = true ∧ (Lit.int .i64 j).wf = true ∧ s.size ≤ maxLen) (_h2 : (Lit.int .i64 c).wf = true) :
    Calls Try.prog 10 #[.agg #[.string nm, .int .i64 t, .slice A len cap], .agg #[.int .i64 k, .int .i64 j, .string s], .int .i64 c] W fun e w' => e = .returned (.bool true) ∧ Below W.heap.size W w' := by
  obtain ⟨l, hn, hS, hz⟩ := h0
  subst hn
  have hfew := fun w (h : Below W.heap.size W w) => Ev.Few_any ⟨nm, t, l⟩ A cap w (hS.kept h) hz.1
  have hhold := fun w (h : Below W.heap.size W w) => Holds_any ⟨nm, t, l⟩ [] A cap none 0 w (hS.kept h) hz (slO_none w)
  simp only [holds_nil] at hhold
  have hl := slV_len hS
  have hrng : Rng ⟨k, j, s⟩ := rng_of h1.2.1
  have hsz := h1.2.2
  unfold maxLen at hsz
  obtain ⟨n, hn⟩ : ∃ n, n = l.length := ⟨_, rfl⟩
  simp only [← hn] at hfew hhold
  rw [← hn] at hl ⊢
  have hvm := fun w => Va.May_any k j s w
  obtain ⟨vm, hvmb⟩ : ∃ b, b = decide (VaM.May ⟨k, j, s⟩) := ⟨_, rfl⟩
  simp only [← hvmb] at hvm
  have HVb := Lib.hid hvmb
  have HVm := Lib.hid hvm
  have HFew := Lib.hid hfew
  have HHo := Lib.hid hhold
  have HRg := Lib.hid hrng
  have hx1 := bx_new_t W 27 (.string nm) (.int .i64 t) (.slice A n cap)
  have hb1 := (Below.refl W.heap.size W).alloc (Nat.le_refl _) (.cells #[.string nm, .int .i64 t, .slice A n cap] 27)
  obtain ⟨u1, hu1⟩ : ∃ u, u = W.alloc (.cells #[.string nm, .int .i64 t, .slice A n cap] 27) := ⟨_, rfl⟩
  have hs1 : u1.heap.size = W.heap.size + 1 := by rw [hu1]; simp
  rw [← hu1] at hx1 hb1
  have hy1 := bx_new_t u1 38 (.int .i64 k) (.int .i64 j) (.string s)
  have hb2 := (Below.refl u1.heap.size u1).alloc (Nat.le_refl _) (.cells #[.int .i64 k, .int .i64 j, .string s] 38)
  have hx2 := hx1.kept hb2
  have hbb := bt hb1 hb2
  rw [hs1] at hy1
  rw [hu1] at hx2 hy1 hbb
  have HX2 := Lib.hid hx2
  have HY2 := Lib.hid hy1
  have HB2 := Lib.hid hbb
  clear hn hS hz hfew hhold hvm hvmb hx1 hb1 hu1 hs1 hy1 hb2 hx2 hbb u1 hrng h1
  go_enter Try.func10, Try.ntmps10
  go_wp2_with fail
  obtain ⟨w2, hw2⟩ : ∃ w2, w2 = (W.alloc (.cells #[.string nm, .int .i64 t, .slice A n cap] 27)).alloc (.cells #[.int .i64 k, .int .i64 j, .string s] 38) := ⟨_, rfl⟩
  rw [← hw2] at HX2 HY2 HB2 ⊢
  clear hw2
  refine (awake_any w2).mono ?_
  rintro e w3 ⟨rfl, hb3⟩
  have HB3 := Lib.hid (bt HB2.out hb3)
  have HX3 := Lib.hid (HX2.out.kept hb3)
  have HY3 := Lib.hid (HY2.out.kept hb3)
  clear hb3 HB2 HX2 HY2
  obtain ⟨⟨p0, p1, p2⟩, _⟩ := HX3.out
  obtain ⟨a1, ha1⟩ : ∃ a, a = decide (Ev.Few ⟨nm, t, l⟩) := ⟨_, rfl⟩
  have HF := Lib.hid (HFew.out w3 HB3.out)
  rw [← ha1] at HF
  clear ha1
  go_wp2_with fail
  refine HF.out.mono ?_
  rintro e w4 ⟨rfl, hb4⟩
  have HB4 := Lib.hid (bt HB3.out hb4)
  have HX4 := Lib.hid (HX3.out.kept hb4)
  have HY4 := Lib.hid (HY3.out.kept hb4)
  clear hb4 HB3 HX3 HY3 HF p0 p1 p2
  obtain ⟨⟨y0, y1, y2⟩, _⟩ := HY4.out
  obtain ⟨a2, g2⟩ : ∃ a, decide ((40 : Int) < (s.size : Int)) = a := ⟨_, rfl⟩
  have hways : (a1 = false ∨ (a1 = true ∧ a2 = true)) ∨ (a1 = true ∧ a2 = false) := by cases a1 <;> cases a2 <;> simp
  rcases hways with hbad | ⟨rfl, rfl⟩
  · rcases hbad with rfl | ⟨rfl, rfl⟩
    all_goals
      go_wp2_with fail
      go_ret
      exact ⟨ret_v (x := .bool true) rfl, HB4.out⟩
  · go_wp2_with fail
    refine (HVm.out w4).mono ?_
    rintro e w5 ⟨rfl, hb5⟩
    have HB5 := Lib.hid (bt HB4.out hb5)
    have HX5 := Lib.hid (HX4.out.kept hb5)
    have HY5 := Lib.hid (HY4.out.kept hb5)
    clear hb5 HB4 HX4 HY4 y0 y1 y2
    obtain ⟨⟨y0, y1, y2⟩, _⟩ := HY5.out
    obtain ⟨a3, g3⟩ : ∃ a, decide (c < 2) = a := ⟨_, rfl⟩
    obtain ⟨a4, g4⟩ : ∃ a, decide (10 ≤ c) = a := ⟨_, rfl⟩
    have hways : (vm = false ∨ (vm = true ∧ a3 = true) ∨ (vm = true ∧ a3 = false ∧ a4 = true)) ∨ (vm = true ∧ a3 = false ∧ a4 = false) := by cases vm <;> cases a3 <;> cases a4 <;> simp
    rcases hways with hbad | ⟨rfl, rfl, rfl⟩
    · rcases hbad with rfl | ⟨rfl, rfl⟩ | ⟨rfl, rfl, rfl⟩
      all_goals
        go_wp2_with fail
        go_ret
        exact ⟨ret_v (x := .bool true) rfl, HB5.out⟩
    · have hc2 : 2 ≤ c := by rw [decide_eq_false_iff_not] at g3; omega
      have hc10 : c < 10 := by rw [decide_eq_false_iff_not] at g4; omega
      have hm := of_decide_eq_true HVb.out.symm
      have HMr := Lib.hid (And.intro hm HRg.out)
      have he1 := fun w => Eval_any exN [] none 0 none 0 w (slV_none w) exN_fine (slO_none w)
      have he2 := fun w B d (h : SlO w B [pushO ⟨k, j, s⟩, pushO ⟨k, j, s⟩] d) => Eval_any exN [pushO ⟨k, j, s⟩, pushO ⟨k, j, s⟩] none 0 B d w (slV_none w) exN_fine h
      have he3 := fun w B d (h : SlO w B [codeO c] d) => Eval_any exN [codeO c] none 0 B d w (slV_none w) exN_fine h
      have he4 := fun w B d (h : SlO w B [pushO ⟨k, j, s⟩] d) => Eval_any exN [pushO ⟨k, j, s⟩] none 0 B d w (slV_none w) exN_fine h
      rw [eval_nil] at he1
      rw [eval_two hm] at he2
      rw [eval_code hc2 hc10] at he3
      rw [eval_push hm] at he4
      unfold TwoV at he1 he2 he3 he4
      rw [show (v0 : V) = ⟨0, 0, ⟨#[]⟩⟩ from rfl] at he1 he2 he3
      simp only at he1 he2 he3 he4
      have en : exN.s = ⟨#[97]⟩ := rfl
      have et : exN.t = 0 := rfl
      have ev : exN.v.length = 0 := rfl
      simp only [en, et, ev, List.length_nil, List.length_cons, Nat.zero_add] at he1 he2 he3 he4
      clear en et ev
      have HE1 := Lib.hid he1
      have HE2 := Lib.hid he2
      have HE3 := Lib.hid he3
      have HE4 := Lib.hid he4
      clear hm he1 he2 he3 he4
      have ha6 := (Below.refl w5.heap.size w5).alloc (Nat.le_refl _) (.cells #[.int .i64 0, .int .i64 0, .int .i64 k, .int .i64 j, .string s] 52)
      have HO6 := Lib.hid (bxO_new w5 (pushO ⟨k, j, s⟩))
      have HB6 := Lib.hid (bt HB5.out ha6)
      have HX6 := Lib.hid (HX5.out.kept ha6)
      have HY6 := Lib.hid (HY5.out.kept ha6)
      clear ha6 HB5 HX5 HY5
      go_wp2_with fail
      obtain ⟨w6, hw6⟩ : ∃ w6, w6 = w5.alloc (.cells #[.int .i64 0, .int .i64 0, .int .i64 k, .int .i64 j, .string s] 52) := ⟨_, rfl⟩
      obtain ⟨g, hg⟩ : ∃ g, g = w5.heap.size := ⟨_, rfl⟩
      have hho6 := HO6.out
      simp only [pushO] at hho6
      rw [← hw6, ← hg] at hho6
      rw [← hw6] at HB6 HX6 HY6 ⊢
      rw [← hg] at ⊢
      have HOx := Lib.hid hho6
      clear hw6 hg HO6 hho6 y0 y1 y2
      refine (HE1.out w6).mono ?_
      rintro e w7 ⟨rfl, hb7⟩
      have ha7 := (Below.refl w7.heap.size w7).alloc (Nat.le_refl _) (.cells #[.int .i64 0, .int .i64 0, .string ⟨#[]⟩] 38)
      obtain ⟨u7, hu7⟩ : ∃ u, u = w7.alloc (.cells #[.int .i64 0, .int .i64 0, .string ⟨#[]⟩] 38) := ⟨_, rfl⟩
      have hs7 : u7.heap.size = w7.heap.size + 1 := by rw [hu7]; simp
      have hso7 := slO_new u7 [pushO ⟨k, j, s⟩, pushO ⟨k, j, s⟩] (fun x hx => by obtain rfl : x = pushO ⟨k, j, s⟩ := (by simpa using hx); exact fin_push HMr.out.1 HMr.out.2) (show 2 ≤ maxLen from by unfold maxLen; decide)
      rw [← hu7] at ha7
      have hbo7 := bt hb7 (bt ha7 ((Below.refl u7.heap.size u7).alloc (Nat.le_refl _) (.cells #[.int .i64 0, .int .i64 0, .int .i64 k, .int .i64 j, .string s, .int .i64 0, .int .i64 0, .int .i64 k, .int .i64 j, .string s] 52)))
      rw [hs7, hu7] at hso7
      rw [hu7] at hbo7
      have HS7 := Lib.hid hso7
      have HB7 := Lib.hid (bt HB6.out hbo7)
      have HX7 := Lib.hid (HX6.out.kept hbo7)
      have HY7 := Lib.hid (HY6.out.kept hbo7)
      have HO7 := Lib.hid (HOx.out.kept hbo7)
      obtain ⟨o0, o1, o2, o3, o4⟩ := (HOx.out.kept (bt hb7 (hu7 ▸ ha7))).cells
      simp only at o0 o1 o2 o3 o4
      clear hb7 ha7 hu7 hs7 hso7 hbo7 u7 HB6 HX6 HY6 HOx
      go_wp2_with fail
      clear o0 o1 o2 o3 o4
      refine (HE2.out _ _ 2 HS7.out).mono ?_
      rintro e w8 ⟨rfl, hb8⟩
      have ha8 := (Below.refl w8.heap.size w8).alloc (Nat.le_refl _) (.cells #[.int .i64 0, .int .i64 0, .string ⟨#[]⟩] 38)
      obtain ⟨u8, hu8⟩ : ∃ u, u = w8.alloc (.cells #[.int .i64 0, .int .i64 0, .string ⟨#[]⟩] 38) := ⟨_, rfl⟩
      have hs8 : u8.heap.size = w8.heap.size + 1 := by rw [hu8]; simp
      have hso8 := slO_new u8 [codeO c] (fun x hx => by obtain rfl : x = codeO c := (by simpa using hx); exact fin_code (by omega) hc10) (show 1 ≤ maxLen from by unfold maxLen; decide)
      rw [← hu8] at ha8
      have hbo8 := bt hb8 (bt ha8 ((Below.refl u8.heap.size u8).alloc (Nat.le_refl _) (.cells #[.int .i64 c, .int .i64 0, .int .i64 0, .int .i64 0, .string ⟨#[]⟩] 52)))
      rw [hs8, hu8] at hso8
      rw [hu8] at hbo8
      have HS8 := Lib.hid hso8
      have HB8 := Lib.hid (bt HB7.out hbo8)
      have HX8 := Lib.hid (HX7.out.kept hbo8)
      have HY8 := Lib.hid (HY7.out.kept hbo8)
      have HO8 := Lib.hid (HO7.out.kept hbo8)
      obtain ⟨o0, o1, o2, o3, o4⟩ := (HO7.out.kept (bt hb8 (hu8 ▸ ha8))).cells
      simp only at o0 o1 o2 o3 o4
      clear hb8 ha8 hu8 hs8 hso8 hbo8 u8 HB7 HX7 HY7 HO7
      go_wp2_with fail
      clear o0 o1 o2 o3 o4
      refine (HE3.out _ _ 1 HS8.out).mono ?_
      rintro e w9 ⟨rfl, hb9⟩
      have ha9 := (Below.refl w9.heap.size w9).alloc (Nat.le_refl _) (.cells #[.int .i64 0, .int .i64 0, .string ⟨#[]⟩] 38)
      obtain ⟨u9, hu9⟩ : ∃ u, u = w9.alloc (.cells #[.int .i64 0, .int .i64 0, .string ⟨#[]⟩] 38) := ⟨_, rfl⟩
      have hs9 : u9.heap.size = w9.heap.size + 1 := by rw [hu9]; simp
      have hso9 := slO_new u9 [pushO ⟨k, j, s⟩] (fun x hx => by obtain rfl : x = pushO ⟨k, j, s⟩ := (by simpa using hx); exact fin_push HMr.out.1 HMr.out.2) (show 1 ≤ maxLen from by unfold maxLen; decide)
      rw [← hu9] at ha9
      have hbo9 := bt hb9 (bt ha9 ((Below.refl u9.heap.size u9).alloc (Nat.le_refl _) (.cells #[.int .i64 0, .int .i64 0, .int .i64 k, .int .i64 j, .string s] 52)))
      rw [hs9, hu9] at hso9
      rw [hu9] at hbo9
      have HS9 := Lib.hid hso9
      have HB9 := Lib.hid (bt HB8.out hbo9)
      have HX9 := Lib.hid (HX8.out.kept hbo9)
      have HY9 := Lib.hid (HY8.out.kept hbo9)
      have HO9 := Lib.hid (HO8.out.kept hbo9)
      obtain ⟨o0, o1, o2, o3, o4⟩ := (HO8.out.kept (bt hb9 (hu9 ▸ ha9))).cells
      simp only at o0 o1 o2 o3 o4
      clear hb9 ha9 hu9 hs9 hso9 hbo9 u9 HB8 HX8 HY8 HO8
      go_wp2_with fail
      clear o0 o1 o2 o3 o4
      refine (HE4.out _ _ 1 HS9.out).mono ?_
      rintro e w10 ⟨rfl, hb10⟩
      have ha10 := (Below.refl w10.heap.size w10).alloc (Nat.le_refl _) (.cells #[.int .i64 k, .int .i64 j, .string s] 38)
      obtain ⟨⟨q0, q1, q2⟩, _⟩ := bx_new_t w10 38 (.int .i64 k) (.int .i64 j) (.string s)
      have HB10 := Lib.hid (bt HB9.out (bt hb10 ha10))
      obtain ⟨⟨p0, p1, p2⟩, _⟩ := HX9.out.kept (bt hb10 ha10)
      obtain ⟨⟨y0, y1, y2⟩, _⟩ := HY9.out.kept (bt hb10 ha10)
      have heq := fun W => eql_v k j k j s s W
      have hsm : same (⟨k, j, s⟩ : V) ⟨k, j, s⟩ = true := same_iff.2 rfl
      simp only [hsm] at heq
      clear hb10 ha10 hsm
      go_wp2_with fail
      refine (HHo.out _ HB10.out).mono ?_
      rintro e w11 ⟨rfl, hb11⟩
      have HB11 := Lib.hid (bt HB10.out hb11)
      clear hb11 q0 q1 q2 p0 p1 p2 y0 y1 y2 heq
      go_wp2_with fail
      go_ret
      exact ⟨ret_v (x := .bool true) rfl, HB11.out⟩
end Go.Proofs.Ytbjgflinggelpaa.Ex

namespace Go.Proofs.Ytbjgflinggelpaa.ExM
open Go.RowKit Go.Proofs.Ytbjgflinggelpaa.BM Go.Proofs.Ytbjgflinggelpaa.VaM Go.Proofs.Ytbjgflinggelpaa.EvM

theorem step_err {vs : List V} {o : O} {p : List V} {e : Int} (h : step vs false o p = .error e) : e ≠ 0 := by
  unfold step at h
  split at h
  · cases h
  · split at h
    · split at h
      · cases h
      · injection h with h
        omega
    · split at h
      · split at h
        · injection h with h
          omega
        · split at h
          · injection h with h
            omega
          · cases h
      · split at h
        · injection h with h
          omega
        · simp only at h
          split at h
          · cases h
          · rename_i hn
            injection h with h
            rw [← h]
            exact fun k => hn (Or.inl k)

theorem run_err0 {vs : List V} : ∀ {l : List O} {p : List V} {e : Int}, run vs false l p = .error e → e ≠ 0
  | [], _, _, h => by cases h
  | o :: l, p, e, h => by
    simp only [run] at h
    cases hs : step vs false o p with
    | error e' =>
      rw [hs] at h
      injection h with h
      rw [← h]
      exact step_err hs
    | ok q =>
      rw [hs] at h
      exact run_err0 h

theorem getD_in {p : List V} (hp : ∀ x ∈ p, VaM.May x) (i : Nat) : VaM.May (p.getD i v0) := by
  by_cases h : i < p.length
  · rw [List.getD_eq_getElem?_getD, List.getElem?_eq_getElem h]
    exact hp _ (List.getElem_mem h)
  · rw [List.getD_eq_getElem?_getD, List.getElem?_eq_none (by omega)]
    exact (by decide : VaM.May v0)

theorem app_may {p : List V} {x : V} (hp : ∀ y ∈ p, VaM.May y) (hx : VaM.May x) : ∀ y ∈ p ++ [x], VaM.May y := by
  intro y hy
  rcases List.mem_append.1 hy with h | h
  · exact hp y h
  · rw [List.mem_singleton.1 h]
    exact hx

theorem step_may {vs : List V} (hv : ∀ x ∈ vs, VaM.May x) {o : O} (ho : Ok o) {p q : List V} (hp : ∀ x ∈ p, VaM.May x) (h : step vs false o p = .ok q) : ∀ x ∈ q, VaM.May x := by
  have ht : ∀ k, ∀ x ∈ p.take k, VaM.May x := fun k x hx => hp x (List.mem_of_mem_take hx)
  unfold step at h
  split at h
  · injection h with h
    rw [← h]
    exact app_may hp ho.2.2.2.2.2.1
  · split at h
    · split at h
      · injection h with h
        rw [← h]
        exact app_may hp (getD_in hv _)
      · cases h
    · split at h
      · split at h
        · cases h
        · split at h
          · cases h
          · injection h with h
            rw [← h]
            exact app_may (ht _) (truth_may _)
      · split at h
        · cases h
        · simp only at h
          split at h
          · injection h with h
            rw [← h]
            exact app_may (ht _) (two_may _ _ _)
          · cases h

theorem run_may {vs : List V} (hv : ∀ x ∈ vs, VaM.May x) : ∀ {l : List O} (_ : ∀ o ∈ l, Ok o) {p q : List V} (_ : ∀ x ∈ p, VaM.May x), run vs false l p = .ok q → ∀ x ∈ q, VaM.May x
  | [], _, p, q, hp, h => by
    injection h with h
    rw [← h]
    exact hp
  | o :: l, ho, p, q, hp, h => by
    simp only [run] at h
    cases hs : step vs false o p with
    | error e =>
      rw [hs] at h
      cases h
    | ok p' =>
      rw [hs] at h
      exact run_may hv (fun x hx => ho x (List.mem_cons_of_mem _ hx)) (step_may hv (ho o List.mem_cons_self) hp hs) h

/-- Of what comes to something: what stands at the end. -/
theorem eval_ok {e : Ev} {l : List O} (h : (eval e l).2 = 0) : May l ∧ EvM.May e ∧ run e.v false l [] = .ok [(eval e l).1] := by
  unfold eval at h ⊢
  by_cases hm : ¬ (May l ∧ EvM.May e)
  · rw [if_pos hm] at h
    cases h
  · rw [if_neg hm] at h ⊢
    have hm' := Classical.not_not.1 hm
    refine ⟨hm'.1, hm'.2, ?_⟩
    unfold through at h ⊢
    cases hr : run e.v false l [] with
    | error x =>
      rw [hr] at h
      exact absurd h (run_err0 hr)
    | ok p =>
      rw [hr] at h
      simp only [fin] at h ⊢
      by_cases hl : p.length = 1
      · rw [if_pos hl]
        match p, hl with
        | [x], _ => rfl
      · rw [if_neg hl] at h
        cases h

theorem bool_n {v : V} (h : VaM.May v) (hk : v.k = 1) : v.n = 0 ∨ v.n = 1 := by
  unfold VaM.May at h
  omega

theorem holds_of {e : Ev} {l : List O} (hm : May l) (he : EvM.May e) {v : V} (hl : l ≠ []) (h : run e.v false l [] = .ok [v]) (hk : v.k = 1) : holds e l = decide (v.n = 1) := by
  have h1 : eval e l = (v, 0) := by
    rw [eval, if_neg (fun k => k ⟨hm, he⟩), through, h]
    rfl
  rw [holds, h1]
  simp [hl, hk]

/-- The three laws. -/
theorem bools {e : Ev} {a b : List O} (ha : (eval e a).2 = 0) (hb : (eval e b).2 = 0) (ka : (eval e a).1.k = 1) (kb : (eval e b).1.k = 1) (la : a.length ≤ 5) (lb : b.length ≤ 5)
    (hv : EvM.May e → ∀ x ∈ e.v, VaM.May x) :
    holds e (a ++ [⟨9, 0, v0⟩]) = (!holds e a) ∧ holds e (a ++ b ++ [⟨7, 0, v0⟩]) = (holds e a && holds e b) ∧ holds e (a ++ b ++ [⟨8, 0, v0⟩]) = (holds e a || holds e b) := by
  obtain ⟨ma, he, ra⟩ := eval_ok ha
  obtain ⟨mb, _, rb⟩ := eval_ok hb
  generalize (eval e a).1 = v at *
  generalize (eval e b).1 = u at *
  have hmv := run_may (hv he) (fun o ho => ma.ok ho) (fun x hx => by cases hx) ra v List.mem_cons_self
  have hmu := run_may (hv he) (fun o ho => mb.ok ho) (fun x hx => by cases hx) rb u List.mem_cons_self
  have na : a ≠ [] := by rintro rfl; cases ra
  have nb : b ≠ [] := by rintro rfl; cases rb
  have h1 := holds_of ma he na ra ka
  have h2 := holds_of mb he nb rb kb
  have hv0 : VaM.May v0 := by decide
  have hab : run e.v false (a ++ b) [] = .ok [v, u] := by
    rw [run_app, ra]
    exact run_frame (r := [v]) rb
  have may3 : ∀ c : Int, 2 ≤ c → c < 10 → May (a ++ b ++ [⟨c, 0, v0⟩]) := fun c c0 c1 => may_of (fun x hx => by
    rcases List.mem_append.1 hx with h | h
    · rcases List.mem_append.1 h with h | h
      · exact ma.ok h
      · exact mb.ok h
    · rw [List.mem_singleton.1 h]
      exact ⟨by show 0 ≤ c; omega, c1, (by decide : (0 : Int) ≤ 0), (by decide : (0 : Int) < 6), Or.inr rfl, hv0, Or.inr rfl⟩) (by simp only [List.length_append, List.length_cons, List.length_nil]; omega)
  have may1 : May (a ++ [⟨9, 0, v0⟩]) := may_of (fun x hx => by
    rcases List.mem_append.1 hx with h | h
    · exact ma.ok h
    · rw [List.mem_singleton.1 h]
      exact ⟨(by decide : (0 : Int) ≤ 9), (by decide : (9 : Int) < 10), (by decide : (0 : Int) ≤ 0), (by decide : (0 : Int) < 6), Or.inr rfl, hv0, Or.inr rfl⟩) (by simp only [List.length_append, List.length_cons, List.length_nil]; omega)
  have r1 : run e.v false (a ++ [⟨9, 0, v0⟩]) [] = .ok [truth (decide (v.n = 0))] := by
    rw [run_app, ra]
    show (match step e.v false ⟨9, 0, v0⟩ [v] with
      | Except.error e => Except.error e
      | Except.ok q => run e.v false [] q) = _
    have : step e.v false ⟨9, 0, v0⟩ [v] = .ok [truth (decide (v.n = 0))] := by
      show (if ¬ v.k = 1 then Except.error 5 else Except.ok ([] ++ [truth (decide (v.n = 0))]) : Except Int (List V)) = _
      rw [if_neg (fun k => k ka)]
      rfl
    rw [this]
    rfl
  have r3 : ∀ c : Int, c = 7 ∨ c = 8 → run e.v false (a ++ b ++ [⟨c, 0, v0⟩]) [] = .ok [truth (decide (v.n + u.n = 2 ∨ (c = 8 ∧ 0 < v.n + u.n)))] := by
    intro c hc
    rw [run_app, hab]
    show (match step e.v false ⟨c, 0, v0⟩ [v, u] with
      | Except.error e => Except.error e
      | Except.ok q => run e.v false [] q) = _
    have h2 : two c v u = (truth (decide (v.n + u.n = 2 ∨ (c = 8 ∧ 0 < v.n + u.n))), 0) := by
      rw [two, if_neg (by rw [ka, kb]; exact fun k => k rfl), if_neg (by omega), if_neg (by omega), if_pos hc, if_neg (fun k => k ka)]
    have : step e.v false ⟨c, 0, v0⟩ [v, u] = .ok [truth (decide (v.n + u.n = 2 ∨ (c = 8 ∧ 0 < v.n + u.n)))] := by
      have hst : step e.v false ⟨c, 0, v0⟩ [v, u] = if (two c v u).2 = 0 ∨ (false = true ∧ (two c v u).2 = 6) then .ok ([] ++ [(two c v u).1]) else .error (two c v u).2 := by
        unfold step
        rw [if_neg (by show ¬ c = 0; omega), if_neg (by show ¬ c = 1; omega), if_neg (by show ¬ c = 9; omega), if_neg (by simp)]
        rfl
      rw [hst, if_pos (Or.inl (by rw [h2])), h2]
      rfl
    rw [this]
    rfl
  rw [h1, h2, holds_of may1 he (by simp) r1 rfl, holds_of (may3 7 (by decide) (by decide)) he (by simp) (r3 7 (Or.inl rfl)) rfl, holds_of (may3 8 (by decide) (by decide)) he (by simp) (r3 8 (Or.inr rfl)) rfl]
  rcases bool_n hmv ka with q1 | q1 <;> rcases bool_n hmu kb with q2 | q2 <;> rw [q1, q2] <;> decide
end Go.Proofs.Ytbjgflinggelpaa.ExM

namespace Go.Proofs.Ytbjgflinggelpaa.Op
open Go.RowKit Go.ChangeShapes Go.WideShapes Go.Proofs.Ytbjgflinggelpaa.VaM Go.Proofs.Ytbjgflinggelpaa.ExM Go.Proofs.Ytbjgflinggelpaa.Ex

/-- Parts that came in lie where their slice says. -/
def ArgO (W : World) (a : Option Addr) (len cap : Nat) : Prop := ∃ l : List O, l.length = len ∧ SlO W a l cap

theorem cells_o {w : World} {b : Nat} : ∀ (l : List O) (o : Nat), (∀ i, i < l.length → CellO w b (o + i * 5) (l.getD i o0)) → ∀ (j : Nat) (u : Value), (l.flatMap encO)[j]? = some u → w.cell? ⟨b, o + j, none⟩ = some u
  | [], _, _, j, u, h => by simp at h
  | x :: l, o, hc, j, u, h => by
    rw [List.flatMap_cons] at h
    have h0 := hc 0 (by simp)
    rw [Nat.zero_mul, Nat.add_zero, List.getD_cons_zero] at h0
    obtain ⟨c0, c1, c2, c3, c4⟩ := h0
    by_cases hj : j < 5
    · rw [List.getElem?_append_left (by simpa [encO] using hj)] at h
      have hw : j = 0 ∨ j = 1 ∨ j = 2 ∨ j = 3 ∨ j = 4 := by omega
      rcases hw with rfl | rfl | rfl | rfl | rfl
      · obtain rfl : _ = u := by simpa [encO] using h
        exact c0
      · obtain rfl : _ = u := by simpa [encO] using h
        exact c1
      · obtain rfl : _ = u := by simpa [encO] using h
        exact c2
      · obtain rfl : _ = u := by simpa [encO] using h
        exact c3
      · obtain rfl : _ = u := by simpa [encO] using h
        exact c4
    · rw [List.getElem?_append_right (by simp only [encO, List.length_cons, List.length_nil]; omega)] at h
      have h2 := cells_o l (o + 5) (fun i hi => by
        have h3 := hc (i + 1) (by simpa using hi)
        rw [List.getD_cons_succ] at h3
        rw [show o + 5 + i * 5 = o + (i + 1) * 5 from by omega]
        exact h3) (j - 5) u h
      rw [show o + 5 + (j - 5) = o + j from by omega] at h2
      exact h2

set_option maxRecDepth 100000 in
theorem open_ops {H : Type} {enc : TypeId × Value → H} {W : World} {r : Reach} {b0 : Nat} {v : Value} {d : DataW H} {p : List MemPlace} (hv : Value.okWide Try.prog W r b0 28 v)
    (h : DataW.Trod enc Try.prog W 0 (fun _ => true) true 28 v d p) : ∃ a len cap, v = .slice a len cap ∧ ArgO W a len cap := by
  obtain ⟨a, len, cap, rfl⟩ := okWide_slice Try.underlying28 hv
  refine ⟨a, len, cap, rfl, ?_⟩
  obtain ⟨fuel, hf⟩ := h
  simp only [Value.cells] at hf
  rcases Deep.open_slice Try.underlying28 hf with ⟨hcs, _⟩ | ⟨x, l, c, m, n, D, Pl, hcs, _, hl, hm, hmm, _, hr⟩
  · simp only [List.cons.injEq, Value.slice.injEq, and_true] at hcs
    obtain ⟨rfl, rfl, rfl⟩ := hcs
    exact ⟨[], rfl, slO_none W⟩
  · simp only [List.cons.injEq, Value.slice.injEq, and_true] at hcs
    obtain ⟨rfl, rfl, rfl⟩ := hcs
    simp only [if_true] at hmm
    subst hmm
    have each : ∀ i, i < len → ∃ y : O, Fin y ∧ W.cell? (x.add (i * 5)) = some (.int .i64 y.c) ∧ W.cell? (x.add (i * 5 + 1)) = some (.int .i64 y.a) ∧ W.cell? (x.add (i * 5 + 2)) = some (.int .i64 y.v.k) ∧ W.cell? (x.add (i * 5 + 3)) = some (.int .i64 y.v.n) ∧ W.cell? (x.add (i * 5 + 4)) = some (.string y.v.s) := by
      intro i hi
      obtain ⟨cs', hc, ht⟩ := hr i (by omega)
      rw [show Try.prog.cellsOf 52 = 5 from by kernel_rfl] at hc
      obtain ⟨_, hlen, hcell⟩ := World.cells?_some hc
      match cs', hlen with
      | [u0, u1, u2, u3, u4], _ =>
        obtain ⟨y0, y1, y2, k, _, _, t0, t1, t2⟩ := Deep.trod_struct3 Try.underlying52 ht
        have c1 : Try.prog.cellsOf 3 = 1 := by kernel_rfl
        have c2 : Try.prog.cellsOf 9 = 1 := by kernel_rfl
        have c3 : Try.prog.cellsOf 38 = 3 := by kernel_rfl
        simp only [c1] at t0 t1
        simp only [c3] at t2
        simp only [List.drop_zero, List.drop_succ_cons, List.take_succ_cons, List.take_zero] at t0 t1 t2
        obtain ⟨n0, e0', _, w0⟩ := DataW.trod_int Try.underlying3 t0
        obtain ⟨n1, e1', _, w1⟩ := DataW.trod_int Try.underlying3 t1
        obtain ⟨z0, z1, z2, k', _, _, s0, s1, s2⟩ := Deep.trod_struct3 Try.underlying38 t2
        simp only [c1] at s0 s1
        simp only [c2] at s2
        obtain ⟨n2, e2', _, _⟩ := DataW.trod_int Try.underlying3 s0
        obtain ⟨n3, e3', _, w3⟩ := DataW.trod_int Try.underlying3 s1
        obtain ⟨s, e4', _, w4⟩ := DataW.trod_string Try.underlying9 s2
        simp only [List.drop_zero, List.drop_succ_cons, List.take_succ_cons, List.take_zero, List.cons.injEq, and_true] at e0' e1' e2' e3' e4'
        subst e0' e1' e2' e3' e4'
        have g0 := hcell 0 (by decide)
        have g1 := hcell 1 (by decide)
        have g2 := hcell 2 (by decide)
        have g3 := hcell 3 (by decide)
        have g4 := hcell 4 (by decide)
        have b0 := bounds_i64 w0
        have b1 := bounds_i64 w1
        have b3 := bounds_i64 w3
        refine ⟨⟨n0, n1, ⟨n2, n3, s⟩⟩, ⟨w4, ⟨by simp only; omega, by simp only; omega⟩, ⟨by simp only; omega, by simp only; omega⟩, by simp only; omega, by simp only; omega⟩, ?_, ?_, ?_, ?_, ?_⟩
        · rw [Deep.add_add, Nat.add_zero] at g0
          exact g0
        · rw [Deep.add_add] at g1
          exact g1
        · rw [Deep.add_add] at g2
          exact g2
        · rw [Deep.add_add] at g3
          exact g3
        · rw [Deep.add_add] at g4
          exact g4
    let g : Nat → O := fun i => if h : i < len then Classical.choose (each i h) else o0
    have hg : ∀ i, i < len → Fin (g i) ∧ W.cell? (x.add (i * 5)) = some (.int .i64 (g i).c) ∧ W.cell? (x.add (i * 5 + 1)) = some (.int .i64 (g i).a) ∧ W.cell? (x.add (i * 5 + 2)) = some (.int .i64 (g i).v.k) ∧ W.cell? (x.add (i * 5 + 3)) = some (.int .i64 (g i).v.n) ∧ W.cell? (x.add (i * 5 + 4)) = some (.string (g i).v.s) := by
      intro i hi
      have e : g i = Classical.choose (each i hi) := dif_pos hi
      rw [e]
      exact Classical.choose_spec (each i hi)
    have hgl : ((List.range len).map g).length = len := by simp
    have hgd : ∀ i, i < len → ((List.range len).map g).getD i o0 = g i := fun i hi => by simp [List.getD_eq_getElem?_getD, hi]
    refine ⟨(List.range len).map g, hgl, ⟨⟨((List.range len).map g).flatMap encO, fun h0 => ?_, elems_o _ _ _⟩, by rw [hgl]; exact hl, (fun e => by cases e), hm⟩, fun f hf => ?_⟩
    · have hl0 : 0 < len := by
        rcases Nat.eq_zero_or_pos len with e | e
        · subst e
          simp at h0
        · exact e
      obtain ⟨b, o, sp⟩ := x
      have hsp : sp = none := by simpa [Addr.add] using World.cell?_spot (hg 0 hl0).2.1
      subst hsp
      refine ⟨b, o, rfl, cells_o _ o fun i hi => ?_⟩
      rw [hgl] at hi
      rw [hgd i hi]
      obtain ⟨_, g0, g1, g2, g3, g4⟩ := hg i hi
      rw [Addr.add_lit] at g0 g1 g2 g3 g4
      exact ⟨g0, g1, g2, g3, g4⟩
    · obtain ⟨i, hi, rfl⟩ := List.mem_map.1 hf
      exact (hg i (List.mem_range.1 hi)).1
end Go.Proofs.Ytbjgflinggelpaa.Op

namespace Go.Proofs.Ytbjgflinggelpaa.Ex
open Go.RowKit Go.Proofs.Ytbjgflinggelpaa.BM Go.Proofs.Ytbjgflinggelpaa.LM Go.Proofs.Ytbjgflinggelpaa.VaM Go.Proofs.Ytbjgflinggelpaa.Va Go.Proofs.Ytbjgflinggelpaa.ExM Go.Proofs.Ytbjgflinggelpaa.EvM

theorem may_vals {e : Ev} (h : EvM.May e) : ∀ x ∈ e.v, VaM.May x := by
  intro x hx
  obtain ⟨i, hi, rfl⟩ := List.getElem_of_mem hx
  have h1 := h.2.2.2.2 i hi
  rw [List.getD_eq_getElem?_getD, List.getElem?_eq_getElem hi] at h1
  exact h1

theorem fin_app {l m : List O} (hl : ∀ x ∈ l, Fin x) (hm : ∀ x ∈ m, Fin x) : ∀ x ∈ l ++ m, Fin x := by
  intro x hx
  rcases List.mem_append.1 hx with h | h
  · exact hl x h
  · exact hm x h

theorem fin_one {c : Int} (h0 : 0 ≤ c) (h1 : c < 10) : ∀ x ∈ [codeO c], Fin x := fun x hx => by rw [List.mem_singleton.1 hx]; exact fin_code h0 h1

set_option maxRecDepth 100000 in
set_option maxHeartbeats 8000000 in
theorem not_walk (nm : ByteArray) (t : Int) (C : Option Addr) (len0 c0 : Nat) (A : Option Addr) (len1 c1 : Nat) (B : Option Addr) (len2 c2 : Nat) (W : World) (h0 : Op.ArgE W nm t C len0 c0) (h1 : Op.ArgO W A len1 c1) (h2 : Op.ArgO W B len2 c2) :
    Calls Try.prog 7 #[.agg #[.string nm, .int .i64 t, .slice C len0 c0], .slice A len1 c1, .slice B len2 c2] W fun e w' => e = .returned (.bool true) ∧ Below W.heap.size W w' := by
  obtain ⟨vs, hn0, hS, hz⟩ := h0
  obtain ⟨a, hn1, hA⟩ := h1
  obtain ⟨b, hn2, hB⟩ := h2
  subst hn0 hn1 hn2
  have hfe := fun w (h : Below W.heap.size W w) => Ev.Few_any ⟨nm, t, vs⟩ C c0 w (hS.kept h) hz.1
  have hfa := fun w (h : Below W.heap.size W w) => Few_any a A c1 w (hA.kept h)
  have hfb := fun w (h : Below W.heap.size W w) => Few_any b B c2 w (hB.kept h)
  have hea := fun w (h : Below W.heap.size W w) => Eval_any ⟨nm, t, vs⟩ a C c0 A c1 w (hS.kept h) hz (hA.kept h)
  have heb := fun w (h : Below W.heap.size W w) => Eval_any ⟨nm, t, vs⟩ b C c0 B c2 w (hS.kept h) hz (hB.kept h)
  have hha := fun w (h : Below W.heap.size W w) => Holds_any ⟨nm, t, vs⟩ a C c0 A c1 w (hS.kept h) hz (hA.kept h)
  have hhb := fun w (h : Below W.heap.size W w) => Holds_any ⟨nm, t, vs⟩ b C c0 B c2 w (hS.kept h) hz (hB.kept h)
  have hho := fun l P p w (h : Below W.heap.size W w) (k : SlO w P l p) => Holds_any ⟨nm, t, vs⟩ l C c0 P p w (hS.kept h) hz k
  have hbo := @bools ⟨nm, t, vs⟩ a b
  obtain ⟨R, hR⟩ : ∃ R, R = eval ⟨nm, t, vs⟩ a := ⟨_, rfl⟩
  obtain ⟨S, hSd⟩ : ∃ S, S = eval ⟨nm, t, vs⟩ b := ⟨_, rfl⟩
  rw [← hR, ← hSd] at hbo
  simp only [← hR] at hea
  simp only [← hSd] at heb
  clear hR hSd
  obtain ⟨⟨yk, yn, ys⟩, yr⟩ := R
  obtain ⟨⟨zk, zn, zs⟩, zr⟩ := S
  unfold TwoV at hea heb
  simp only at hfe hea heb hha hhb hho hbo
  obtain ⟨n0, e0'⟩ : ∃ n, n = vs.length := ⟨_, rfl⟩
  obtain ⟨n1, e1'⟩ : ∃ n, n = a.length := ⟨_, rfl⟩
  obtain ⟨n2, e2'⟩ : ∃ n, n = b.length := ⟨_, rfl⟩
  simp only [← e0'] at hfe hea heb hha hhb hho
  simp only [← e1'] at hfa hea hha
  simp only [← e2'] at hfb heb hhb
  rw [← e1', ← e2'] at hbo
  rw [← e0', ← e1', ← e2']
  have HFe := Lib.hid hfe
  have HFa := Lib.hid hfa
  have HFb := Lib.hid hfb
  have HEa := Lib.hid hea
  have HEb := Lib.hid heb
  have HHa := Lib.hid hha
  have HHb := Lib.hid hhb
  have HHo := Lib.hid hho
  have HBo := Lib.hid hbo
  have HLa := Lib.hid e1'
  have HLb := Lib.hid e2'
  have HA := Lib.hid hA
  have HB := Lib.hid hB
  have HX1 := Lib.hid (bx_new_t W 27 (.string nm) (.int .i64 t) (.slice C n0 c0))
  have HB1 := Lib.hid ((Below.refl W.heap.size W).alloc (Nat.le_refl _) (.cells #[.string nm, .int .i64 t, .slice C n0 c0] 27))
  clear hfe hfa hfb hea heb hha hhb hho hbo e0' e1' e2' hA hB hS hz
  go_enter Try.func7, Try.ntmps7
  go_wp2_with fail
  obtain ⟨w1, hw1⟩ : ∃ w1, w1 = W.alloc (.cells #[.string nm, .int .i64 t, .slice C n0 c0] 27) := ⟨_, rfl⟩
  rw [← hw1] at HX1 HB1 ⊢
  clear hw1
  refine (awake_any w1).mono ?_
  rintro e w2 ⟨rfl, hb2⟩
  have HB2 := Lib.hid (bt HB1.out hb2)
  have HX2 := Lib.hid (HX1.out.kept hb2)
  clear hb2 HB1 HX1
  obtain ⟨⟨p0, p1, p2⟩, _⟩ := HX2.out
  obtain ⟨a1, ha1⟩ : ∃ a, a = decide (Ev.Few ⟨nm, t, vs⟩) := ⟨_, rfl⟩
  have HF := Lib.hid (HFe.out w2 HB2.out)
  rw [← ha1] at HF
  clear ha1 HFe
  go_wp2_with fail
  refine HF.out.mono ?_
  rintro e w3 ⟨rfl, hb3⟩
  have HB3 := Lib.hid (bt HB2.out hb3)
  have HX3 := Lib.hid (HX2.out.kept hb3)
  clear hb3 HB2 HX2 HF p0 p1 p2
  obtain ⟨a2, ha2⟩ : ∃ x, x = decide (Few a) := ⟨_, rfl⟩
  have HF := Lib.hid (HFa.out w3 HB3.out)
  rw [← ha2] at HF
  clear ha2 HFa
  go_wp2_with fail
  refine HF.out.mono ?_
  rintro e w4 ⟨rfl, hb4⟩
  have HB4 := Lib.hid (bt HB3.out hb4)
  have HX4 := Lib.hid (HX3.out.kept hb4)
  clear hb4 HB3 HX3 HF
  obtain ⟨a3, ha3⟩ : ∃ x, x = decide (Few b) := ⟨_, rfl⟩
  have HF := Lib.hid (HFb.out w4 HB4.out)
  rw [← ha3] at HF
  clear ha3 HFb
  go_wp2_with fail
  refine HF.out.mono ?_
  rintro e w5 ⟨rfl, hb5⟩
  have HB5 := Lib.hid (bt HB4.out hb5)
  have HX5 := Lib.hid (HX4.out.kept hb5)
  clear hb5 HB4 HX4 HF
  obtain ⟨a4, g4⟩ : ∃ x, decide ((5 : Int) < (n1 : Int)) = x := ⟨_, rfl⟩
  obtain ⟨a5, g5⟩ : ∃ x, decide ((5 : Int) < (n2 : Int)) = x := ⟨_, rfl⟩
  have hways : (a1 = false ∨ (a1 = true ∧ a2 = false) ∨ (a1 = true ∧ a2 = true ∧ a3 = false) ∨ (a1 = true ∧ a2 = true ∧ a3 = true ∧ a4 = true) ∨ (a1 = true ∧ a2 = true ∧ a3 = true ∧ a4 = false ∧ a5 = true)) ∨ (a1 = true ∧ a2 = true ∧ a3 = true ∧ a4 = false ∧ a5 = false) := by
    clear g4 g5
    cases a1 <;> cases a2 <;> cases a3 <;> cases a4 <;> cases a5 <;> simp
  rcases hways with hbad | ⟨rfl, rfl, rfl, rfl, rfl⟩
  · rcases hbad with rfl | ⟨rfl, rfl⟩ | ⟨rfl, rfl, rfl⟩ | ⟨rfl, rfl, rfl, rfl⟩ | ⟨rfl, rfl, rfl, rfl, rfl⟩
    all_goals
      go_wp2_with fail
      go_ret
      exact ⟨ret_v (x := .bool true) rfl, HB5.out⟩
  · have hm1 : n1 ≤ 5 := by rw [decide_eq_false_iff_not] at g4; omega
    have hm2 : n2 ≤ 5 := by rw [decide_eq_false_iff_not] at g5; omega
    obtain ⟨⟨p0, p1, p2⟩, _⟩ := HX5.out
    go_wp2_with fail
    refine (HEa.out w5 HB5.out).mono ?_
    rintro e w6 ⟨rfl, hb6⟩
    have ha6 := (Below.refl w6.heap.size w6).alloc (Nat.le_refl _) (.cells #[.int .i64 yk, .int .i64 yn, .string ys] 38)
    have HB6 := Lib.hid (bt HB5.out (bt hb6 ha6))
    have HX6 := Lib.hid (HX5.out.kept (bt hb6 ha6))
    have HY6 := Lib.hid (bx_new_t w6 38 (.int .i64 yk) (.int .i64 yn) (.string ys))
    clear hb6 ha6 p0 p1 p2 HB5 HX5 HEa
    obtain ⟨⟨p0, p1, p2⟩, _⟩ := HX6.out
    go_wp2_with fail
    obtain ⟨v6, hv6⟩ : ∃ v, v = w6.alloc (.cells #[.int .i64 yk, .int .i64 yn, .string ys] 38) := ⟨_, rfl⟩
    rw [← hv6] at HB6 HX6 HY6 ⊢
    clear hv6
    refine (HEb.out v6 HB6.out).mono ?_
    rintro e w7 ⟨rfl, hb7⟩
    have ha7 := (Below.refl w7.heap.size w7).alloc (Nat.le_refl _) (.cells #[.int .i64 zk, .int .i64 zn, .string zs] 38)
    have HB7 := Lib.hid (bt HB6.out (bt hb7 ha7))
    have HX7 := Lib.hid (HX6.out.kept (bt hb7 ha7))
    have HY7 := Lib.hid (HY6.out.kept (bt hb7 ha7))
    obtain ⟨⟨z0, z1, z2⟩, _⟩ := bx_new_t w7 38 (.int .i64 zk) (.int .i64 zn) (.string zs)
    obtain ⟨⟨y0, y1, y2⟩, _⟩ := HY7.out
    clear hb7 ha7 p0 p1 p2 HB6 HX6 HY6 HEb
    obtain ⟨⟨p0, p1, p2⟩, _⟩ := HX7.out
    obtain ⟨d1, q1⟩ : ∃ x, (yr == 0) = x := ⟨_, rfl⟩
    obtain ⟨d2, q2⟩ : ∃ x, (zr == 0) = x := ⟨_, rfl⟩
    obtain ⟨d3, q3⟩ : ∃ x, (yk == 1) = x := ⟨_, rfl⟩
    obtain ⟨d4, q4⟩ : ∃ x, (zk == 1) = x := ⟨_, rfl⟩
    have hways : (d1 = false ∨ (d1 = true ∧ d2 = false) ∨ (d1 = true ∧ d2 = true ∧ d3 = false) ∨ (d1 = true ∧ d2 = true ∧ d3 = true ∧ d4 = false)) ∨ (d1 = true ∧ d2 = true ∧ d3 = true ∧ d4 = true) := by
      clear q1 q2 q3 q4
      cases d1 <;> cases d2 <;> cases d3 <;> cases d4 <;> simp
    rcases hways with hbad | ⟨rfl, rfl, rfl, rfl⟩
    · rcases hbad with rfl | ⟨rfl, rfl⟩ | ⟨rfl, rfl, rfl⟩ | ⟨rfl, rfl, rfl, rfl⟩
      all_goals
        simp only [beq_iff_eq, beq_eq_false_iff_ne] at q1 q2 q3 q4
        try subst q1
        try subst q2
        try subst q3
        go_wp2_with fail
        go_ret
        exact ⟨ret_v (x := .bool true) rfl, HB7.out⟩
    · obtain rfl : yr = 0 := by simpa using q1
      obtain rfl : zr = 0 := by simpa using q2
      obtain rfl : yk = 1 := by simpa using q3
      obtain rfl : zk = 1 := by simpa using q4
      obtain ⟨l1, l2, l3⟩ := HBo.out rfl rfl rfl rfl hm1 hm2 may_vals
      obtain ⟨x, hx⟩ : ∃ x, x = holds ⟨nm, t, vs⟩ a := ⟨_, rfl⟩
      obtain ⟨y, hy⟩ : ∃ y, y = holds ⟨nm, t, vs⟩ b := ⟨_, rfl⟩
      rw [← hx] at l1 l2 l3
      rw [← hy] at l2 l3
      simp only [← hx] at HHa
      simp only [← hy] at HHb
      have HL1 := Lib.hid l1
      have HL2 := Lib.hid l2
      have HL3 := Lib.hid l3
      clear q1 q2 q3 q4 l1 l2 l3 hx hy HBo g4 g5
      go_wp2_with fail
      clear z0 z1 z2 y0 y1 y2 HY7
      obtain ⟨v7, hv7⟩ : ∃ v, v = w7.alloc (.cells #[.int .i64 1, .int .i64 zn, .string zs] 38) := ⟨_, rfl⟩
      rw [← hv7] at HB7 HX7 p0 p1 p2 ⊢
      clear hv7
      refine (HHa.out v7 HB7.out).mono ?_
      rintro e w8 ⟨rfl, hb8⟩
      have HB8 := Lib.hid (bt HB7.out hb8)
      have HX8 := Lib.hid (HX7.out.kept hb8)
      clear hb8 HB7 HX7 p0 p1 p2 HHa
      obtain ⟨⟨p0, p1, p2⟩, _⟩ := HX8.out
      go_wp2_with fail
      refine (HHb.out w8 HB8.out).mono ?_
      rintro e w9 ⟨rfl, hb9⟩
      have HB9 := Lib.hid (bt HB8.out hb9)
      have HX9 := Lib.hid (HX8.out.kept hb9)
      have HA9 := Lib.hid (HA.out.kept HB9.out)
      clear hb9 HB8 HX8 p0 p1 p2 HHb
      go_wp2_with (at_builtin; refine wp_append_o rfl (.const (.slice none 0 0)) (.tmp 87) rfl w9.heap.size (.slice none 0 0) 0 [] rfl (World.ownsRow_nil _ _ _ _) A n1 c1 a rfl HLa.out.symm HA9.out (by omega) (Nat.le_refl _) ?_; intro u1 m1 hown1 hgrow1; refine pause ?_)
      simp only [Nat.zero_add, List.nil_append] at hown1
      have hbm1 : Below w9.heap.size w9 m1 := (Below.refl _ _).grown hgrow1 (Nat.le_refl _) (fun _ h => by cases h)
      have ham1 := (Below.refl m1.heap.size m1).alloc (Nat.le_refl _) (.cells #[.int .i64 9, .int .i64 0, .int .i64 0, .int .i64 0, .string ⟨#[]⟩] 52)
      have HOm1 := Lib.hid (RegA.own_below hown1 ham1)
      have HNm1 := Lib.hid (slO_one m1 (codeO 9) (fin_code (by decide) (by decide)))
      have HBm1 := Lib.hid (bt hbm1 ham1)
      have hzm1 := HBm1.out.size
      clear hown1 hgrow1 hbm1 ham1
      unfold Pause
      go_wp2_with (at_builtin; refine wp_append_o rfl (.tmp 88) (.tmp 90) rfl w9.heap.size u1 n1 a rfl HOm1.out (some ⟨m1.heap.size, 0, none⟩) 1 1 [codeO 9] rfl rfl HNm1.out (by omega) hzm1 ?_; intro t1 r1 hownr1 hgrowr1; refine pause ?_)
      have hbr1 : Below w9.heap.size w9 r1 := HBm1.out.grown hgrowr1 hzm1 (fun q hq => (HOm1.out.lt q hq).1)
      obtain ⟨P1, d1, rfl, hl1, hP1, _⟩ := own_slO hownr1 (fin_app HA.out.2 (fin_one (by decide) (by decide)))
      obtain ⟨k1, hk1⟩ : ∃ k, k = (a ++ [codeO 9]).length := ⟨_, rfl⟩
      rw [← hk1] at hl1 ⊢
      have HBr1 := Lib.hid hbr1
      have HKl1 := Lib.hid hk1
      have HPr1 := Lib.hid hP1
      clear hownr1 hgrowr1 hbr1 hk1 hP1 hl1 HOm1 HNm1 HBm1 hzm1
      unfold Pause
      have HA10 := Lib.hid (HA9.out.kept HBr1.out)
      go_wp2_with (at_builtin; refine wp_append_o rfl (.const (.slice none 0 0)) (.tmp 92) rfl r1.heap.size (.slice none 0 0) 0 [] rfl (World.ownsRow_nil _ _ _ _) A n1 c1 a rfl HLa.out.symm HA10.out (by omega) (Nat.le_refl _) ?_; intro u2 m2 hown2 hgrow2; refine pause ?_)
      simp only [Nat.zero_add, List.nil_append] at hown2
      have hbm2 : Below r1.heap.size r1 m2 := (Below.refl _ _).grown hgrow2 (Nat.le_refl _) (fun _ h => by cases h)
      have HB11 := Lib.hid (HB.out.kept (bt HB9.out (bt HBr1.out hbm2)))
      have HOm2 := Lib.hid hown2
      have HBm2 := Lib.hid hbm2
      have hzm2 := hbm2.size
      clear hown2 hgrow2 hbm2
      unfold Pause
      go_wp2_with (at_builtin; refine wp_append_o rfl (.tmp 93) (.tmp 94) rfl r1.heap.size u2 n1 a rfl HOm2.out B n2 c2 b rfl HLb.out.symm HB11.out (by omega) hzm2 ?_; intro t2 r2 hownr2 hgrowr2; refine pause ?_)
      have hbr2 : Below r1.heap.size r1 r2 := HBm2.out.grown hgrowr2 hzm2 (fun q hq => (HOm2.out.lt q hq).1)
      obtain ⟨P2, d2, rfl, hl2, hP2, _⟩ := own_slO hownr2 (fin_app HA.out.2 HB.out.2)
      obtain ⟨k2, hk2⟩ : ∃ k, k = (a ++ b).length := ⟨_, rfl⟩
      rw [← hk2] at hl2 ⊢
      have hl2' : k2 ≤ 10 := by omega
      have HBr2 := Lib.hid hbr2
      have HKl2 := Lib.hid hk2
      have HPr2 := Lib.hid hP2
      clear hownr2 hgrowr2 hbr2 hk2 hP2 hl2 HOm2 HBm2 hzm2
      unfold Pause
      go_wp2_with (at_builtin; refine wp_append_o rfl (.const (.slice none 0 0)) (.tmp 96) rfl r2.heap.size (.slice none 0 0) 0 [] rfl (World.ownsRow_nil _ _ _ _) P2 k2 d2 (a ++ b) rfl HKl2.out.symm HPr2.out (by omega) (Nat.le_refl _) ?_; intro u3 m3 hown3 hgrow3; refine pause ?_)
      simp only [Nat.zero_add, List.nil_append] at hown3
      have hbm3 : Below r2.heap.size r2 m3 := (Below.refl _ _).grown hgrow3 (Nat.le_refl _) (fun _ h => by cases h)
      have ham3 := (Below.refl m3.heap.size m3).alloc (Nat.le_refl _) (.cells #[.int .i64 7, .int .i64 0, .int .i64 0, .int .i64 0, .string ⟨#[]⟩] 52)
      have HOm3 := Lib.hid (RegA.own_below hown3 ham3)
      have HNm3 := Lib.hid (slO_one m3 (codeO 7) (fin_code (by decide) (by decide)))
      have HBm3 := Lib.hid (bt hbm3 ham3)
      have hzm3 := HBm3.out.size
      clear hown3 hgrow3 hbm3 ham3
      unfold Pause
      go_wp2_with (at_builtin; refine wp_append_o rfl (.tmp 97) (.tmp 99) rfl r2.heap.size u3 k2 (a ++ b) rfl HOm3.out (some ⟨m3.heap.size, 0, none⟩) 1 1 [codeO 7] rfl rfl HNm3.out (by omega) hzm3 ?_; intro t3 r3 hownr3 hgrowr3; refine pause ?_)
      have hbr3 : Below r2.heap.size r2 r3 := HBm3.out.grown hgrowr3 hzm3 (fun q hq => (HOm3.out.lt q hq).1)
      obtain ⟨P3, d3, rfl, hl3, hP3, _⟩ := own_slO hownr3 (fin_app HPr2.out.2 (fin_one (by decide) (by decide)))
      obtain ⟨k3, hk3⟩ : ∃ k, k = ((a ++ b) ++ [codeO 7]).length := ⟨_, rfl⟩
      rw [← hk3] at hl3 ⊢
      have HBr3 := Lib.hid hbr3
      have HKl3 := Lib.hid hk3
      have HPr3 := Lib.hid hP3
      clear hownr3 hgrowr3 hbr3 hk3 hP3 hl3 HOm3 HNm3 HBm3 hzm3
      unfold Pause
      have HP10 := Lib.hid (HPr2.out.kept HBr3.out)
      go_wp2_with (at_builtin; refine wp_append_o rfl (.const (.slice none 0 0)) (.tmp 101) rfl r3.heap.size (.slice none 0 0) 0 [] rfl (World.ownsRow_nil _ _ _ _) P2 k2 d2 (a ++ b) rfl HKl2.out.symm HP10.out (by omega) (Nat.le_refl _) ?_; intro u4 m4 hown4 hgrow4; refine pause ?_)
      simp only [Nat.zero_add, List.nil_append] at hown4
      have hbm4 : Below r3.heap.size r3 m4 := (Below.refl _ _).grown hgrow4 (Nat.le_refl _) (fun _ h => by cases h)
      have ham4 := (Below.refl m4.heap.size m4).alloc (Nat.le_refl _) (.cells #[.int .i64 8, .int .i64 0, .int .i64 0, .int .i64 0, .string ⟨#[]⟩] 52)
      have HOm4 := Lib.hid (RegA.own_below hown4 ham4)
      have HNm4 := Lib.hid (slO_one m4 (codeO 8) (fin_code (by decide) (by decide)))
      have HBm4 := Lib.hid (bt hbm4 ham4)
      have hzm4 := HBm4.out.size
      clear hown4 hgrow4 hbm4 ham4
      unfold Pause
      go_wp2_with (at_builtin; refine wp_append_o rfl (.tmp 102) (.tmp 104) rfl r3.heap.size u4 k2 (a ++ b) rfl HOm4.out (some ⟨m4.heap.size, 0, none⟩) 1 1 [codeO 8] rfl rfl HNm4.out (by omega) hzm4 ?_; intro t4 r4 hownr4 hgrowr4; refine pause ?_)
      have hbr4 : Below r3.heap.size r3 r4 := HBm4.out.grown hgrowr4 hzm4 (fun q hq => (HOm4.out.lt q hq).1)
      obtain ⟨P4, d4, rfl, hl4, hP4, _⟩ := own_slO hownr4 (fin_app HPr2.out.2 (fin_one (by decide) (by decide)))
      obtain ⟨k4, hk4⟩ : ∃ k, k = ((a ++ b) ++ [codeO 8]).length := ⟨_, rfl⟩
      rw [← hk4] at hl4 ⊢
      have HBr4 := Lib.hid hbr4
      have HKl4 := Lib.hid hk4
      have HPr4 := Lib.hid hP4
      clear hownr4 hgrowr4 hbr4 hk4 hP4 hl4 HOm4 HNm4 HBm4 hzm4
      unfold Pause
      have hB := bt HBr1.out (bt HBr2.out (bt HBr3.out HBr4.out))
      have HBz := Lib.hid (bt HB9.out hB)
      have HXz := Lib.hid (HX9.out.kept hB)
      have HPz1 := Lib.hid (HPr1.out.kept (bt HBr2.out (bt HBr3.out HBr4.out)))
      have HPz3 := Lib.hid (HPr3.out.kept HBr4.out)
      have HPz4 := Lib.hid HPr4.out
      clear hB HBr1 HBr2 HBr3 HBr4 HPr1 HPr2 HPr3 HPr4 HP10 HA9 HA10 HB11 HA HB HB9 HX9 HKl2
      have hh1 := fun w (h : Below r4.heap.size r4 w) => HHo.out _ _ _ w (bt HBz.out h) (HPz1.out.kept h)
      have hh3 := fun w (h : Below r4.heap.size r4 w) => HHo.out _ _ _ w (bt HBz.out h) (HPz3.out.kept h)
      have hh4 := fun w (h : Below r4.heap.size r4 w) => HHo.out _ _ _ w (bt HBz.out h) (HPz4.out.kept h)
      simp only [← HKl1.out, show holds ⟨nm, t, vs⟩ (a ++ [codeO 9]) = _ from HL1.out] at hh1
      simp only [← HKl3.out, show holds ⟨nm, t, vs⟩ (a ++ b ++ [codeO 7]) = _ from HL2.out] at hh3
      simp only [← HKl4.out, show holds ⟨nm, t, vs⟩ (a ++ b ++ [codeO 8]) = _ from HL3.out] at hh4
      have HH1 := Lib.hid hh1
      have HH3 := Lib.hid hh3
      have HH4 := Lib.hid hh4
      clear hh1 hh3 hh4 HKl1 HKl3 HKl4 HPz1 HPz3 HPz4 HL1 HL2 HL3 HHo
      obtain ⟨⟨p0, p1, p2⟩, _⟩ := HXz.out
      go_wp2_with fail
      refine (HH1.out r4 (Below.refl _ _)).mono ?_
      rintro e w11 ⟨rfl, hb11⟩
      have HB11 := Lib.hid hb11
      have HX11 := Lib.hid (HXz.out.kept hb11)
      clear hb11 p0 p1 p2
      obtain ⟨⟨p0, p1, p2⟩, _⟩ := HX11.out
      cases x <;> cases y
      all_goals
        simp only [Bool.not_true, Bool.not_false, Bool.and_true, Bool.and_false, Bool.or_true, Bool.or_false, Bool.and_self, Bool.or_self] at HH3 HH4 ⊢
        go_wp2_with fail
        refine (HH3.out w11 HB11.out).mono ?_
        rintro e w12 ⟨rfl, hb12⟩
        have HB12 := Lib.hid (bt HB11.out hb12)
        have HX12 := Lib.hid (HX11.out.kept hb12)
        clear hb12 p0 p1 p2
        obtain ⟨⟨p0, p1, p2⟩, _⟩ := HX12.out
        go_wp2_with fail
        refine (HH4.out w12 HB12.out).mono ?_
        rintro e w13 ⟨rfl, hb13⟩
        have HB13 := Lib.hid (bt HBz.out (bt HB12.out hb13))
        clear hb13 p0 p1 p2
        go_wp2_with fail
        go_ret
        exact ⟨ret_v (x := .bool true) rfl, HB13.out⟩
end Go.Proofs.Ytbjgflinggelpaa.Ex

namespace Go.Proofs.Ytbjgflinggelpaa.exprNot
open Go.ChangeShapes Go.WideShapes Go.ChangeAt Go.RowKit

theorem own : ownKnob Try.prog.godebug = none := by kernel_rfl
theorem laidOut : laidOutB Try.prog = true := by kernel_rfl

set_option maxRecDepth 100000 in
theorem lifted (os : Os) (started : os.Started) (H : Type) (enc : TypeId × Value → H) :
    ReturnsInHanded {} Try.checked os 7 .any (Rows.exprNotSpec.pre6 enc Try.prog Try.f7 Rows.exprNotRow.domain false) (Rows.exprNotSpec.post enc Try.prog Try.f7 false true false false) := by
  refine returnsInHanded_of_change (C := Try.checked) own started (by kernel_rfl) Try.func7
    (ChangeSpec.witness6 (enc := enc) (C := Try.checked) false ⟨#[], #[.agg #[.string ⟨#[]⟩, .int .i64 0, .slice none 0 0], .slice none 0 0, .slice none 0 0], []⟩ 8 (by kernel_rfl) (by kernel_rfl) (by kernel_rfl) (by kernel_rfl)) ?_
  intro W base args ds gs before hval0 hW hcnd _
  have hval : ∀ (j : Nat) t v, Try.f7.params[j]? = some t → args[j]? = some v → Value.okWide Try.prog W .any base t v := hval0
  have hW' := hW
  obtain ⟨p, q, hA0, hV, rfl, hfz, hnd⟩ := hW
  have hA : DataW.TrodAll enc Try.prog W 0 (fun _ => true) true Try.f7.params.toList args.toList ds p := hA0
  rw [Try.params7] at hA hval
  obtain ⟨v0, vs0, d0, ds0, p0, q0, hargs, rfl, rfl, h0, r0⟩ := trodAll_cons hA
  obtain ⟨v1, vs1, d1, ds1, p1, q1, rfl, rfl, rfl, h1, r1⟩ := trodAll_cons r0
  obtain ⟨v2, vs2, d2, ds2, p2, q2, rfl, rfl, rfl, h2, r2⟩ := trodAll_cons r1
  obtain ⟨rfl, rfl, rfl⟩ := trodAll_nil r2
  obtain rfl : args = #[v0, v1, v2] := by cases args; simp_all
  obtain ⟨rfl, rfl⟩ := trodVars_none hV
  have k0 := h0
  have lt0 : ∀ x ∈ p0, x.block < W.heap.size := by obtain ⟨m, hm⟩ := k0; exact DataW.trod_lt m _ _ _ hm
  obtain ⟨ss0, nn0, a0, len0, cap0, rfl, w0⟩ := Op.open_event (hval 0 27 v0 rfl rfl) h0
  have k1 := h1
  have lt1 : ∀ x ∈ p1, x.block < W.heap.size := by obtain ⟨m, hm⟩ := k1; exact DataW.trod_lt m _ _ _ hm
  obtain ⟨a1, len1, cap1, rfl, w1⟩ := Op.open_ops (hval 1 28 v1 rfl rfl) h1
  have k2 := h2
  have lt2 : ∀ x ∈ p2, x.block < W.heap.size := by obtain ⟨m, hm⟩ := k2; exact DataW.trod_lt m _ _ _ hm
  obtain ⟨a2, len2, cap2, rfl, w2⟩ := Op.open_ops (hval 2 28 v2 rfl rfl) h2
  clear hA0 hval0
  refine (Go.Proofs.Ytbjgflinggelpaa.Ex.not_walk ss0 nn0 a0 len0 cap0 a1 len1 cap1 a2 len2 cap2 W w0 w1 w2).mono fun e W' ⟨he, bel⟩ => ?_
  subst he
  exact ⟨_, rfl, _, _, _, [], _, [], hW', trodAll_mk1 (shut_bool Try.underlying4 _), (trodAll_cons_mk (Below.trod laidOut (by kernel_rfl) (of_decide_eq_true (by kernel_rfl)) k0 bel lt0) (trodAll_cons_mk (Below.trod laidOut (by kernel_rfl) (of_decide_eq_true (by kernel_rfl)) k1 bel lt1) (trodAll_cons_mk (Below.trod laidOut (by kernel_rfl) (of_decide_eq_true (by kernel_rfl)) k2 bel lt2) trodAll_mk0))), rfl, bel.frame _, fun h => by cases h⟩

theorem over : Rows.exprNotRow.holds Try.pinned (OpenSpec.ofChange Rows.exprNotSpec) :=
  OpenClaim.holds_of_wide 7 Try.f7 rfl rfl rfl rfl rfl rfl rfl ⟨rfl, rfl, rfl, rfl, rfl⟩ rfl rfl rfl rfl rfl (by kernel_rfl) Try.func7 (by kernel_rfl)
    (of_decide_eq_true (by kernel_rfl)) (by unfold Func.isWrapper; first | (rw [if_pos (by decide +kernel)]; kernel_rfl) | (rw [if_neg (by decide +kernel)]; exact ⟨rfl, rfl⟩))
    (fun os started H enc _ => lifted os started H enc)

theorem proved : Rows.ExprNotSaid := over
#print axioms proved
end Go.Proofs.Ytbjgflinggelpaa.exprNot
