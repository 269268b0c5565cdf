/- ExprForm: for every input the law returns true, and each argument reads afterwards as it read before. No condition.
  The walk is the theorem Go.Proofs.Ytbjgflinggelpaa.Ex.form_walk. -/
import Derived.Test.YtbjgflinggelpaaEventMath
import Derived.Test.YtbjgflinggelpaaValueRow
import Derived.Test.YtbjgflinggelpaaBx
import Derived.Test.YtbjgflinggelpaaStrCore
import Derived.Test.YtbjgflinggelpaaRows
import Derived.Test.YtbjgflinggelpaaChA
import Derived.Lib.SmallJoins
import Derived.Deep.Slices
import Derived.ShutString
import Derived.OpenShut
import Derived.Test.YtbjgflinggelpaaChB
import Derived.BigQuiet
import Derived.Test.YtbjgflinggelpaaValueHeld
import Derived.WalkKit
import Derived.ProofKit
import Derived.ChangeOld
import Derived.Below

namespace Go.Proofs.Ytbjgflinggelpaa.Ev
open Go.RowKit Go.Proofs.Ytbjgflinggelpaa.BM Go.Proofs.Ytbjgflinggelpaa.EvM
open Go.Proofs.Ytbjgflinggelpaa.VaM (V)
open Go.Proofs.Ytbjgflinggelpaa.Va (SlV slV_len bx_new_t Bx ret_v)

/-- An event of few values. -/
def Few (e : Ev) : Prop := e.s.size ≤ 60 ∧ e.v.length ≤ 10 ∧ ∀ i, i < e.v.length → (e.v.getD i v0).s.size ≤ 100
instance (e : Ev) : Decidable (Few e) := by unfold Few; infer_instance

set_option maxRecDepth 100000 in
set_option maxHeartbeats 1000000 in
theorem Few_any (e : Ev) (A : Option Addr) (c : Nat) (w : World) (hS : SlV w A e.v c) (hz : e.s.size ≤ maxLen) :
    Calls Try.prog 13 #[.agg #[.string e.s, .int .i64 e.t, .slice A e.v.length c]] w fun r w' => r = .returned (.bool (decide (Few e))) ∧ Below w.heap.size w w' := by
  obtain ⟨nm, v, l⟩ := e
  simp only at hS hz ⊢
  unfold maxLen at hz
  have hl := slV_len hS
  have hfew : Few ⟨nm, v, l⟩ ↔ nm.size ≤ 60 ∧ l.length ≤ 10 ∧ ∀ i, i < l.length → (l.getD i v0).s.size ≤ 100 := Iff.rfl
  obtain ⟨n, hn⟩ : ∃ n, n = l.length := ⟨_, rfl⟩
  rw [← hn] at hl hfew ⊢
  have HLen := Lib.hid hn
  have HS := Lib.hid hS
  have HFew := Lib.hid hfew
  have HX0 := Lib.hid (bx_new_t w 27 (.string nm) (.int .i64 v) (.slice A n c))
  have HB0 := Lib.hid ((Below.refl w.heap.size w).alloc (Nat.le_refl _) (.cells #[.string nm, .int .i64 v, .slice A n c] 27))
  clear hn hS hfew
  obtain ⟨⟨p0, p1, p2⟩, _⟩ := HX0.out
  by_cases m1 : nm.size ≤ 60
  · have hd1 : decide ((60 : Int) < (nm.size : Int)) = false := by rw [decide_eq_false_iff_not]; omega
    by_cases m2 : n ≤ 10
    · have hd2 : decide ((10 : Int) < (n : Int)) = false := by rw [decide_eq_false_iff_not]; omega
      have HF := Lib.hid (show Few ⟨nm, v, l⟩ ↔ ∀ i, i < n → (l.getD i v0).s.size ≤ 100 from ⟨fun h => (HFew.out.1 h).2.2, fun h => HFew.out.2 ⟨m1, m2, h⟩⟩)
      clear m1 HFew
      go_enter Try.func13, Try.ntmps13
      go_wp2_with fail
      obtain ⟨w1, hw1⟩ : ∃ w1, w1 = w.alloc (.cells #[.string nm, .int .i64 v, .slice A n c] 27) := ⟨_, rfl⟩
      rw [← hw1] at HX0 HB0 ⊢
      clear hw1 p0 p1 p2
      go_loopw [3] (fun i wr => ∃ j : Nat, i = .int .i64 j ∧ j ≤ n ∧ (∀ r, r < j → (l.getD r v0).s.size ≤ 100) ∧ wr = w1) (fun i _ => n - (intOf i).toNat)
      case atStart => exact ⟨0, rfl, Nat.zero_le _, fun r hr => absurd hr (Nat.not_lt_zero r), rfl⟩
      case round =>
        obtain ⟨j, rfl, hj, hall, rfl⟩ := hrel
        have HAl := Lib.hid hall
        obtain ⟨⟨_, _, p2⟩, _⟩ := HX0.out
        clear hall
        by_cases hjn : j < n
        · obtain ⟨b, q, hix, hc, hsz, _⟩ := HS.out.at v0 j (by rw [← HLen.out]; exact hjn)
          obtain ⟨⟨fk, fn, fs⟩, hf⟩ : ∃ f, f = l.getD j v0 := ⟨_, rfl⟩
          rw [← hf] at hc hsz
          obtain ⟨_, _, c0⟩ := hc wr HB0.out
          simp only at c0 hsz
          unfold maxLen at hsz
          have hi := fun W => hix W n c hjn
          have HFl := Lib.hid hf
          clear hc hix hf
          by_cases h60 : fs.size ≤ 100
          · have hd3 : decide ((100 : Int) < (fs.size : Int)) = false := by rw [decide_eq_false_iff_not]; omega
            have HY := Lib.hid h60
            clear h60
            go_wp2_with fail
            go_roundw
            case rel =>
              refine ⟨j + 1, by go_num, by omega, fun r hr => ?_, by trivial⟩
              by_cases e : r = j
              · rw [e, ← HFl.out]
                exact HY.out
              · exact HAl.out r (by omega)
            case measure => simp [intOf]; omega
          · have hd3 : decide ((100 : Int) < (fs.size : Int)) = true := by rw [decide_eq_true_iff]; omega
            have HNo := Lib.hid (show ¬ Few ⟨nm, v, l⟩ from fun h => h60 (by have := HF.out.1 h j hjn; rw [← HFl.out] at this; exact this))
            clear h60
            go_wp2_with fail
            go_ret
            exact ⟨ret_v (x := .bool false) (by rw [decide_eq_false HNo.out]), HB0.out⟩
        · obtain rfl : j = n := by omega
          have HYes := Lib.hid (HF.out.2 HAl.out)
          go_wp2_with fail
          go_ret
          exact ⟨ret_v (x := .bool true) (by rw [decide_eq_true HYes.out]), HB0.out⟩
    · have hd2 : decide ((10 : Int) < (n : Int)) = true := by rw [decide_eq_true_iff]; omega
      have HNo := Lib.hid (show ¬ Few ⟨nm, v, l⟩ from fun h => m2 (HFew.out.1 h).2.1)
      clear m2 m1
      go_enter Try.func13, Try.ntmps13
      go_wp2_with fail
      go_ret
      exact ⟨ret_v (x := .bool false) (by rw [decide_eq_false HNo.out]), HB0.out⟩
  · have hd1 : decide ((60 : Int) < (nm.size : Int)) = true := by rw [decide_eq_true_iff]; omega
    have HNo := Lib.hid (show ¬ Few ⟨nm, v, l⟩ from fun h => m1 (HFew.out.1 h).1)
    clear m1
    go_enter Try.func13, Try.ntmps13
    go_wp2_with fail
    go_ret
    exact ⟨ret_v (x := .bool false) (by rw [decide_eq_false HNo.out]), HB0.out⟩
end Go.Proofs.Ytbjgflinggelpaa.Ev

namespace Go.Proofs.Ytbjgflinggelpaa.Op
open Go.RowKit Go.ChangeShapes Go.WideShapes Go.Proofs.Ytbjgflinggelpaa.Va Go.Proofs.Ytbjgflinggelpaa.VaM Go.Proofs.Ytbjgflinggelpaa.EvM

/-- An event that came in: its values lie where its slice says. -/
def ArgE (W : World) (s : ByteArray) (t : Int) (a : Option Addr) (len cap : Nat) : Prop := ∃ l : List V, l.length = len ∧ SlV W a l cap ∧ Ev.Fine ⟨s, t, l⟩

theorem flat_cells {w : World} {b : Nat} : ∀ (l : List V) (o : Nat), (∀ i, i < l.length → CellV w b (o + i * 3) (l.getD i v0)) → ∀ (j : Nat) (u : Value), (l.flatMap encV)[j]? = some u → w.cell? ⟨b, o + j, none⟩ = some u
  | [], _, _, j, u, h => by simp at h
  | x :: l, o, hc, j, u, h => by
    rw [List.flatMap_cons] at h
    have h0 := hc 0 (by simp)
    rw [Nat.zero_mul, Nat.add_zero, List.getD_cons_zero] at h0
    obtain ⟨c0, c1, c2⟩ := h0
    by_cases hj : j < 3
    · rw [List.getElem?_append_left (by simpa [encV] using hj)] at h
      have hw : j = 0 ∨ j = 1 ∨ j = 2 := by omega
      rcases hw with rfl | rfl | rfl
      · obtain rfl : _ = u := by simpa [encV] using h
        exact c0
      · obtain rfl : _ = u := by simpa [encV] using h
        exact c1
      · obtain rfl : _ = u := by simpa [encV] using h
        exact c2
    · rw [List.getElem?_append_right (by simp only [encV, List.length_cons, List.length_nil]; omega)] at h
      have h2 := flat_cells l (o + 3) (fun i hi => by
        have h3 := hc (i + 1) (by simpa using hi)
        rw [List.getD_cons_succ] at h3
        rw [show o + 3 + i * 3 = o + (i + 1) * 3 from by omega]
        exact h3) (j - 3) u h
      rw [show o + 3 + (j - 3) = o + j from by omega] at h2
      exact h2

theorem elems_flat {w : World} {p : Nat → Prop} : ∀ l : List V, RG.Elems KV p w l (l.flatMap encV)
  | [] => rfl
  | x :: l => ⟨encV x, l.flatMap encV, rfl, rfl, elems_flat l⟩

set_option maxRecDepth 100000 in
theorem open_event {H : Type} {enc : TypeId × Value → H} {W : World} {r : Reach} {b0 : Nat} {v : Value} {d : DataW H} {p : List MemPlace} (hv : Value.okWide Try.prog W r b0 27 v)
    (h : DataW.Trod enc Try.prog W 0 (fun _ => true) true 27 v d p) : ∃ s n a len cap, v = .agg #[.string s, .int .i64 n, .slice a len cap] ∧ ArgE W s n a len cap := by
  obtain ⟨v0, v1, v2, y0, y1, y2, fuel, rfl, _, _, h0, h1, h2⟩ := Joins.open_agg3 Try.underlying27 (by kernel_rfl) (by kernel_rfl) hv h
  obtain ⟨s, hs, _, ws⟩ := DataW.trod_string Try.underlying9 h0
  obtain ⟨n, hn, _, wn⟩ := DataW.trod_int Try.underlying3 h1
  simp only [List.cons.injEq, and_true] at hs hn
  subst hs hn
  have hb := bounds_i64 wn
  rcases Deep.open_slice Try.underlying25 h2 with ⟨hcs, _⟩ | ⟨x, l, c, m, k, D, Pl, hcs, _, hl, hm, hmm, _, hr⟩
  · simp only [List.cons.injEq, and_true] at hcs
    subst hcs
    exact ⟨s, n, none, 0, 0, rfl, [], rfl, slV_none W, ws, by simp only; omega, by simp only; omega⟩
  · simp only [List.cons.injEq, and_true] at hcs
    subst hcs
    simp only [if_true] at hmm
    rw [hmm] at hr
    have each : ∀ i, i < l → ∃ x' : V, (x'.s.size ≤ maxLen ∧ Rng x') ∧ W.cell? (x.add (i * 3)) = some (.int .i64 x'.k) ∧ W.cell? (x.add (i * 3 + 1)) = some (.int .i64 x'.n) ∧ W.cell? (x.add (i * 3 + 2)) = some (.string x'.s) := by
      intro i hi
      obtain ⟨cs', hc, ht⟩ := hr i (by omega)
      rw [show Try.prog.cellsOf 38 = 3 from by kernel_rfl] at hc
      obtain ⟨_, hlen, hcell⟩ := World.cells?_some hc
      match cs', hlen with
      | [v0, v1, v2], _ =>
        obtain ⟨y0, y1, y2, k, _, _, t0, t1, t2⟩ := Deep.trod_struct3 Try.underlying38 ht
        have c1 : Try.prog.cellsOf 3 = 1 := by kernel_rfl
        have c2 : Try.prog.cellsOf 9 = 1 := by kernel_rfl
        simp only [c1] at t0 t1
        simp only [c2] at t2
        obtain ⟨n0, e0', _, _⟩ := DataW.trod_int Try.underlying3 t0
        obtain ⟨n1, e1', _, w1⟩ := DataW.trod_int Try.underlying3 t1
        obtain ⟨s, e2', _, w2⟩ := DataW.trod_string Try.underlying9 t2
        simp only [List.drop_zero, List.drop_succ_cons, List.take_succ_cons, List.take_zero, List.cons.injEq, and_true] at e0' e1' e2'
        subst e0' e1' e2'
        have g0 := hcell 0 (by decide)
        have g1 := hcell 1 (by decide)
        have g2 := hcell 2 (by decide)
        have hb := bounds_i64 w1
        refine ⟨⟨n0, n1, s⟩, ⟨w2, by simp only; omega, by simp only; omega⟩, ?_, ?_, ?_⟩
        · rw [Deep.add_add, Nat.add_zero] at g0
          exact g0
        · rw [Deep.add_add] at g1
          exact g1
        · rw [Deep.add_add] at g2
          exact g2
    let g : Nat → V := fun i => if h : i < l then Classical.choose (each i h) else EvM.v0
    have hg : ∀ i, i < l → ((g i).s.size ≤ maxLen ∧ Rng (g i)) ∧ W.cell? (x.add (i * 3)) = some (.int .i64 (g i).k) ∧ W.cell? (x.add (i * 3 + 1)) = some (.int .i64 (g i).n) ∧ W.cell? (x.add (i * 3 + 2)) = some (.string (g i).s) := by
      intro i hi
      have e : g i = Classical.choose (each i hi) := dif_pos hi
      rw [e]
      exact Classical.choose_spec (each i hi)
    have hgl : ((List.range l).map g).length = l := by simp
    have hgd : ∀ i, i < l → ((List.range l).map g).getD i EvM.v0 = g i := fun i hi => by simp [List.getD_eq_getElem?_getD, hi]
    refine ⟨s, n, some x, l, c, rfl, (List.range l).map g, hgl, ⟨⟨⟨((List.range l).map g).flatMap encV, fun h0 => ?_, elems_flat _⟩, by rw [hgl]; exact hl, (fun e => by cases e), hm⟩, fun f hf => ?_⟩, ws, by simp only; omega, by simp only; omega⟩
    · have hl0 : 0 < l := by
        rcases Nat.eq_zero_or_pos l with e | e
        · subst e
          simp at h0
        · exact e
      obtain ⟨b, o, sp⟩ := x
      have hsp : sp = none := by simpa [Addr.add] using World.cell?_spot (hg 0 hl0).2.1
      subst hsp
      refine ⟨b, o, rfl, flat_cells _ o fun i hi => ?_⟩
      rw [hgl] at hi
      rw [hgd i hi]
      obtain ⟨_, g1, g2, g3⟩ := hg i hi
      rw [Addr.add_lit] at g1 g2 g3
      exact ⟨g1, g2, g3⟩
    · obtain ⟨i, hi, rfl⟩ := List.mem_map.1 hf
      exact (hg i (List.mem_range.1 hi)).1
end Go.Proofs.Ytbjgflinggelpaa.Op

namespace Go.Proofs.Ytbjgflinggelpaa.Ex
open Go.RowKit Go.Proofs.Ytbjgflinggelpaa.BM Go.Proofs.Ytbjgflinggelpaa.LM Go.Proofs.Ytbjgflinggelpaa.VaM Go.Proofs.Ytbjgflinggelpaa.Va Go.Proofs.Ytbjgflinggelpaa.ExM Go.Proofs.Ytbjgflinggelpaa.EvM

/-- One part. -/
theorem slO_one (w : World) (x : O) (hx : Fin x) : SlO (w.alloc (.cells #[.int .i64 x.c, .int .i64 x.a, .int .i64 x.v.k, .int .i64 x.v.n, .string x.v.s] 52)) (some ⟨w.heap.size, 0, none⟩) [x] 1 :=
  slO_new w [x] (fun y hy => by rw [List.mem_singleton.1 hy]; exact hx) (show 1 ≤ maxLen from by unfold maxLen; decide)

def loadO (i : Int) : O := ⟨1, i, v0⟩
theorem load_may {i : Int} (h0 : 0 ≤ i) (h5 : i ≤ 5) : ExM.May [loadO i] := may_of (fun x hx => by
  rw [List.mem_singleton.1 hx]
  exact ⟨(by decide : (0 : Int) ≤ 1), (by decide : (1 : Int) < 10), h0, (by show i < 6; omega), Or.inl rfl, (show VaM.May v0 from by decide), Or.inr rfl⟩) (show 1 ≤ 12 from by decide)
theorem load_fin {i : Int} (h0 : 0 ≤ i) (h5 : i ≤ 5) : Fin (loadO i) := ⟨Nat.zero_le _, ⟨(by decide : (-9223372036854775808 : Int) ≤ 0), (by decide : (0 : Int) ≤ 9223372036854775807)⟩, ⟨(by decide : (-9223372036854775808 : Int) ≤ 1), (by decide : (1 : Int) ≤ 9223372036854775807)⟩, (by show -9223372036854775808 ≤ i; omega), (by show i ≤ 9223372036854775807; omega)⟩

theorem eval_load {e : Ev} {i : Int} (h0 : 0 ≤ i) (h5 : i ≤ 5) : eval e [loadO i] = if EvM.May e then (if i.toNat < e.v.length then (e.v.getD i.toNat v0, 0) else (v0, 3)) else (v0, 1) := by
  unfold eval
  by_cases h : EvM.May e
  · rw [if_neg (fun k => k ⟨load_may h0 h5, h⟩), if_pos h]
    unfold through
    rw [ExM.run]
    have hs : ExM.step e.v false (loadO i) [] = if i.toNat < e.v.length then .ok ([] ++ [e.v.getD i.toNat v0]) else .error 3 := step_load (o := loadO i) rfl
    rw [hs]
    by_cases g : i.toNat < e.v.length
    · rw [if_pos g, if_pos g]
      rfl
    · rw [if_neg g, if_neg g]
      rfl
  · rw [if_pos (fun k => h k.2), if_neg h]

set_option maxRecDepth 100000 in
set_option maxHeartbeats 4000000 in
theorem loads_walk (nm : ByteArray) (t : Int) (A : Option Addr) (len cap : Nat) (i : Int) (W : World) (h0 : Op.ArgE W nm t A len cap) (_h1 : (Lit.int .i64 i).wf = true) :
    Calls Try.prog 9 #[.agg #[.string nm, .int .i64 t, .slice A len cap], .int .i64 i] W fun e w' => e = .returned (.bool true) ∧ Below W.heap.size W w' := by
  obtain ⟨l, hn, hS, hz⟩ := h0
  subst hn
  have hfew := fun w (h : Below W.heap.size W w) => Ev.Few_any ⟨nm, t, l⟩ A cap w (hS.kept h) hz.1
  have hl := slV_len hS
  obtain ⟨n, hn⟩ : ∃ n, n = l.length := ⟨_, rfl⟩
  simp only [← hn] at hfew
  rw [← hn] at hl ⊢
  have HLen := Lib.hid hn
  have HS := Lib.hid hS
  have HZ := Lib.hid hz
  have HFew := Lib.hid hfew
  have HX1 := Lib.hid (bx_new_t W 27 (.string nm) (.int .i64 t) (.slice A n cap))
  have HB1 := Lib.hid ((Below.refl W.heap.size W).alloc (Nat.le_refl _) (.cells #[.string nm, .int .i64 t, .slice A n cap] 27))
  clear hn hS hz hfew
  go_enter Try.func9, Try.ntmps9
  go_wp2_with fail
  obtain ⟨w1, hw1⟩ : ∃ w1, w1 = W.alloc (.cells #[.string nm, .int .i64 t, .slice A n cap] 27) := ⟨_, rfl⟩
  rw [← hw1] at HX1 HB1 ⊢
  clear hw1
  refine (awake_any w1).mono ?_
  rintro e w2 ⟨rfl, hb2⟩
  have HB2 := Lib.hid (bt HB1.out hb2)
  have HX2 := Lib.hid (HX1.out.kept hb2)
  clear hb2 HB1 HX1
  obtain ⟨⟨p0, p1, p2⟩, _⟩ := HX2.out
  obtain ⟨a1, ha1⟩ : ∃ a, a = decide (Ev.Few ⟨nm, t, l⟩) := ⟨_, rfl⟩
  have HF := Lib.hid (HFew.out w2 HB2.out)
  rw [← ha1] at HF
  clear ha1
  go_wp2_with fail
  refine HF.out.mono ?_
  rintro e w3 ⟨rfl, hb3⟩
  have HB3 := Lib.hid (bt HB2.out hb3)
  have HX3 := Lib.hid (HX2.out.kept hb3)
  clear hb3 HB2 HX2 HF p0 p1 p2
  obtain ⟨⟨p0, p1, p2⟩, _⟩ := HX3.out
  obtain ⟨a2, g2⟩ : ∃ a, decide (i < 0) = a := ⟨_, rfl⟩
  obtain ⟨a3, g3⟩ : ∃ a, decide (5 < i) = a := ⟨_, rfl⟩
  have hways : (a1 = false ∨ (a1 = true ∧ a2 = true) ∨ (a1 = true ∧ a2 = false ∧ a3 = true)) ∨ (a1 = true ∧ a2 = false ∧ a3 = false) := by cases a1 <;> cases a2 <;> cases a3 <;> simp
  rcases hways with hbad | ⟨rfl, rfl, rfl⟩
  · rcases hbad with rfl | ⟨rfl, rfl⟩ | ⟨rfl, rfl, rfl⟩
    all_goals
      go_wp2_with fail
      go_ret
      exact ⟨ret_v (x := .bool true) rfl, HB3.out⟩
  · have hi0 : 0 ≤ i := by rw [decide_eq_false_iff_not] at g2; omega
    have hi5 : i ≤ 5 := by rw [decide_eq_false_iff_not] at g3; omega
    have ha4 := (Below.refl w3.heap.size w3).alloc (Nat.le_refl _) (.cells #[.int .i64 1, .int .i64 i, .int .i64 0, .int .i64 0, .string ⟨#[]⟩] 52)
    have HEv := Lib.hid (Eval_any ⟨nm, t, l⟩ [loadO i] A cap (some ⟨w3.heap.size, 0, none⟩) 1 _ (HS.out.kept (bt HB3.out ha4)) HZ.out (slO_one w3 (loadO i) (load_fin hi0 hi5)))
    have HR := Lib.hid (eval_load (e := ⟨nm, t, l⟩) hi0 hi5)
    have HB4 := Lib.hid (bt HB3.out ha4)
    have HX4 := Lib.hid (HX3.out.kept ha4)
    obtain ⟨R, hR⟩ : ∃ R, R = eval ⟨nm, t, l⟩ [loadO i] := ⟨_, rfl⟩
    rw [← hR] at HEv HR
    simp only [← HLen.out] at HEv
    clear hR ha4
    obtain ⟨⟨k, j, s⟩, r⟩ := R
    unfold TwoV at HEv
    simp only at HEv
    go_wp2_with fail
    refine HEv.out.mono ?_
    rintro e w5 ⟨rfl, hb5⟩
    have ha6 := (Below.refl w5.heap.size w5).alloc (Nat.le_refl _) (.cells #[.int .i64 k, .int .i64 j, .string s] 38)
    have HB6 := Lib.hid (bt HB4.out (bt hb5 ha6))
    have HX6 := Lib.hid (HX4.out.kept (bt hb5 ha6))
    obtain ⟨⟨y0, y1, y2⟩, _⟩ := bx_new_t w5 38 (.int .i64 k) (.int .i64 j) (.string s)
    clear p0 p1 p2 hb5 ha6 HEv HX3 HX4
    obtain ⟨⟨p0, p1, p2⟩, _⟩ := HX6.out
    by_cases hm : EvM.May ⟨nm, t, l⟩
    · have hr := HR.out
      rw [if_pos hm] at hr
      by_cases hlt : i.toNat < n
      · rw [if_pos (by rw [← HLen.out]; exact hlt)] at hr
        have HSk := Lib.hid (HS.out.kept HB6.out)
        obtain ⟨b, q, hix, hc, _⟩ := HSk.out.at v0 i.toNat (by rw [← HLen.out]; exact hlt)
        have hi3 := fun W => hix W n cap hlt
        rw [Int.toNat_of_nonneg hi0] at hi3
        obtain ⟨c0, c1, c2⟩ := hc _ (Below.refl _ _)
        simp only [Prod.mk.injEq] at hr
        obtain ⟨hr1, rfl⟩ := hr
        rw [← hr1] at c0 c1 c2
        simp only at c0 c1 c2
        have hge : decide ((n : Int) ≤ i) = false := by rw [decide_eq_false_iff_not]; omega
        have heq := fun W => eql_v k j k j s s W
        have hsm : same (⟨k, j, s⟩ : V) ⟨k, j, s⟩ = true := same_iff.2 rfl
        simp only [hsm] at heq
        clear hr1 hix hc hm hlt HR hsm
        go_wp2_with fail
        go_quiet (fail)
        go_wp2_with fail
        go_ret
        exact ⟨ret_v (x := .bool true) rfl, below_drewN HB6.out _⟩
      · rw [if_neg (by rw [← HLen.out]; exact hlt)] at hr
        have hge : decide ((n : Int) ≤ i) = true := by rw [decide_eq_true_iff]; omega
        simp only [Prod.mk.injEq] at hr
        obtain ⟨hr1, rfl⟩ := hr
        injection hr1 with h1 h2 h3
        have h4 : s = ⟨#[]⟩ := h3
        subst h1 h2 h4
        clear h3
        clear hm hlt HR
        go_wp2_with fail
        go_ret
        exact ⟨ret_v (x := .bool true) rfl, HB6.out⟩
    · have hr := HR.out
      rw [if_neg hm] at hr
      simp only [Prod.mk.injEq] at hr
      obtain ⟨hr1, rfl⟩ := hr
      injection hr1 with h1 h2 h3
      have h4 : s = ⟨#[]⟩ := h3
      subst h1 h2 h4
      clear h3
      clear hm HR
      go_wp2_with fail
      go_ret
      exact ⟨ret_v (x := .bool true) rfl, HB6.out⟩
end Go.Proofs.Ytbjgflinggelpaa.Ex

namespace Go.Proofs.Ytbjgflinggelpaa.Op
open Go.RowKit Go.ChangeShapes Go.WideShapes

set_option maxRecDepth 100000 in
theorem open_value {H : Type} {enc : TypeId × Value → H} {W : World} {r : Reach} {b0 : Nat} {v : Value} {d : DataW H} {p : List MemPlace} (hv : Value.okWide Try.prog W r b0 38 v)
    (h : DataW.Trod enc Try.prog W 0 (fun _ => true) true 38 v d p) : ∃ k n s, v = .agg #[.int .i64 k, .int .i64 n, .string s] ∧ (Lit.int .i64 k).wf = true ∧ (Lit.int .i64 n).wf = true ∧ s.size ≤ maxLen := by
  obtain ⟨v0, v1, v2, y0, y1, y2, n, rfl, _, _, h0, h1, h2⟩ := Joins.open_agg3 Try.underlying38 (by kernel_rfl) (by kernel_rfl) hv h
  obtain ⟨a, ha, _, wa⟩ := DataW.trod_int Try.underlying3 h0
  obtain ⟨b, hb, _, wb⟩ := DataW.trod_int Try.underlying3 h1
  obtain ⟨s, hs, _, ws⟩ := DataW.trod_string Try.underlying9 h2
  simp only [List.cons.injEq, and_true] at ha hb hs
  subst ha hb hs
  exact ⟨a, b, s, rfl, wa, wb, ws⟩
end Go.Proofs.Ytbjgflinggelpaa.Op

namespace Go.Proofs.Ytbjgflinggelpaa.Ex
open Go.RowKit Go.Proofs.Ytbjgflinggelpaa.BM Go.Proofs.Ytbjgflinggelpaa.LM Go.Proofs.Ytbjgflinggelpaa.VaM Go.Proofs.Ytbjgflinggelpaa.Va Go.Proofs.Ytbjgflinggelpaa.ExM Go.Proofs.Ytbjgflinggelpaa.EvM

/-- An event of no value. -/
def exN : Ev := ⟨⟨#[97]⟩, 0, []⟩
theorem exN_fine : Ev.Fine exN := ⟨by unfold maxLen; decide, by decide, by decide⟩
theorem exN_may : EvM.May exN := by decide

def pushO (v : V) : O := ⟨0, 0, v⟩
def codeO (c : Int) : O := ⟨c, 0, v0⟩
theorem ok_push {v : V} (h : VaM.May v) : Ok (pushO v) := ⟨(by decide : (0 : Int) ≤ 0), (by decide : (0 : Int) < 10), (by decide : (0 : Int) ≤ 0), (by decide : (0 : Int) < 6), Or.inr rfl, h, Or.inl rfl⟩
theorem ok_code {c : Int} (h0 : 0 ≤ c) (h1 : c < 10) : Ok (codeO c) := ⟨h0, h1, (by decide : (0 : Int) ≤ 0), (by decide : (0 : Int) < 6), Or.inr rfl, (show VaM.May v0 from by decide), Or.inr rfl⟩
theorem fin_push {v : V} (h : VaM.May v) (hr : Rng v) : Fin (pushO v) := ⟨may_size h, hr, ⟨(by decide : (-9223372036854775808 : Int) ≤ 0), (by decide : (0 : Int) ≤ 9223372036854775807)⟩, (by decide : (-9223372036854775808 : Int) ≤ 0), (by decide : (0 : Int) ≤ 9223372036854775807)⟩
theorem fin_code {c : Int} (h0 : 0 ≤ c) (h1 : c < 10) : Fin (codeO c) := ⟨Nat.zero_le _, ⟨(by decide : (-9223372036854775808 : Int) ≤ 0), (by decide : (0 : Int) ≤ 9223372036854775807)⟩, ⟨(by show -9223372036854775808 ≤ c; omega), (by show c ≤ 9223372036854775807; omega)⟩, (by decide : (-9223372036854775808 : Int) ≤ 0), (by decide : (0 : Int) ≤ 9223372036854775807)⟩

theorem eval_n {l : List O} (h : ∀ x ∈ l, Ok x) (hl : l.length ≤ 12) : eval exN l = through [] l false := by
  unfold eval
  rw [if_neg (fun k => k ⟨may_of h hl, exN_may⟩)]
  rfl

theorem eval_nil : eval exN [] = (v0, 2) := by rw [eval_n (fun x hx => by cases hx) (by decide)]; rfl
theorem eval_push {v : V} (h : VaM.May v) : eval exN [pushO v] = (v, 0) := by
  rw [eval_n (l := [pushO v]) (fun x hx => by rw [List.mem_singleton.1 hx]; exact ok_push h) (show 1 ≤ 12 from by decide)]
  rfl
theorem eval_two {v : V} (h : VaM.May v) : eval exN [pushO v, pushO v] = (v0, 2) := by
  rw [eval_n (l := [pushO v, pushO v]) (fun x hx => by
    obtain rfl : x = pushO v := by simpa using hx
    exact ok_push h) (show 2 ≤ 12 from by decide)]
  rfl
theorem eval_code {c : Int} (h0 : 2 ≤ c) (h1 : c < 10) : eval exN [codeO c] = (v0, 2) := by
  rw [eval_n (l := [codeO c]) (fun x hx => by rw [List.mem_singleton.1 hx]; exact ok_code (by omega) h1) (show 1 ≤ 12 from by decide)]
  unfold through
  rw [ExM.run]
  have hs : ExM.step [] false (codeO c) [] = .error 2 := by
    by_cases h9 : c = 9
    · rw [step_not (o := codeO c) h9, if_pos (by decide)]
    · rw [step_two (o := codeO c) (by show c ≠ 0; omega) (by show c ≠ 1; omega) h9, if_pos (by decide)]
  rw [hs]
  rfl

theorem holds_nil (e : Ev) : holds e [] = true := rfl

set_option maxRecDepth 100000 in
set_option maxHeartbeats 4000000 in
theorem form_walk (nm : ByteArray) (t : Int) (A : Option Addr) (len cap : Nat) (k j : Int) (s : ByteArray) (c : Int) (W : World) (h0 : Op.ArgE W nm t A len cap) (h1 : (Lit.int .i64 k).wf = true ∧ (Lit.int .i64 j).wf = true ∧ s.size ≤ maxLen) (_h2 : (Lit.int .i64 c).wf = true) :
    Calls Try.prog 10 #[.agg #[.string nm, .int .i64 t, .slice A len cap], .agg #[.int .i64 k, .int .i64 j, .string s], .int .i64 c] W fun e w' => e = .returned (.bool true) ∧ Below W.heap.size W w' := by
  obtain ⟨l, hn, hS, hz⟩ := h0
  subst hn
  have hfew := fun w (h : Below W.heap.size W w) => Ev.Few_any ⟨nm, t, l⟩ A cap w (hS.kept h) hz.1
  have hhold := fun w (h : Below W.heap.size W w) => Holds_any ⟨nm, t, l⟩ [] A cap none 0 w (hS.kept h) hz (slO_none w)
  simp only [holds_nil] at hhold
  have hl := slV_len hS
  have hrng : Rng ⟨k, j, s⟩ := rng_of h1.2.1
  have hsz := h1.2.2
  unfold maxLen at hsz
  obtain ⟨n, hn⟩ : ∃ n, n = l.length := ⟨_, rfl⟩
  simp only [← hn] at hfew hhold
  rw [← hn] at hl ⊢
  have hvm := fun w => Va.May_any k j s w
  obtain ⟨vm, hvmb⟩ : ∃ b, b = decide (VaM.May ⟨k, j, s⟩) := ⟨_, rfl⟩
  simp only [← hvmb] at hvm
  have HVb := Lib.hid hvmb
  have HVm := Lib.hid hvm
  have HFew := Lib.hid hfew
  have HHo := Lib.hid hhold
  have HRg := Lib.hid hrng
  have hx1 := bx_new_t W 27 (.string nm) (.int .i64 t) (.slice A n cap)
  have hb1 := (Below.refl W.heap.size W).alloc (Nat.le_refl _) (.cells #[.string nm, .int .i64 t, .slice A n cap] 27)
  obtain ⟨u1, hu1⟩ : ∃ u, u = W.alloc (.cells #[.string nm, .int .i64 t, .slice A n cap] 27) := ⟨_, rfl⟩
  have hs1 : u1.heap.size = W.heap.size + 1 := by rw [hu1]; simp
  rw [← hu1] at hx1 hb1
  have hy1 := bx_new_t u1 38 (.int .i64 k) (.int .i64 j) (.string s)
  have hb2 := (Below.refl u1.heap.size u1).alloc (Nat.le_refl _) (.cells #[.int .i64 k, .int .i64 j, .string s] 38)
  have hx2 := hx1.kept hb2
  have hbb := bt hb1 hb2
  rw [hs1] at hy1
  rw [hu1] at hx2 hy1 hbb
  have HX2 := Lib.hid hx2
  have HY2 := Lib.hid hy1
  have HB2 := Lib.hid hbb
  clear hn hS hz hfew hhold hvm hvmb hx1 hb1 hu1 hs1 hy1 hb2 hx2 hbb u1 hrng h1
  go_enter Try.func10, Try.ntmps10
  go_wp2_with fail
  obtain ⟨w2, hw2⟩ : ∃ w2, w2 = (W.alloc (.cells #[.string nm, .int .i64 t, .slice A n cap] 27)).alloc (.cells #[.int .i64 k, .int .i64 j, .string s] 38) := ⟨_, rfl⟩
  rw [← hw2] at HX2 HY2 HB2 ⊢
  clear hw2
  refine (awake_any w2).mono ?_
  rintro e w3 ⟨rfl, hb3⟩
  have HB3 := Lib.hid (bt HB2.out hb3)
  have HX3 := Lib.hid (HX2.out.kept hb3)
  have HY3 := Lib.hid (HY2.out.kept hb3)
  clear hb3 HB2 HX2 HY2
  obtain ⟨⟨p0, p1, p2⟩, _⟩ := HX3.out
  obtain ⟨a1, ha1⟩ : ∃ a, a = decide (Ev.Few ⟨nm, t, l⟩) := ⟨_, rfl⟩
  have HF := Lib.hid (HFew.out w3 HB3.out)
  rw [← ha1] at HF
  clear ha1
  go_wp2_with fail
  refine HF.out.mono ?_
  rintro e w4 ⟨rfl, hb4⟩
  have HB4 := Lib.hid (bt HB3.out hb4)
  have HX4 := Lib.hid (HX3.out.kept hb4)
  have HY4 := Lib.hid (HY3.out.kept hb4)
  clear hb4 HB3 HX3 HY3 HF p0 p1 p2
  obtain ⟨⟨y0, y1, y2⟩, _⟩ := HY4.out
  obtain ⟨a2, g2⟩ : ∃ a, decide ((40 : Int) < (s.size : Int)) = a := ⟨_, rfl⟩
  have hways : (a1 = false ∨ (a1 = true ∧ a2 = true)) ∨ (a1 = true ∧ a2 = false) := by cases a1 <;> cases a2 <;> simp
  rcases hways with hbad | ⟨rfl, rfl⟩
  · rcases hbad with rfl | ⟨rfl, rfl⟩
    all_goals
      go_wp2_with fail
      go_ret
      exact ⟨ret_v (x := .bool true) rfl, HB4.out⟩
  · go_wp2_with fail
    refine (HVm.out w4).mono ?_
    rintro e w5 ⟨rfl, hb5⟩
    have HB5 := Lib.hid (bt HB4.out hb5)
    have HX5 := Lib.hid (HX4.out.kept hb5)
    have HY5 := Lib.hid (HY4.out.kept hb5)
    clear hb5 HB4 HX4 HY4 y0 y1 y2
    obtain ⟨⟨y0, y1, y2⟩, _⟩ := HY5.out
    obtain ⟨a3, g3⟩ : ∃ a, decide (c < 2) = a := ⟨_, rfl⟩
    obtain ⟨a4, g4⟩ : ∃ a, decide (10 ≤ c) = a := ⟨_, rfl⟩
    have hways : (vm = false ∨ (vm = true ∧ a3 = true) ∨ (vm = true ∧ a3 = false ∧ a4 = true)) ∨ (vm = true ∧ a3 = false ∧ a4 = false) := by cases vm <;> cases a3 <;> cases a4 <;> simp
    rcases hways with hbad | ⟨rfl, rfl, rfl⟩
    · rcases hbad with rfl | ⟨rfl, rfl⟩ | ⟨rfl, rfl, rfl⟩
      all_goals
        go_wp2_with fail
        go_ret
        exact ⟨ret_v (x := .bool true) rfl, HB5.out⟩
    · have hc2 : 2 ≤ c := by rw [decide_eq_false_iff_not] at g3; omega
      have hc10 : c < 10 := by rw [decide_eq_false_iff_not] at g4; omega
      have hm := of_decide_eq_true HVb.out.symm
      have HMr := Lib.hid (And.intro hm HRg.out)
      have he1 := fun w => Eval_any exN [] none 0 none 0 w (slV_none w) exN_fine (slO_none w)
      have he2 := fun w B d (h : SlO w B [pushO ⟨k, j, s⟩, pushO ⟨k, j, s⟩] d) => Eval_any exN [pushO ⟨k, j, s⟩, pushO ⟨k, j, s⟩] none 0 B d w (slV_none w) exN_fine h
      have he3 := fun w B d (h : SlO w B [codeO c] d) => Eval_any exN [codeO c] none 0 B d w (slV_none w) exN_fine h
      have he4 := fun w B d (h : SlO w B [pushO ⟨k, j, s⟩] d) => Eval_any exN [pushO ⟨k, j, s⟩] none 0 B d w (slV_none w) exN_fine h
      rw [eval_nil] at he1
      rw [eval_two hm] at he2
      rw [eval_code hc2 hc10] at he3
      rw [eval_push hm] at he4
      unfold TwoV at he1 he2 he3 he4
      rw [show (v0 : V) = ⟨0, 0, ⟨#[]⟩⟩ from rfl] at he1 he2 he3
      simp only at he1 he2 he3 he4
      have en : exN.s = ⟨#[97]⟩ := rfl
      have et : exN.t = 0 := rfl
      have ev : exN.v.length = 0 := rfl
      simp only [en, et, ev, List.length_nil, List.length_cons, Nat.zero_add] at he1 he2 he3 he4
      clear en et ev
      have HE1 := Lib.hid he1
      have HE2 := Lib.hid he2
      have HE3 := Lib.hid he3
      have HE4 := Lib.hid he4
      clear hm he1 he2 he3 he4
      have ha6 := (Below.refl w5.heap.size w5).alloc (Nat.le_refl _) (.cells #[.int .i64 0, .int .i64 0, .int .i64 k, .int .i64 j, .string s] 52)
      have HO6 := Lib.hid (bxO_new w5 (pushO ⟨k, j, s⟩))
      have HB6 := Lib.hid (bt HB5.out ha6)
      have HX6 := Lib.hid (HX5.out.kept ha6)
      have HY6 := Lib.hid (HY5.out.kept ha6)
      clear ha6 HB5 HX5 HY5
      go_wp2_with fail
      obtain ⟨w6, hw6⟩ : ∃ w6, w6 = w5.alloc (.cells #[.int .i64 0, .int .i64 0, .int .i64 k, .int .i64 j, .string s] 52) := ⟨_, rfl⟩
      obtain ⟨g, hg⟩ : ∃ g, g = w5.heap.size := ⟨_, rfl⟩
      have hho6 := HO6.out
      simp only [pushO] at hho6
      rw [← hw6, ← hg] at hho6
      rw [← hw6] at HB6 HX6 HY6 ⊢
      rw [← hg] at ⊢
      have HOx := Lib.hid hho6
      clear hw6 hg HO6 hho6 y0 y1 y2
      refine (HE1.out w6).mono ?_
      rintro e w7 ⟨rfl, hb7⟩
      have ha7 := (Below.refl w7.heap.size w7).alloc (Nat.le_refl _) (.cells #[.int .i64 0, .int .i64 0, .string ⟨#[]⟩] 38)
      obtain ⟨u7, hu7⟩ : ∃ u, u = w7.alloc (.cells #[.int .i64 0, .int .i64 0, .string ⟨#[]⟩] 38) := ⟨_, rfl⟩
      have hs7 : u7.heap.size = w7.heap.size + 1 := by rw [hu7]; simp
      have hso7 := slO_new u7 [pushO ⟨k, j, s⟩, pushO ⟨k, j, s⟩] (fun x hx => by obtain rfl : x = pushO ⟨k, j, s⟩ := (by simpa using hx); exact fin_push HMr.out.1 HMr.out.2) (show 2 ≤ maxLen from by unfold maxLen; decide)
      rw [← hu7] at ha7
      have hbo7 := bt hb7 (bt ha7 ((Below.refl u7.heap.size u7).alloc (Nat.le_refl _) (.cells #[.int .i64 0, .int .i64 0, .int .i64 k, .int .i64 j, .string s, .int .i64 0, .int .i64 0, .int .i64 k, .int .i64 j, .string s] 52)))
      rw [hs7, hu7] at hso7
      rw [hu7] at hbo7
      have HS7 := Lib.hid hso7
      have HB7 := Lib.hid (bt HB6.out hbo7)
      have HX7 := Lib.hid (HX6.out.kept hbo7)
      have HY7 := Lib.hid (HY6.out.kept hbo7)
      have HO7 := Lib.hid (HOx.out.kept hbo7)
      obtain ⟨o0, o1, o2, o3, o4⟩ := (HOx.out.kept (bt hb7 (hu7 ▸ ha7))).cells
      simp only at o0 o1 o2 o3 o4
      clear hb7 ha7 hu7 hs7 hso7 hbo7 u7 HB6 HX6 HY6 HOx
      go_wp2_with fail
      clear o0 o1 o2 o3 o4
      refine (HE2.out _ _ 2 HS7.out).mono ?_
      rintro e w8 ⟨rfl, hb8⟩
      have ha8 := (Below.refl w8.heap.size w8).alloc (Nat.le_refl _) (.cells #[.int .i64 0, .int .i64 0, .string ⟨#[]⟩] 38)
      obtain ⟨u8, hu8⟩ : ∃ u, u = w8.alloc (.cells #[.int .i64 0, .int .i64 0, .string ⟨#[]⟩] 38) := ⟨_, rfl⟩
      have hs8 : u8.heap.size = w8.heap.size + 1 := by rw [hu8]; simp
      have hso8 := slO_new u8 [codeO c] (fun x hx => by obtain rfl : x = codeO c := (by simpa using hx); exact fin_code (by omega) hc10) (show 1 ≤ maxLen from by unfold maxLen; decide)
      rw [← hu8] at ha8
      have hbo8 := bt hb8 (bt ha8 ((Below.refl u8.heap.size u8).alloc (Nat.le_refl _) (.cells #[.int .i64 c, .int .i64 0, .int .i64 0, .int .i64 0, .string ⟨#[]⟩] 52)))
      rw [hs8, hu8] at hso8
      rw [hu8] at hbo8
      have HS8 := Lib.hid hso8
      have HB8 := Lib.hid (bt HB7.out hbo8)
      have HX8 := Lib.hid (HX7.out.kept hbo8)
      have HY8 := Lib.hid (HY7.out.kept hbo8)
      have HO8 := Lib.hid (HO7.out.kept hbo8)
      obtain ⟨o0, o1, o2, o3, o4⟩ := (HO7.out.kept (bt hb8 (hu8 ▸ ha8))).cells
      simp only at o0 o1 o2 o3 o4
      clear hb8 ha8 hu8 hs8 hso8 hbo8 u8 HB7 HX7 HY7 HO7
      go_wp2_with fail
      clear o0 o1 o2 o3 o4
      refine (HE3.out _ _ 1 HS8.out).mono ?_
      rintro e w9 ⟨rfl, hb9⟩
      have ha9 := (Below.refl w9.heap.size w9).alloc (Nat.le_refl _) (.cells #[.int .i64 0, .int .i64 0, .string ⟨#[]⟩] 38)
      obtain ⟨u9, hu9⟩ : ∃ u, u = w9.alloc (.cells #[.int .i64 0, .int .i64 0, .string ⟨#[]⟩] 38) := ⟨_, rfl⟩
      have hs9 : u9.heap.size = w9.heap.size + 1 := by rw [hu9]; simp
      have hso9 := slO_new u9 [pushO ⟨k, j, s⟩] (fun x hx => by obtain rfl : x = pushO ⟨k, j, s⟩ := (by simpa using hx); exact fin_push HMr.out.1 HMr.out.2) (show 1 ≤ maxLen from by unfold maxLen; decide)
      rw [← hu9] at ha9
      have hbo9 := bt hb9 (bt ha9 ((Below.refl u9.heap.size u9).alloc (Nat.le_refl _) (.cells #[.int .i64 0, .int .i64 0, .int .i64 k, .int .i64 j, .string s] 52)))
      rw [hs9, hu9] at hso9
      rw [hu9] at hbo9
      have HS9 := Lib.hid hso9
      have HB9 := Lib.hid (bt HB8.out hbo9)
      have HX9 := Lib.hid (HX8.out.kept hbo9)
      have HY9 := Lib.hid (HY8.out.kept hbo9)
      have HO9 := Lib.hid (HO8.out.kept hbo9)
      obtain ⟨o0, o1, o2, o3, o4⟩ := (HO8.out.kept (bt hb9 (hu9 ▸ ha9))).cells
      simp only at o0 o1 o2 o3 o4
      clear hb9 ha9 hu9 hs9 hso9 hbo9 u9 HB8 HX8 HY8 HO8
      go_wp2_with fail
      clear o0 o1 o2 o3 o4
      refine (HE4.out _ _ 1 HS9.out).mono ?_
      rintro e w10 ⟨rfl, hb10⟩
      have ha10 := (Below.refl w10.heap.size w10).alloc (Nat.le_refl _) (.cells #[.int .i64 k, .int .i64 j, .string s] 38)
      obtain ⟨⟨q0, q1, q2⟩, _⟩ := bx_new_t w10 38 (.int .i64 k) (.int .i64 j) (.string s)
      have HB10 := Lib.hid (bt HB9.out (bt hb10 ha10))
      obtain ⟨⟨p0, p1, p2⟩, _⟩ := HX9.out.kept (bt hb10 ha10)
      obtain ⟨⟨y0, y1, y2⟩, _⟩ := HY9.out.kept (bt hb10 ha10)
      have heq := fun W => eql_v k j k j s s W
      have hsm : same (⟨k, j, s⟩ : V) ⟨k, j, s⟩ = true := same_iff.2 rfl
      simp only [hsm] at heq
      clear hb10 ha10 hsm
      go_wp2_with fail
      refine (HHo.out _ HB10.out).mono ?_
      rintro e w11 ⟨rfl, hb11⟩
      have HB11 := Lib.hid (bt HB10.out hb11)
      clear hb11 q0 q1 q2 p0 p1 p2 y0 y1 y2 heq
      go_wp2_with fail
      go_ret
      exact ⟨ret_v (x := .bool true) rfl, HB11.out⟩
end Go.Proofs.Ytbjgflinggelpaa.Ex

namespace Go.Proofs.Ytbjgflinggelpaa.exprForm
open Go.ChangeShapes Go.WideShapes Go.ChangeAt Go.RowKit

theorem own : ownKnob Try.prog.godebug = none := by kernel_rfl
theorem laidOut : laidOutB Try.prog = true := by kernel_rfl

set_option maxRecDepth 100000 in
theorem lifted (os : Os) (started : os.Started) (H : Type) (enc : TypeId × Value → H) :
    ReturnsInHanded {} Try.checked os 10 .any (Rows.exprFormSpec.pre6 enc Try.prog Try.f10 Rows.exprFormRow.domain false) (Rows.exprFormSpec.post enc Try.prog Try.f10 false true false false) := by
  refine returnsInHanded_of_change (C := Try.checked) own started (by kernel_rfl) Try.func10
    (ChangeSpec.witness6 (enc := enc) (C := Try.checked) false ⟨#[], #[.agg #[.string ⟨#[]⟩, .int .i64 0, .slice none 0 0], .agg #[.int .i64 0, .int .i64 0, .string ⟨#[]⟩], .int .i64 0], []⟩ 8 (by kernel_rfl) (by kernel_rfl) (by kernel_rfl) (by kernel_rfl)) ?_
  intro W base args ds gs before hval0 hW hcnd _
  have hval : ∀ (j : Nat) t v, Try.f10.params[j]? = some t → args[j]? = some v → Value.okWide Try.prog W .any base t v := hval0
  have hW' := hW
  obtain ⟨p, q, hA0, hV, rfl, hfz, hnd⟩ := hW
  have hA : DataW.TrodAll enc Try.prog W 0 (fun _ => true) true Try.f10.params.toList args.toList ds p := hA0
  rw [Try.params10] at hA hval
  obtain ⟨v0, vs0, d0, ds0, p0, q0, hargs, rfl, rfl, h0, r0⟩ := trodAll_cons hA
  obtain ⟨v1, vs1, d1, ds1, p1, q1, rfl, rfl, rfl, h1, r1⟩ := trodAll_cons r0
  obtain ⟨v2, vs2, d2, ds2, p2, q2, rfl, rfl, rfl, h2, r2⟩ := trodAll_cons r1
  obtain ⟨rfl, rfl, rfl⟩ := trodAll_nil r2
  obtain rfl : args = #[v0, v1, v2] := by cases args; simp_all
  obtain ⟨rfl, rfl⟩ := trodVars_none hV
  have k0 := h0
  have lt0 : ∀ x ∈ p0, x.block < W.heap.size := by obtain ⟨m, hm⟩ := k0; exact DataW.trod_lt m _ _ _ hm
  obtain ⟨ss0, nn0, a0, len0, cap0, rfl, w0⟩ := Op.open_event (hval 0 27 v0 rfl rfl) h0
  have k1 := h1
  have lt1 : ∀ x ∈ p1, x.block < W.heap.size := by obtain ⟨m, hm⟩ := k1; exact DataW.trod_lt m _ _ _ hm
  obtain ⟨kk1, nn1, ss1, rfl, w1⟩ := Op.open_value (hval 1 38 v1 rfl rfl) h1
  obtain ⟨a2, rfl, rfl, rfl, w2⟩ := open_int Try.underlying3 (hval 2 3 v2 rfl rfl) h2
  clear hA0 hval0
  refine (Go.Proofs.Ytbjgflinggelpaa.Ex.form_walk ss0 nn0 a0 len0 cap0 kk1 nn1 ss1 a2 W w0 w1 w2).mono fun e W' ⟨he, bel⟩ => ?_
  subst he
  exact ⟨_, rfl, _, _, _, [], _, [], hW', trodAll_mk1 (shut_bool Try.underlying4 _), (trodAll_cons_mk (Below.trod laidOut (by kernel_rfl) (of_decide_eq_true (by kernel_rfl)) k0 bel lt0) (trodAll_cons_mk (Below.trod laidOut (by kernel_rfl) (of_decide_eq_true (by kernel_rfl)) k1 bel lt1) (trodAll_cons_mk (shut_int Try.underlying3 w2) trodAll_mk0))), rfl, bel.frame _, fun h => by cases h⟩

theorem over : Rows.exprFormRow.holds Try.pinned (OpenSpec.ofChange Rows.exprFormSpec) :=
  OpenClaim.holds_of_wide 10 Try.f10 rfl rfl rfl rfl rfl rfl rfl ⟨rfl, rfl, rfl, rfl, rfl⟩ rfl rfl rfl rfl rfl (by kernel_rfl) Try.func10 (by kernel_rfl)
    (of_decide_eq_true (by kernel_rfl)) (by unfold Func.isWrapper; first | (rw [if_pos (by decide +kernel)]; kernel_rfl) | (rw [if_neg (by decide +kernel)]; exact ⟨rfl, rfl⟩))
    (fun os started H enc _ => lifted os started H enc)

theorem proved : Rows.ExprFormSaid := over
#print axioms proved
end Go.Proofs.Ytbjgflinggelpaa.exprForm
