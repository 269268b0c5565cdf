/- ExprLoads: for every input the law returns true, and each argument reads afterwards as it read before. No condition.
  The walk is the theorem Go.Proofs.Ytbjgflinggelpaa.Ex.loads_walk. -/
import Derived.Test.YtbjgflinggelpaaEventMath
import Derived.Test.YtbjgflinggelpaaValueRow
import Derived.Test.YtbjgflinggelpaaBx
import Derived.Test.YtbjgflinggelpaaStrCore
import Derived.Test.YtbjgflinggelpaaRows
import Derived.Test.YtbjgflinggelpaaChA
import Derived.Lib.SmallJoins
import Derived.Deep.Slices
import Derived.ShutString
import Derived.OpenShut
import Derived.Test.YtbjgflinggelpaaChB
import Derived.BigQuiet
import Derived.WalkKit
import Derived.ProofKit
import Derived.ChangeOld
import Derived.Below

namespace Go.Proofs.Ytbjgflinggelpaa.Ev
open Go.RowKit Go.Proofs.Ytbjgflinggelpaa.BM Go.Proofs.Ytbjgflinggelpaa.EvM
open Go.Proofs.Ytbjgflinggelpaa.VaM (V)
open Go.Proofs.Ytbjgflinggelpaa.Va (SlV slV_len bx_new_t Bx ret_v)

/-- An event of few values. -/
def Few (e : Ev) : Prop := e.s.size ≤ 60 ∧ e.v.length ≤ 10 ∧ ∀ i, i < e.v.length → (e.v.getD i v0).s.size ≤ 100
instance (e : Ev) : Decidable (Few e) := by unfold Few; infer_instance

set_option maxRecDepth 100000 in
set_option maxHeartbeats 1000000 in
theorem Few_any (e : Ev) (A : Option Addr) (c : Nat) (w : World) (hS : SlV w A e.v c) (hz : e.s.size ≤ maxLen) :
    Calls Try.prog 13 #[.agg #[.string e.s, .int .i64 e.t, .slice A e.v.length c]] w fun r w' => r = .returned (.bool (decide (Few e))) ∧ Below w.heap.size w w' := by
  obtain ⟨nm, v, l⟩ := e
  simp only at hS hz ⊢
  unfold maxLen at hz
  have hl := slV_len hS
  have hfew : Few ⟨nm, v, l⟩ ↔ nm.size ≤ 60 ∧ l.length ≤ 10 ∧ ∀ i, i < l.length → (l.getD i v0).s.size ≤ 100 := Iff.rfl
  obtain ⟨n, hn⟩ : ∃ n, n = l.length := ⟨_, rfl⟩
  rw [← hn] at hl hfew ⊢
  have HLen := Lib.hid hn
  have HS := Lib.hid hS
  have HFew := Lib.hid hfew
  have HX0 := Lib.hid (bx_new_t w 27 (.string nm) (.int .i64 v) (.slice A n c))
  have HB0 := Lib.hid ((Below.refl w.heap.size w).alloc (Nat.le_refl _) (.cells #[.string nm, .int .i64 v, .slice A n c] 27))
  clear hn hS hfew
  obtain ⟨⟨p0, p1, p2⟩, _⟩ := HX0.out
  by_cases m1 : nm.size ≤ 60
  · have hd1 : decide ((60 : Int) < (nm.size : Int)) = false := by rw [decide_eq_false_iff_not]; omega
    by_cases m2 : n ≤ 10
    · have hd2 : decide ((10 : Int) < (n : Int)) = false := by rw [decide_eq_false_iff_not]; omega
      have HF := Lib.hid (show Few ⟨nm, v, l⟩ ↔ ∀ i, i < n → (l.getD i v0).s.size ≤ 100 from ⟨fun h => (HFew.out.1 h).2.2, fun h => HFew.out.2 ⟨m1, m2, h⟩⟩)
      clear m1 HFew
      go_enter Try.func13, Try.ntmps13
      go_wp2_with fail
      obtain ⟨w1, hw1⟩ : ∃ w1, w1 = w.alloc (.cells #[.string nm, .int .i64 v, .slice A n c] 27) := ⟨_, rfl⟩
      rw [← hw1] at HX0 HB0 ⊢
      clear hw1 p0 p1 p2
      go_loopw [3] (fun i wr => ∃ j : Nat, i = .int .i64 j ∧ j ≤ n ∧ (∀ r, r < j → (l.getD r v0).s.size ≤ 100) ∧ wr = w1) (fun i _ => n - (intOf i).toNat)
      case atStart => exact ⟨0, rfl, Nat.zero_le _, fun r hr => absurd hr (Nat.not_lt_zero r), rfl⟩
      case round =>
        obtain ⟨j, rfl, hj, hall, rfl⟩ := hrel
        have HAl := Lib.hid hall
        obtain ⟨⟨_, _, p2⟩, _⟩ := HX0.out
        clear hall
        by_cases hjn : j < n
        · obtain ⟨b, q, hix, hc, hsz, _⟩ := HS.out.at v0 j (by rw [← HLen.out]; exact hjn)
          obtain ⟨⟨fk, fn, fs⟩, hf⟩ : ∃ f, f = l.getD j v0 := ⟨_, rfl⟩
          rw [← hf] at hc hsz
          obtain ⟨_, _, c0⟩ := hc wr HB0.out
          simp only at c0 hsz
          unfold maxLen at hsz
          have hi := fun W => hix W n c hjn
          have HFl := Lib.hid hf
          clear hc hix hf
          by_cases h60 : fs.size ≤ 100
          · have hd3 : decide ((100 : Int) < (fs.size : Int)) = false := by rw [decide_eq_false_iff_not]; omega
            have HY := Lib.hid h60
            clear h60
            go_wp2_with fail
            go_roundw
            case rel =>
              refine ⟨j + 1, by go_num, by omega, fun r hr => ?_, by trivial⟩
              by_cases e : r = j
              · rw [e, ← HFl.out]
                exact HY.out
              · exact HAl.out r (by omega)
            case measure => simp [intOf]; omega
          · have hd3 : decide ((100 : Int) < (fs.size : Int)) = true := by rw [decide_eq_true_iff]; omega
            have HNo := Lib.hid (show ¬ Few ⟨nm, v, l⟩ from fun h => h60 (by have := HF.out.1 h j hjn; rw [← HFl.out] at this; exact this))
            clear h60
            go_wp2_with fail
            go_ret
            exact ⟨ret_v (x := .bool false) (by rw [decide_eq_false HNo.out]), HB0.out⟩
        · obtain rfl : j = n := by omega
          have HYes := Lib.hid (HF.out.2 HAl.out)
          go_wp2_with fail
          go_ret
          exact ⟨ret_v (x := .bool true) (by rw [decide_eq_true HYes.out]), HB0.out⟩
    · have hd2 : decide ((10 : Int) < (n : Int)) = true := by rw [decide_eq_true_iff]; omega
      have HNo := Lib.hid (show ¬ Few ⟨nm, v, l⟩ from fun h => m2 (HFew.out.1 h).2.1)
      clear m2 m1
      go_enter Try.func13, Try.ntmps13
      go_wp2_with fail
      go_ret
      exact ⟨ret_v (x := .bool false) (by rw [decide_eq_false HNo.out]), HB0.out⟩
  · have hd1 : decide ((60 : Int) < (nm.size : Int)) = true := by rw [decide_eq_true_iff]; omega
    have HNo := Lib.hid (show ¬ Few ⟨nm, v, l⟩ from fun h => m1 (HFew.out.1 h).1)
    clear m1
    go_enter Try.func13, Try.ntmps13
    go_wp2_with fail
    go_ret
    exact ⟨ret_v (x := .bool false) (by rw [decide_eq_false HNo.out]), HB0.out⟩
end Go.Proofs.Ytbjgflinggelpaa.Ev

namespace Go.Proofs.Ytbjgflinggelpaa.Op
open Go.RowKit Go.ChangeShapes Go.WideShapes Go.Proofs.Ytbjgflinggelpaa.Va Go.Proofs.Ytbjgflinggelpaa.VaM Go.Proofs.Ytbjgflinggelpaa.EvM

/-- An event that came in: its values lie where its slice says. -/
def ArgE (W : World) (s : ByteArray) (t : Int) (a : Option Addr) (len cap : Nat) : Prop := ∃ l : List V, l.length = len ∧ SlV W a l cap ∧ Ev.Fine ⟨s, t, l⟩

theorem flat_cells {w : World} {b : Nat} : ∀ (l : List V) (o : Nat), (∀ i, i < l.length → CellV w b (o + i * 3) (l.getD i v0)) → ∀ (j : Nat) (u : Value), (l.flatMap encV)[j]? = some u → w.cell? ⟨b, o + j, none⟩ = some u
  | [], _, _, j, u, h => by simp at h
  | x :: l, o, hc, j, u, h => by
    rw [List.flatMap_cons] at h
    have h0 := hc 0 (by simp)
    rw [Nat.zero_mul, Nat.add_zero, List.getD_cons_zero] at h0
    obtain ⟨c0, c1, c2⟩ := h0
    by_cases hj : j < 3
    · rw [List.getElem?_append_left (by simpa [encV] using hj)] at h
      have hw : j = 0 ∨ j = 1 ∨ j = 2 := by omega
      rcases hw with rfl | rfl | rfl
      · obtain rfl : _ = u := by simpa [encV] using h
        exact c0
      · obtain rfl : _ = u := by simpa [encV] using h
        exact c1
      · obtain rfl : _ = u := by simpa [encV] using h
        exact c2
    · rw [List.getElem?_append_right (by simp only [encV, List.length_cons, List.length_nil]; omega)] at h
      have h2 := flat_cells l (o + 3) (fun i hi => by
        have h3 := hc (i + 1) (by simpa using hi)
        rw [List.getD_cons_succ] at h3
        rw [show o + 3 + i * 3 = o + (i + 1) * 3 from by omega]
        exact h3) (j - 3) u h
      rw [show o + 3 + (j - 3) = o + j from by omega] at h2
      exact h2

theorem elems_flat {w : World} {p : Nat → Prop} : ∀ l : List V, RG.Elems KV p w l (l.flatMap encV)
  | [] => rfl
  | x :: l => ⟨encV x, l.flatMap encV, rfl, rfl, elems_flat l⟩

set_option maxRecDepth 100000 in
theorem open_event {H : Type} {enc : TypeId × Value → H} {W : World} {r : Reach} {b0 : Nat} {v : Value} {d : DataW H} {p : List MemPlace} (hv : Value.okWide Try.prog W r b0 27 v)
    (h : DataW.Trod enc Try.prog W 0 (fun _ => true) true 27 v d p) : ∃ s n a len cap, v = .agg #[.string s, .int .i64 n, .slice a len cap] ∧ ArgE W s n a len cap := by
  obtain ⟨v0, v1, v2, y0, y1, y2, fuel, rfl, _, _, h0, h1, h2⟩ := Joins.open_agg3 Try.underlying27 (by kernel_rfl) (by kernel_rfl) hv h
  obtain ⟨s, hs, _, ws⟩ := DataW.trod_string Try.underlying9 h0
  obtain ⟨n, hn, _, wn⟩ := DataW.trod_int Try.underlying3 h1
  simp only [List.cons.injEq, and_true] at hs hn
  subst hs hn
  have hb := bounds_i64 wn
  rcases Deep.open_slice Try.underlying25 h2 with ⟨hcs, _⟩ | ⟨x, l, c, m, k, D, Pl, hcs, _, hl, hm, hmm, _, hr⟩
  · simp only [List.cons.injEq, and_true] at hcs
    subst hcs
    exact ⟨s, n, none, 0, 0, rfl, [], rfl, slV_none W, ws, by simp only; omega, by simp only; omega⟩
  · simp only [List.cons.injEq, and_true] at hcs
    subst hcs
    simp only [if_true] at hmm
    rw [hmm] at hr
    have each : ∀ i, i < l → ∃ x' : V, (x'.s.size ≤ maxLen ∧ Rng x') ∧ W.cell? (x.add (i * 3)) = some (.int .i64 x'.k) ∧ W.cell? (x.add (i * 3 + 1)) = some (.int .i64 x'.n) ∧ W.cell? (x.add (i * 3 + 2)) = some (.string x'.s) := by
      intro i hi
      obtain ⟨cs', hc, ht⟩ := hr i (by omega)
      rw [show Try.prog.cellsOf 38 = 3 from by kernel_rfl] at hc
      obtain ⟨_, hlen, hcell⟩ := World.cells?_some hc
      match cs', hlen with
      | [v0, v1, v2], _ =>
        obtain ⟨y0, y1, y2, k, _, _, t0, t1, t2⟩ := Deep.trod_struct3 Try.underlying38 ht
        have c1 : Try.prog.cellsOf 3 = 1 := by kernel_rfl
        have c2 : Try.prog.cellsOf 9 = 1 := by kernel_rfl
        simp only [c1] at t0 t1
        simp only [c2] at t2
        obtain ⟨n0, e0', _, _⟩ := DataW.trod_int Try.underlying3 t0
        obtain ⟨n1, e1', _, w1⟩ := DataW.trod_int Try.underlying3 t1
        obtain ⟨s, e2', _, w2⟩ := DataW.trod_string Try.underlying9 t2
        simp only [List.drop_zero, List.drop_succ_cons, List.take_succ_cons, List.take_zero, List.cons.injEq, and_true] at e0' e1' e2'
        subst e0' e1' e2'
        have g0 := hcell 0 (by decide)
        have g1 := hcell 1 (by decide)
        have g2 := hcell 2 (by decide)
        have hb := bounds_i64 w1
        refine ⟨⟨n0, n1, s⟩, ⟨w2, by simp only; omega, by simp only; omega⟩, ?_, ?_, ?_⟩
        · rw [Deep.add_add, Nat.add_zero] at g0
          exact g0
        · rw [Deep.add_add] at g1
          exact g1
        · rw [Deep.add_add] at g2
          exact g2
    let g : Nat → V := fun i => if h : i < l then Classical.choose (each i h) else EvM.v0
    have hg : ∀ i, i < l → ((g i).s.size ≤ maxLen ∧ Rng (g i)) ∧ W.cell? (x.add (i * 3)) = some (.int .i64 (g i).k) ∧ W.cell? (x.add (i * 3 + 1)) = some (.int .i64 (g i).n) ∧ W.cell? (x.add (i * 3 + 2)) = some (.string (g i).s) := by
      intro i hi
      have e : g i = Classical.choose (each i hi) := dif_pos hi
      rw [e]
      exact Classical.choose_spec (each i hi)
    have hgl : ((List.range l).map g).length = l := by simp
    have hgd : ∀ i, i < l → ((List.range l).map g).getD i EvM.v0 = g i := fun i hi => by simp [List.getD_eq_getElem?_getD, hi]
    refine ⟨s, n, some x, l, c, rfl, (List.range l).map g, hgl, ⟨⟨⟨((List.range l).map g).flatMap encV, fun h0 => ?_, elems_flat _⟩, by rw [hgl]; exact hl, (fun e => by cases e), hm⟩, fun f hf => ?_⟩, ws, by simp only; omega, by simp only; omega⟩
    · have hl0 : 0 < l := by
        rcases Nat.eq_zero_or_pos l with e | e
        · subst e
          simp at h0
        · exact e
      obtain ⟨b, o, sp⟩ := x
      have hsp : sp = none := by simpa [Addr.add] using World.cell?_spot (hg 0 hl0).2.1
      subst hsp
      refine ⟨b, o, rfl, flat_cells _ o fun i hi => ?_⟩
      rw [hgl] at hi
      rw [hgd i hi]
      obtain ⟨_, g1, g2, g3⟩ := hg i hi
      rw [Addr.add_lit] at g1 g2 g3
      exact ⟨g1, g2, g3⟩
    · obtain ⟨i, hi, rfl⟩ := List.mem_map.1 hf
      exact (hg i (List.mem_range.1 hi)).1
end Go.Proofs.Ytbjgflinggelpaa.Op

namespace Go.Proofs.Ytbjgflinggelpaa.Ex
open Go.RowKit Go.Proofs.Ytbjgflinggelpaa.BM Go.Proofs.Ytbjgflinggelpaa.LM Go.Proofs.Ytbjgflinggelpaa.VaM Go.Proofs.Ytbjgflinggelpaa.Va Go.Proofs.Ytbjgflinggelpaa.ExM Go.Proofs.Ytbjgflinggelpaa.EvM

/-- One part. -/
theorem slO_one (w : World) (x : O) (hx : Fin x) : SlO (w.alloc (.cells #[.int .i64 x.c, .int .i64 x.a, .int .i64 x.v.k, .int .i64 x.v.n, .string x.v.s] 52)) (some ⟨w.heap.size, 0, none⟩) [x] 1 :=
  slO_new w [x] (fun y hy => by rw [List.mem_singleton.1 hy]; exact hx) (show 1 ≤ maxLen from by unfold maxLen; decide)

def loadO (i : Int) : O := ⟨1, i, v0⟩
theorem load_may {i : Int} (h0 : 0 ≤ i) (h5 : i ≤ 5) : ExM.May [loadO i] := may_of (fun x hx => by
  rw [List.mem_singleton.1 hx]
  exact ⟨(by decide : (0 : Int) ≤ 1), (by decide : (1 : Int) < 10), h0, (by show i < 6; omega), Or.inl rfl, (show VaM.May v0 from by decide), Or.inr rfl⟩) (show 1 ≤ 12 from by decide)
theorem load_fin {i : Int} (h0 : 0 ≤ i) (h5 : i ≤ 5) : Fin (loadO i) := ⟨Nat.zero_le _, ⟨(by decide : (-9223372036854775808 : Int) ≤ 0), (by decide : (0 : Int) ≤ 9223372036854775807)⟩, ⟨(by decide : (-9223372036854775808 : Int) ≤ 1), (by decide : (1 : Int) ≤ 9223372036854775807)⟩, (by show -9223372036854775808 ≤ i; omega), (by show i ≤ 9223372036854775807; omega)⟩

theorem eval_load {e : Ev} {i : Int} (h0 : 0 ≤ i) (h5 : i ≤ 5) : eval e [loadO i] = if EvM.May e then (if i.toNat < e.v.length then (e.v.getD i.toNat v0, 0) else (v0, 3)) else (v0, 1) := by
  unfold eval
  by_cases h : EvM.May e
  · rw [if_neg (fun k => k ⟨load_may h0 h5, h⟩), if_pos h]
    unfold through
    rw [ExM.run]
    have hs : ExM.step e.v false (loadO i) [] = if i.toNat < e.v.length then .ok ([] ++ [e.v.getD i.toNat v0]) else .error 3 := step_load (o := loadO i) rfl
    rw [hs]
    by_cases g : i.toNat < e.v.length
    · rw [if_pos g, if_pos g]
      rfl
    · rw [if_neg g, if_neg g]
      rfl
  · rw [if_pos (fun k => h k.2), if_neg h]

set_option maxRecDepth 100000 in
set_option maxHeartbeats 4000000 in
theorem loads_walk (nm : ByteArray) (t : Int) (A : Option Addr) (len cap : Nat) (i : Int) (W : World) (h0 : Op.ArgE W nm t A len cap) (_h1 : (Lit.int .i64 i).wf = true) :
    Calls Try.prog 9 #[.agg #[.string nm, .int .i64 t, .slice A len cap], .int .i64 i] W fun e w' => e = .returned (.bool true) ∧ Below W.heap.size W w' := by
  obtain ⟨l, hn, hS, hz⟩ := h0
  subst hn
  have hfew := fun w (h : Below W.heap.size W w) => Ev.Few_any ⟨nm, t, l⟩ A cap w (hS.kept h) hz.1
  have hl := slV_len hS
  obtain ⟨n, hn⟩ : ∃ n, n = l.length := ⟨_, rfl⟩
  simp only [← hn] at hfew
  rw [← hn] at hl ⊢
  have HLen := Lib.hid hn
  have HS := Lib.hid hS
  have HZ := Lib.hid hz
  have HFew := Lib.hid hfew
  have HX1 := Lib.hid (bx_new_t W 27 (.string nm) (.int .i64 t) (.slice A n cap))
  have HB1 := Lib.hid ((Below.refl W.heap.size W).alloc (Nat.le_refl _) (.cells #[.string nm, .int .i64 t, .slice A n cap] 27))
  clear hn hS hz hfew
  go_enter Try.func9, Try.ntmps9
  go_wp2_with fail
  obtain ⟨w1, hw1⟩ : ∃ w1, w1 = W.alloc (.cells #[.string nm, .int .i64 t, .slice A n cap] 27) := ⟨_, rfl⟩
  rw [← hw1] at HX1 HB1 ⊢
  clear hw1
  refine (awake_any w1).mono ?_
  rintro e w2 ⟨rfl, hb2⟩
  have HB2 := Lib.hid (bt HB1.out hb2)
  have HX2 := Lib.hid (HX1.out.kept hb2)
  clear hb2 HB1 HX1
  obtain ⟨⟨p0, p1, p2⟩, _⟩ := HX2.out
  obtain ⟨a1, ha1⟩ : ∃ a, a = decide (Ev.Few ⟨nm, t, l⟩) := ⟨_, rfl⟩
  have HF := Lib.hid (HFew.out w2 HB2.out)
  rw [← ha1] at HF
  clear ha1
  go_wp2_with fail
  refine HF.out.mono ?_
  rintro e w3 ⟨rfl, hb3⟩
  have HB3 := Lib.hid (bt HB2.out hb3)
  have HX3 := Lib.hid (HX2.out.kept hb3)
  clear hb3 HB2 HX2 HF p0 p1 p2
  obtain ⟨⟨p0, p1, p2⟩, _⟩ := HX3.out
  obtain ⟨a2, g2⟩ : ∃ a, decide (i < 0) = a := ⟨_, rfl⟩
  obtain ⟨a3, g3⟩ : ∃ a, decide (5 < i) = a := ⟨_, rfl⟩
  have hways : (a1 = false ∨ (a1 = true ∧ a2 = true) ∨ (a1 = true ∧ a2 = false ∧ a3 = true)) ∨ (a1 = true ∧ a2 = false ∧ a3 = false) := by cases a1 <;> cases a2 <;> cases a3 <;> simp
  rcases hways with hbad | ⟨rfl, rfl, rfl⟩
  · rcases hbad with rfl | ⟨rfl, rfl⟩ | ⟨rfl, rfl, rfl⟩
    all_goals
      go_wp2_with fail
      go_ret
      exact ⟨ret_v (x := .bool true) rfl, HB3.out⟩
  · have hi0 : 0 ≤ i := by rw [decide_eq_false_iff_not] at g2; omega
    have hi5 : i ≤ 5 := by rw [decide_eq_false_iff_not] at g3; omega
    have ha4 := (Below.refl w3.heap.size w3).alloc (Nat.le_refl _) (.cells #[.int .i64 1, .int .i64 i, .int .i64 0, .int .i64 0, .string ⟨#[]⟩] 52)
    have HEv := Lib.hid (Eval_any ⟨nm, t, l⟩ [loadO i] A cap (some ⟨w3.heap.size, 0, none⟩) 1 _ (HS.out.kept (bt HB3.out ha4)) HZ.out (slO_one w3 (loadO i) (load_fin hi0 hi5)))
    have HR := Lib.hid (eval_load (e := ⟨nm, t, l⟩) hi0 hi5)
    have HB4 := Lib.hid (bt HB3.out ha4)
    have HX4 := Lib.hid (HX3.out.kept ha4)
    obtain ⟨R, hR⟩ : ∃ R, R = eval ⟨nm, t, l⟩ [loadO i] := ⟨_, rfl⟩
    rw [← hR] at HEv HR
    simp only [← HLen.out] at HEv
    clear hR ha4
    obtain ⟨⟨k, j, s⟩, r⟩ := R
    unfold TwoV at HEv
    simp only at HEv
    go_wp2_with fail
    refine HEv.out.mono ?_
    rintro e w5 ⟨rfl, hb5⟩
    have ha6 := (Below.refl w5.heap.size w5).alloc (Nat.le_refl _) (.cells #[.int .i64 k, .int .i64 j, .string s] 38)
    have HB6 := Lib.hid (bt HB4.out (bt hb5 ha6))
    have HX6 := Lib.hid (HX4.out.kept (bt hb5 ha6))
    obtain ⟨⟨y0, y1, y2⟩, _⟩ := bx_new_t w5 38 (.int .i64 k) (.int .i64 j) (.string s)
    clear p0 p1 p2 hb5 ha6 HEv HX3 HX4
    obtain ⟨⟨p0, p1, p2⟩, _⟩ := HX6.out
    by_cases hm : EvM.May ⟨nm, t, l⟩
    · have hr := HR.out
      rw [if_pos hm] at hr
      by_cases hlt : i.toNat < n
      · rw [if_pos (by rw [← HLen.out]; exact hlt)] at hr
        have HSk := Lib.hid (HS.out.kept HB6.out)
        obtain ⟨b, q, hix, hc, _⟩ := HSk.out.at v0 i.toNat (by rw [← HLen.out]; exact hlt)
        have hi3 := fun W => hix W n cap hlt
        rw [Int.toNat_of_nonneg hi0] at hi3
        obtain ⟨c0, c1, c2⟩ := hc _ (Below.refl _ _)
        simp only [Prod.mk.injEq] at hr
        obtain ⟨hr1, rfl⟩ := hr
        rw [← hr1] at c0 c1 c2
        simp only at c0 c1 c2
        have hge : decide ((n : Int) ≤ i) = false := by rw [decide_eq_false_iff_not]; omega
        have heq := fun W => eql_v k j k j s s W
        have hsm : same (⟨k, j, s⟩ : V) ⟨k, j, s⟩ = true := same_iff.2 rfl
        simp only [hsm] at heq
        clear hr1 hix hc hm hlt HR hsm
        go_wp2_with fail
        go_quiet (fail)
        go_wp2_with fail
        go_ret
        exact ⟨ret_v (x := .bool true) rfl, below_drewN HB6.out _⟩
      · rw [if_neg (by rw [← HLen.out]; exact hlt)] at hr
        have hge : decide ((n : Int) ≤ i) = true := by rw [decide_eq_true_iff]; omega
        simp only [Prod.mk.injEq] at hr
        obtain ⟨hr1, rfl⟩ := hr
        injection hr1 with h1 h2 h3
        have h4 : s = ⟨#[]⟩ := h3
        subst h1 h2 h4
        clear h3
        clear hm hlt HR
        go_wp2_with fail
        go_ret
        exact ⟨ret_v (x := .bool true) rfl, HB6.out⟩
    · have hr := HR.out
      rw [if_neg hm] at hr
      simp only [Prod.mk.injEq] at hr
      obtain ⟨hr1, rfl⟩ := hr
      injection hr1 with h1 h2 h3
      have h4 : s = ⟨#[]⟩ := h3
      subst h1 h2 h4
      clear h3
      clear hm HR
      go_wp2_with fail
      go_ret
      exact ⟨ret_v (x := .bool true) rfl, HB6.out⟩
end Go.Proofs.Ytbjgflinggelpaa.Ex

namespace Go.Proofs.Ytbjgflinggelpaa.exprLoads
open Go.ChangeShapes Go.WideShapes Go.ChangeAt Go.RowKit

theorem own : ownKnob Try.prog.godebug = none := by kernel_rfl
theorem laidOut : laidOutB Try.prog = true := by kernel_rfl

set_option maxRecDepth 100000 in
theorem lifted (os : Os) (started : os.Started) (H : Type) (enc : TypeId × Value → H) :
    ReturnsInHanded {} Try.checked os 9 .any (Rows.exprLoadsSpec.pre6 enc Try.prog Try.f9 Rows.exprLoadsRow.domain false) (Rows.exprLoadsSpec.post enc Try.prog Try.f9 false true false false) := by
  refine returnsInHanded_of_change (C := Try.checked) own started (by kernel_rfl) Try.func9
    (ChangeSpec.witness6 (enc := enc) (C := Try.checked) false ⟨#[], #[.agg #[.string ⟨#[]⟩, .int .i64 0, .slice none 0 0], .int .i64 0], []⟩ 8 (by kernel_rfl) (by kernel_rfl) (by kernel_rfl) (by kernel_rfl)) ?_
  intro W base args ds gs before hval0 hW hcnd _
  have hval : ∀ (j : Nat) t v, Try.f9.params[j]? = some t → args[j]? = some v → Value.okWide Try.prog W .any base t v := hval0
  have hW' := hW
  obtain ⟨p, q, hA0, hV, rfl, hfz, hnd⟩ := hW
  have hA : DataW.TrodAll enc Try.prog W 0 (fun _ => true) true Try.f9.params.toList args.toList ds p := hA0
  rw [Try.params9] at hA hval
  obtain ⟨v0, vs0, d0, ds0, p0, q0, hargs, rfl, rfl, h0, r0⟩ := trodAll_cons hA
  obtain ⟨v1, vs1, d1, ds1, p1, q1, rfl, rfl, rfl, h1, r1⟩ := trodAll_cons r0
  obtain ⟨rfl, rfl, rfl⟩ := trodAll_nil r1
  obtain rfl : args = #[v0, v1] := by cases args; simp_all
  obtain ⟨rfl, rfl⟩ := trodVars_none hV
  have k0 := h0
  have lt0 : ∀ x ∈ p0, x.block < W.heap.size := by obtain ⟨m, hm⟩ := k0; exact DataW.trod_lt m _ _ _ hm
  obtain ⟨ss0, nn0, a0, len0, cap0, rfl, w0⟩ := Op.open_event (hval 0 27 v0 rfl rfl) h0
  obtain ⟨a1, rfl, rfl, rfl, w1⟩ := open_int Try.underlying3 (hval 1 3 v1 rfl rfl) h1
  clear hA0 hval0
  refine (Go.Proofs.Ytbjgflinggelpaa.Ex.loads_walk ss0 nn0 a0 len0 cap0 a1 W w0 w1).mono fun e W' ⟨he, bel⟩ => ?_
  subst he
  exact ⟨_, rfl, _, _, _, [], _, [], hW', trodAll_mk1 (shut_bool Try.underlying4 _), (trodAll_cons_mk (Below.trod laidOut (by kernel_rfl) (of_decide_eq_true (by kernel_rfl)) k0 bel lt0) (trodAll_cons_mk (shut_int Try.underlying3 w1) trodAll_mk0)), rfl, bel.frame _, fun h => by cases h⟩

theorem over : Rows.exprLoadsRow.holds Try.pinned (OpenSpec.ofChange Rows.exprLoadsSpec) :=
  OpenClaim.holds_of_wide 9 Try.f9 rfl rfl rfl rfl rfl rfl rfl ⟨rfl, rfl, rfl, rfl, rfl⟩ rfl rfl rfl rfl rfl (by kernel_rfl) Try.func9 (by kernel_rfl)
    (of_decide_eq_true (by kernel_rfl)) (by unfold Func.isWrapper; first | (rw [if_pos (by decide +kernel)]; kernel_rfl) | (rw [if_neg (by decide +kernel)]; exact ⟨rfl, rfl⟩))
    (fun os started H enc _ => lifted os started H enc)

theorem proved : Rows.ExprLoadsSaid := over
#print axioms proved
end Go.Proofs.Ytbjgflinggelpaa.exprLoads
