/- ExprTells: for every input the law returns true, and each argument reads afterwards as it read before. No condition.
  The walk is the theorem Go.Proofs.Ytbjgflinggelpaa.Ex.tells_walk. -/
import Derived.Test.YtbjgflinggelpaaEventMath
import Derived.Test.YtbjgflinggelpaaValueRow
import Derived.Test.YtbjgflinggelpaaBx
import Derived.Test.YtbjgflinggelpaaStrCore
import Derived.Test.YtbjgflinggelpaaChA
import Derived.Test.YtbjgflinggelpaaRows
import Derived.Lib.SmallJoins
import Derived.Deep.Slices
import Derived.ShutString
import Derived.OpenShut
import Derived.Test.YtbjgflinggelpaaOpRow
import Derived.Test.YtbjgflinggelpaaChB
import Derived.Test.YtbjgflinggelpaaBMem
import Derived.ProofKit
import Derived.WalkKit
import Derived.ChangeOld
import Derived.Below

namespace Go.Proofs.Ytbjgflinggelpaa.Ev
open Go.RowKit Go.Proofs.Ytbjgflinggelpaa.BM Go.Proofs.Ytbjgflinggelpaa.EvM
open Go.Proofs.Ytbjgflinggelpaa.VaM (V)
open Go.Proofs.Ytbjgflinggelpaa.Va (SlV slV_len bx_new_t Bx ret_v)

/-- An event of few values. -/
def Few (e : Ev) : Prop := e.s.size ≤ 60 ∧ e.v.length ≤ 10 ∧ ∀ i, i < e.v.length → (e.v.getD i v0).s.size ≤ 100
instance (e : Ev) : Decidable (Few e) := by unfold Few; infer_instance

set_option maxRecDepth 100000 in
set_option maxHeartbeats 1000000 in
theorem Few_any (e : Ev) (A : Option Addr) (c : Nat) (w : World) (hS : SlV w A e.v c) (hz : e.s.size ≤ maxLen) :
    Calls Try.prog 13 #[.agg #[.string e.s, .int .i64 e.t, .slice A e.v.length c]] w fun r w' => r = .returned (.bool (decide (Few e))) ∧ Below w.heap.size w w' := by
  obtain ⟨nm, v, l⟩ := e
  simp only at hS hz ⊢
  unfold maxLen at hz
  have hl := slV_len hS
  have hfew : Few ⟨nm, v, l⟩ ↔ nm.size ≤ 60 ∧ l.length ≤ 10 ∧ ∀ i, i < l.length → (l.getD i v0).s.size ≤ 100 := Iff.rfl
  obtain ⟨n, hn⟩ : ∃ n, n = l.length := ⟨_, rfl⟩
  rw [← hn] at hl hfew ⊢
  have HLen := Lib.hid hn
  have HS := Lib.hid hS
  have HFew := Lib.hid hfew
  have HX0 := Lib.hid (bx_new_t w 27 (.string nm) (.int .i64 v) (.slice A n c))
  have HB0 := Lib.hid ((Below.refl w.heap.size w).alloc (Nat.le_refl _) (.cells #[.string nm, .int .i64 v, .slice A n c] 27))
  clear hn hS hfew
  obtain ⟨⟨p0, p1, p2⟩, _⟩ := HX0.out
  by_cases m1 : nm.size ≤ 60
  · have hd1 : decide ((60 : Int) < (nm.size : Int)) = false := by rw [decide_eq_false_iff_not]; omega
    by_cases m2 : n ≤ 10
    · have hd2 : decide ((10 : Int) < (n : Int)) = false := by rw [decide_eq_false_iff_not]; omega
      have HF := Lib.hid (show Few ⟨nm, v, l⟩ ↔ ∀ i, i < n → (l.getD i v0).s.size ≤ 100 from ⟨fun h => (HFew.out.1 h).2.2, fun h => HFew.out.2 ⟨m1, m2, h⟩⟩)
      clear m1 HFew
      go_enter Try.func13, Try.ntmps13
      go_wp2_with fail
      obtain ⟨w1, hw1⟩ : ∃ w1, w1 = w.alloc (.cells #[.string nm, .int .i64 v, .slice A n c] 27) := ⟨_, rfl⟩
      rw [← hw1] at HX0 HB0 ⊢
      clear hw1 p0 p1 p2
      go_loopw [3] (fun i wr => ∃ j : Nat, i = .int .i64 j ∧ j ≤ n ∧ (∀ r, r < j → (l.getD r v0).s.size ≤ 100) ∧ wr = w1) (fun i _ => n - (intOf i).toNat)
      case atStart => exact ⟨0, rfl, Nat.zero_le _, fun r hr => absurd hr (Nat.not_lt_zero r), rfl⟩
      case round =>
        obtain ⟨j, rfl, hj, hall, rfl⟩ := hrel
        have HAl := Lib.hid hall
        obtain ⟨⟨_, _, p2⟩, _⟩ := HX0.out
        clear hall
        by_cases hjn : j < n
        · obtain ⟨b, q, hix, hc, hsz, _⟩ := HS.out.at v0 j (by rw [← HLen.out]; exact hjn)
          obtain ⟨⟨fk, fn, fs⟩, hf⟩ : ∃ f, f = l.getD j v0 := ⟨_, rfl⟩
          rw [← hf] at hc hsz
          obtain ⟨_, _, c0⟩ := hc wr HB0.out
          simp only at c0 hsz
          unfold maxLen at hsz
          have hi := fun W => hix W n c hjn
          have HFl := Lib.hid hf
          clear hc hix hf
          by_cases h60 : fs.size ≤ 100
          · have hd3 : decide ((100 : Int) < (fs.size : Int)) = false := by rw [decide_eq_false_iff_not]; omega
            have HY := Lib.hid h60
            clear h60
            go_wp2_with fail
            go_roundw
            case rel =>
              refine ⟨j + 1, by go_num, by omega, fun r hr => ?_, by trivial⟩
              by_cases e : r = j
              · rw [e, ← HFl.out]
                exact HY.out
              · exact HAl.out r (by omega)
            case measure => simp [intOf]; omega
          · have hd3 : decide ((100 : Int) < (fs.size : Int)) = true := by rw [decide_eq_true_iff]; omega
            have HNo := Lib.hid (show ¬ Few ⟨nm, v, l⟩ from fun h => h60 (by have := HF.out.1 h j hjn; rw [← HFl.out] at this; exact this))
            clear h60
            go_wp2_with fail
            go_ret
            exact ⟨ret_v (x := .bool false) (by rw [decide_eq_false HNo.out]), HB0.out⟩
        · obtain rfl : j = n := by omega
          have HYes := Lib.hid (HF.out.2 HAl.out)
          go_wp2_with fail
          go_ret
          exact ⟨ret_v (x := .bool true) (by rw [decide_eq_true HYes.out]), HB0.out⟩
    · have hd2 : decide ((10 : Int) < (n : Int)) = true := by rw [decide_eq_true_iff]; omega
      have HNo := Lib.hid (show ¬ Few ⟨nm, v, l⟩ from fun h => m2 (HFew.out.1 h).2.1)
      clear m2 m1
      go_enter Try.func13, Try.ntmps13
      go_wp2_with fail
      go_ret
      exact ⟨ret_v (x := .bool false) (by rw [decide_eq_false HNo.out]), HB0.out⟩
  · have hd1 : decide ((60 : Int) < (nm.size : Int)) = true := by rw [decide_eq_true_iff]; omega
    have HNo := Lib.hid (show ¬ Few ⟨nm, v, l⟩ from fun h => m1 (HFew.out.1 h).1)
    clear m1
    go_enter Try.func13, Try.ntmps13
    go_wp2_with fail
    go_ret
    exact ⟨ret_v (x := .bool false) (by rw [decide_eq_false HNo.out]), HB0.out⟩
end Go.Proofs.Ytbjgflinggelpaa.Ev

namespace Go.Proofs.Ytbjgflinggelpaa.Sc
open Go.RowKit Go.Proofs.Ytbjgflinggelpaa.BM Go.Proofs.Ytbjgflinggelpaa.LeM Go.Proofs.Ytbjgflinggelpaa.VaM Go.Proofs.Ytbjgflinggelpaa.Va Go.Proofs.Ytbjgflinggelpaa.ScM

/-- A schema of few fields. -/
def Few (s : Sc) : Prop := s.s.size ≤ 60 ∧ s.f.length ≤ 10 ∧ ∀ i, i < s.f.length → (s.f.getD i d0).s.size ≤ 60
instance (s : Sc) : Decidable (Few s) := by unfold Few; infer_instance

set_option maxRecDepth 100000 in
set_option maxHeartbeats 1000000 in
theorem Few_any (s : Sc) (A : Option Addr) (c : Nat) (w : World) (hS : SlF w A s.f c) (hz : s.s.size ≤ maxLen) :
    Calls Try.prog 12 #[.agg #[.string s.s, .int .i64 s.v, .slice A s.f.length c]] w fun e w' => e = .returned (.bool (decide (Few s))) ∧ Below w.heap.size w w' := by
  obtain ⟨nm, v, l⟩ := s
  simp only at hS hz ⊢
  unfold maxLen at hz
  have hl := slF_len hS
  have hfew : Few ⟨nm, v, l⟩ ↔ nm.size ≤ 60 ∧ l.length ≤ 10 ∧ ∀ i, i < l.length → (l.getD i d0).s.size ≤ 60 := Iff.rfl
  obtain ⟨n, hn⟩ : ∃ n, n = l.length := ⟨_, rfl⟩
  rw [← hn] at hl hfew ⊢
  have HLen := Lib.hid hn
  have HS := Lib.hid hS
  have HFew := Lib.hid hfew
  have HX0 := Lib.hid (bx_new_t w 24 (.string nm) (.int .i64 v) (.slice A n c))
  have HB0 := Lib.hid ((Below.refl w.heap.size w).alloc (Nat.le_refl _) (.cells #[.string nm, .int .i64 v, .slice A n c] 24))
  clear hn hS hfew
  obtain ⟨⟨p0, p1, p2⟩, _⟩ := HX0.out
  by_cases m1 : nm.size ≤ 60
  · have hd1 : decide ((60 : Int) < (nm.size : Int)) = false := by rw [decide_eq_false_iff_not]; omega
    by_cases m2 : n ≤ 10
    · have hd2 : decide ((10 : Int) < (n : Int)) = false := by rw [decide_eq_false_iff_not]; omega
      have HF := Lib.hid (show Few ⟨nm, v, l⟩ ↔ ∀ i, i < n → (l.getD i d0).s.size ≤ 60 from ⟨fun h => (HFew.out.1 h).2.2, fun h => HFew.out.2 ⟨m1, m2, h⟩⟩)
      clear m1 HFew
      go_enter Try.func12, Try.ntmps12
      go_wp2_with fail
      obtain ⟨w1, hw1⟩ : ∃ w1, w1 = w.alloc (.cells #[.string nm, .int .i64 v, .slice A n c] 24) := ⟨_, rfl⟩
      rw [← hw1] at HX0 HB0 ⊢
      clear hw1 p0 p1 p2
      go_loopw [3] (fun i wr => ∃ j : Nat, i = .int .i64 j ∧ j ≤ n ∧ (∀ r, r < j → (l.getD r d0).s.size ≤ 60) ∧ wr = w1) (fun i _ => n - (intOf i).toNat)
      case atStart => exact ⟨0, rfl, Nat.zero_le _, fun r hr => absurd hr (Nat.not_lt_zero r), rfl⟩
      case round =>
        obtain ⟨j, rfl, hj, hall, rfl⟩ := hrel
        have HAl := Lib.hid hall
        obtain ⟨⟨_, _, p2⟩, _⟩ := HX0.out
        clear hall
        by_cases hjn : j < n
        · obtain ⟨b, q, hix, hc, hsz⟩ := HS.out.at j (by rw [← HLen.out]; exact hjn)
          obtain ⟨⟨fs, fk⟩, hf⟩ : ∃ f, f = l.getD j d0 := ⟨_, rfl⟩
          rw [← hf] at hc hsz
          obtain ⟨c0, _⟩ := hc wr HB0.out
          simp only at c0 hsz
          unfold maxLen at hsz
          have hi := fun W => hix W n c hjn
          have HFl := Lib.hid hf
          clear hc hix hf
          by_cases h60 : fs.size ≤ 60
          · have hd3 : decide ((60 : Int) < (fs.size : Int)) = false := by rw [decide_eq_false_iff_not]; omega
            have HY := Lib.hid h60
            clear h60
            go_wp2_with fail
            go_roundw
            case rel =>
              refine ⟨j + 1, by go_num, by omega, fun r hr => ?_, by trivial⟩
              by_cases e : r = j
              · rw [e, ← HFl.out]
                exact HY.out
              · exact HAl.out r (by omega)
            case measure => simp [intOf]; omega
          · have hd3 : decide ((60 : Int) < (fs.size : Int)) = true := by rw [decide_eq_true_iff]; omega
            have HNo := Lib.hid (show ¬ Few ⟨nm, v, l⟩ from fun h => h60 (by have := HF.out.1 h j hjn; rw [← HFl.out] at this; exact this))
            clear h60
            go_wp2_with fail
            go_ret
            exact ⟨ret_v (x := .bool false) (by rw [decide_eq_false HNo.out]), HB0.out⟩
        · obtain rfl : j = n := by omega
          have HYes := Lib.hid (HF.out.2 HAl.out)
          go_wp2_with fail
          go_ret
          exact ⟨ret_v (x := .bool true) (by rw [decide_eq_true HYes.out]), HB0.out⟩
    · have hd2 : decide ((10 : Int) < (n : Int)) = true := by rw [decide_eq_true_iff]; omega
      have HNo := Lib.hid (show ¬ Few ⟨nm, v, l⟩ from fun h => m2 (HFew.out.1 h).2.1)
      clear m2 m1
      go_enter Try.func12, Try.ntmps12
      go_wp2_with fail
      go_ret
      exact ⟨ret_v (x := .bool false) (by rw [decide_eq_false HNo.out]), HB0.out⟩
  · have hd1 : decide ((60 : Int) < (nm.size : Int)) = true := by rw [decide_eq_true_iff]; omega
    have HNo := Lib.hid (show ¬ Few ⟨nm, v, l⟩ from fun h => m1 (HFew.out.1 h).1)
    clear m1
    go_enter Try.func12, Try.ntmps12
    go_wp2_with fail
    go_ret
    exact ⟨ret_v (x := .bool false) (by rw [decide_eq_false HNo.out]), HB0.out⟩
end Go.Proofs.Ytbjgflinggelpaa.Sc

namespace Go.Proofs.Ytbjgflinggelpaa.Op
open Go.RowKit Go.ChangeShapes Go.WideShapes Go.Proofs.Ytbjgflinggelpaa.Va Go.Proofs.Ytbjgflinggelpaa.VaM Go.Proofs.Ytbjgflinggelpaa.EvM

/-- An event that came in: its values lie where its slice says. -/
def ArgE (W : World) (s : ByteArray) (t : Int) (a : Option Addr) (len cap : Nat) : Prop := ∃ l : List V, l.length = len ∧ SlV W a l cap ∧ Ev.Fine ⟨s, t, l⟩

theorem flat_cells {w : World} {b : Nat} : ∀ (l : List V) (o : Nat), (∀ i, i < l.length → CellV w b (o + i * 3) (l.getD i v0)) → ∀ (j : Nat) (u : Value), (l.flatMap encV)[j]? = some u → w.cell? ⟨b, o + j, none⟩ = some u
  | [], _, _, j, u, h => by simp at h
  | x :: l, o, hc, j, u, h => by
    rw [List.flatMap_cons] at h
    have h0 := hc 0 (by simp)
    rw [Nat.zero_mul, Nat.add_zero, List.getD_cons_zero] at h0
    obtain ⟨c0, c1, c2⟩ := h0
    by_cases hj : j < 3
    · rw [List.getElem?_append_left (by simpa [encV] using hj)] at h
      have hw : j = 0 ∨ j = 1 ∨ j = 2 := by omega
      rcases hw with rfl | rfl | rfl
      · obtain rfl : _ = u := by simpa [encV] using h
        exact c0
      · obtain rfl : _ = u := by simpa [encV] using h
        exact c1
      · obtain rfl : _ = u := by simpa [encV] using h
        exact c2
    · rw [List.getElem?_append_right (by simp only [encV, List.length_cons, List.length_nil]; omega)] at h
      have h2 := flat_cells l (o + 3) (fun i hi => by
        have h3 := hc (i + 1) (by simpa using hi)
        rw [List.getD_cons_succ] at h3
        rw [show o + 3 + i * 3 = o + (i + 1) * 3 from by omega]
        exact h3) (j - 3) u h
      rw [show o + 3 + (j - 3) = o + j from by omega] at h2
      exact h2

theorem elems_flat {w : World} {p : Nat → Prop} : ∀ l : List V, RG.Elems KV p w l (l.flatMap encV)
  | [] => rfl
  | x :: l => ⟨encV x, l.flatMap encV, rfl, rfl, elems_flat l⟩

set_option maxRecDepth 100000 in
theorem open_event {H : Type} {enc : TypeId × Value → H} {W : World} {r : Reach} {b0 : Nat} {v : Value} {d : DataW H} {p : List MemPlace} (hv : Value.okWide Try.prog W r b0 27 v)
    (h : DataW.Trod enc Try.prog W 0 (fun _ => true) true 27 v d p) : ∃ s n a len cap, v = .agg #[.string s, .int .i64 n, .slice a len cap] ∧ ArgE W s n a len cap := by
  obtain ⟨v0, v1, v2, y0, y1, y2, fuel, rfl, _, _, h0, h1, h2⟩ := Joins.open_agg3 Try.underlying27 (by kernel_rfl) (by kernel_rfl) hv h
  obtain ⟨s, hs, _, ws⟩ := DataW.trod_string Try.underlying9 h0
  obtain ⟨n, hn, _, wn⟩ := DataW.trod_int Try.underlying3 h1
  simp only [List.cons.injEq, and_true] at hs hn
  subst hs hn
  have hb := bounds_i64 wn
  rcases Deep.open_slice Try.underlying25 h2 with ⟨hcs, _⟩ | ⟨x, l, c, m, k, D, Pl, hcs, _, hl, hm, hmm, _, hr⟩
  · simp only [List.cons.injEq, and_true] at hcs
    subst hcs
    exact ⟨s, n, none, 0, 0, rfl, [], rfl, slV_none W, ws, by simp only; omega, by simp only; omega⟩
  · simp only [List.cons.injEq, and_true] at hcs
    subst hcs
    simp only [if_true] at hmm
    rw [hmm] at hr
    have each : ∀ i, i < l → ∃ x' : V, (x'.s.size ≤ maxLen ∧ Rng x') ∧ W.cell? (x.add (i * 3)) = some (.int .i64 x'.k) ∧ W.cell? (x.add (i * 3 + 1)) = some (.int .i64 x'.n) ∧ W.cell? (x.add (i * 3 + 2)) = some (.string x'.s) := by
      intro i hi
      obtain ⟨cs', hc, ht⟩ := hr i (by omega)
      rw [show Try.prog.cellsOf 38 = 3 from by kernel_rfl] at hc
      obtain ⟨_, hlen, hcell⟩ := World.cells?_some hc
      match cs', hlen with
      | [v0, v1, v2], _ =>
        obtain ⟨y0, y1, y2, k, _, _, t0, t1, t2⟩ := Deep.trod_struct3 Try.underlying38 ht
        have c1 : Try.prog.cellsOf 3 = 1 := by kernel_rfl
        have c2 : Try.prog.cellsOf 9 = 1 := by kernel_rfl
        simp only [c1] at t0 t1
        simp only [c2] at t2
        obtain ⟨n0, e0', _, _⟩ := DataW.trod_int Try.underlying3 t0
        obtain ⟨n1, e1', _, w1⟩ := DataW.trod_int Try.underlying3 t1
        obtain ⟨s, e2', _, w2⟩ := DataW.trod_string Try.underlying9 t2
        simp only [List.drop_zero, List.drop_succ_cons, List.take_succ_cons, List.take_zero, List.cons.injEq, and_true] at e0' e1' e2'
        subst e0' e1' e2'
        have g0 := hcell 0 (by decide)
        have g1 := hcell 1 (by decide)
        have g2 := hcell 2 (by decide)
        have hb := bounds_i64 w1
        refine ⟨⟨n0, n1, s⟩, ⟨w2, by simp only; omega, by simp only; omega⟩, ?_, ?_, ?_⟩
        · rw [Deep.add_add, Nat.add_zero] at g0
          exact g0
        · rw [Deep.add_add] at g1
          exact g1
        · rw [Deep.add_add] at g2
          exact g2
    let g : Nat → V := fun i => if h : i < l then Classical.choose (each i h) else EvM.v0
    have hg : ∀ i, i < l → ((g i).s.size ≤ maxLen ∧ Rng (g i)) ∧ W.cell? (x.add (i * 3)) = some (.int .i64 (g i).k) ∧ W.cell? (x.add (i * 3 + 1)) = some (.int .i64 (g i).n) ∧ W.cell? (x.add (i * 3 + 2)) = some (.string (g i).s) := by
      intro i hi
      have e : g i = Classical.choose (each i hi) := dif_pos hi
      rw [e]
      exact Classical.choose_spec (each i hi)
    have hgl : ((List.range l).map g).length = l := by simp
    have hgd : ∀ i, i < l → ((List.range l).map g).getD i EvM.v0 = g i := fun i hi => by simp [List.getD_eq_getElem?_getD, hi]
    refine ⟨s, n, some x, l, c, rfl, (List.range l).map g, hgl, ⟨⟨⟨((List.range l).map g).flatMap encV, fun h0 => ?_, elems_flat _⟩, by rw [hgl]; exact hl, (fun e => by cases e), hm⟩, fun f hf => ?_⟩, ws, by simp only; omega, by simp only; omega⟩
    · have hl0 : 0 < l := by
        rcases Nat.eq_zero_or_pos l with e | e
        · subst e
          simp at h0
        · exact e
      obtain ⟨b, o, sp⟩ := x
      have hsp : sp = none := by simpa [Addr.add] using World.cell?_spot (hg 0 hl0).2.1
      subst hsp
      refine ⟨b, o, rfl, flat_cells _ o fun i hi => ?_⟩
      rw [hgl] at hi
      rw [hgd i hi]
      obtain ⟨_, g1, g2, g3⟩ := hg i hi
      rw [Addr.add_lit] at g1 g2 g3
      exact ⟨g1, g2, g3⟩
    · obtain ⟨i, hi, rfl⟩ := List.mem_map.1 hf
      exact (hg i (List.mem_range.1 hi)).1
end Go.Proofs.Ytbjgflinggelpaa.Op

namespace Go.Proofs.Ytbjgflinggelpaa.Op
open Go.RowKit Go.ChangeShapes Go.WideShapes Go.Proofs.Ytbjgflinggelpaa.Sc Go.Proofs.Ytbjgflinggelpaa.ScM Go.Proofs.Ytbjgflinggelpaa.VaM

/-- A schema that came in: its fields lie where its slice says. -/
def ArgS (W : World) (s : ByteArray) (v : Int) (a : Option Addr) (len cap : Nat) : Prop := ∃ l : List F, l.length = len ∧ SlF W a l cap ∧ Fine ⟨s, v, l⟩

set_option maxRecDepth 100000 in
theorem two {H : Type} {enc : TypeId × Value → H} {P : Program} {w : World} {base : Nat} {spare : Nat → Bool} {held : Bool} {t : TypeId} {g0 g1 : Field} {fuel : Nat} {u0 u1 : Value} {x : DataW H × List MemPlace}
    (ht : P.underlying t = some (.struct #[g0, g1])) (h : DataW.trod enc P w base spare held fuel t [u0, u1] = some x) :
    ∃ y0 y1 n, DataW.trod enc P w base spare held n g0.type (([u0, u1].drop g0.offset).take (P.cellsOf g0.type)) = some y0 ∧ DataW.trod enc P w base spare held n g1.type (([u0, u1].drop g1.offset).take (P.cellsOf g1.type)) = some y1 := by
  obtain ⟨ys, n, _, _, _, hn, hat⟩ := DataW.trod_struct ht h
  obtain ⟨a, b, rfl⟩ : ∃ a b, ys = [a, b] := by
    match ys, hn with
    | [a, b], _ => exact ⟨a, b, rfl⟩
  exact ⟨a, b, n, by simpa using hat 0 g0 rfl, by simpa using hat 1 g1 rfl⟩

set_option maxRecDepth 100000 in
theorem open_fields {H : Type} {enc : TypeId × Value → H} {W : World} {fuel : Nat} {v2 : Value} {y2 : DataW H × List MemPlace} (h2 : DataW.trod enc Try.prog W 0 (fun _ => true) true fuel 22 [v2] = some y2) :
    ∃ a len cap, v2 = .slice a len cap ∧ ∃ l : List F, l.length = len ∧ SlF W a l cap := by
  rcases Deep.open_slice Try.underlying22 h2 with ⟨hcs, _⟩ | ⟨x, l, c, m, k, D, Pl, hcs, _, hl, hm, hmm, _, hr⟩
  · simp only [List.cons.injEq, and_true] at hcs
    subst hcs
    exact ⟨none, 0, 0, rfl, [], rfl, slF_none W⟩
  · simp only [List.cons.injEq, and_true] at hcs
    subst hcs
    simp only [if_true] at hmm
    rw [hmm] at hr
    have each : ∀ i, i < l → ∃ f : F, f.s.size ≤ maxLen ∧ W.cell? (x.add (i * 2)) = some (.string f.s) ∧ W.cell? (x.add (i * 2 + 1)) = some (.int .i64 f.k) := by
      intro i hi
      obtain ⟨cs', hc, ht⟩ := hr i (by omega)
      rw [show Try.prog.cellsOf 63 = 2 from by kernel_rfl] at hc
      obtain ⟨_, hlen, hcell⟩ := World.cells?_some hc
      match cs', hlen with
      | [v0, v1], _ =>
        obtain ⟨y0, y1, k, t0, t1⟩ := two Try.underlying63 ht
        have c1 : Try.prog.cellsOf 3 = 1 := by kernel_rfl
        have c2 : Try.prog.cellsOf 9 = 1 := by kernel_rfl
        simp only [c1, c2] at t0 t1
        obtain ⟨f0, e0', _, w0⟩ := DataW.trod_string Try.underlying9 t0
        obtain ⟨f1, e1', _, _⟩ := DataW.trod_int Try.underlying3 t1
        simp only [List.drop_zero, List.drop_succ_cons, List.take_succ_cons, List.take_zero, List.cons.injEq, and_true] at e0' e1'
        subst e0' e1'
        have g0 := hcell 0 (by decide)
        have g1 := hcell 1 (by decide)
        refine ⟨⟨f0, f1⟩, w0, ?_, ?_⟩
        · rw [Deep.add_add, Nat.add_zero] at g0
          exact g0
        · rw [Deep.add_add] at g1
          exact g1
    let g : Nat → F := fun i => if h : i < l then Classical.choose (each i h) else d0
    have hg : ∀ i, i < l → (g i).s.size ≤ maxLen ∧ W.cell? (x.add (i * 2)) = some (.string (g i).s) ∧ W.cell? (x.add (i * 2 + 1)) = some (.int .i64 (g i).k) := by
      intro i hi
      have e : g i = Classical.choose (each i hi) := dif_pos hi
      rw [e]
      exact Classical.choose_spec (each i hi)
    have hgl : ((List.range l).map g).length = l := by simp
    have hgd : ∀ i, i < l → ((List.range l).map g).getD i d0 = g i := fun i hi => by simp [List.getD_eq_getElem?_getD, hi]
    refine ⟨some x, l, c, rfl, (List.range l).map g, hgl, fun h0 => ?_, by rw [hgl]; exact hl, (fun e => by cases e), hm, fun f hf => ?_⟩
    · rw [hgl] at h0
      obtain ⟨b, o, sp⟩ := x
      have hsp : sp = none := by simpa [Addr.add] using World.cell?_spot (hg 0 h0).2.1
      subst hsp
      refine ⟨b, o, rfl, fun i hi => ?_⟩
      rw [hgl] at hi
      rw [hgd i hi]
      obtain ⟨_, g1, g2⟩ := hg i hi
      rw [Addr.add_lit] at g1 g2
      exact ⟨g1, g2⟩
    · obtain ⟨i, hi, rfl⟩ := List.mem_map.1 hf
      exact (hg i (List.mem_range.1 hi)).1

set_option maxRecDepth 100000 in
theorem open_schema {H : Type} {enc : TypeId × Value → H} {W : World} {r : Reach} {b0 : Nat} {v : Value} {d : DataW H} {p : List MemPlace} (hv : Value.okWide Try.prog W r b0 24 v)
    (h : DataW.Trod enc Try.prog W 0 (fun _ => true) true 24 v d p) : ∃ s n a len cap, v = .agg #[.string s, .int .i64 n, .slice a len cap] ∧ ArgS W s n a len cap := by
  obtain ⟨v0, v1, v2, y0, y1, y2, fuel, rfl, _, _, h0, h1, h2⟩ := Joins.open_agg3 Try.underlying24 (by kernel_rfl) (by kernel_rfl) hv h
  obtain ⟨s, hs, _, ws⟩ := DataW.trod_string Try.underlying9 h0
  obtain ⟨n, hn, _, wn⟩ := DataW.trod_int Try.underlying3 h1
  simp only [List.cons.injEq, and_true] at hs hn
  subst hs hn
  have hb := bounds_i64 wn
  obtain ⟨a, len, cap, rfl, l, hl, hf⟩ := open_fields h2
  exact ⟨s, n, a, len, cap, rfl, l, hl, hf, ws, by simp only; omega, by simp only; omega⟩

set_option maxRecDepth 100000 in
theorem open_field {H : Type} {enc : TypeId × Value → H} {W : World} {r : Reach} {b0 : Nat} {v : Value} {d : DataW H} {p : List MemPlace} (hv : Value.okWide Try.prog W r b0 63 v)
    (h : DataW.Trod enc Try.prog W 0 (fun _ => true) true 63 v d p) : ∃ s n, v = .agg #[.string s, .int .i64 n] ∧ s.size ≤ maxLen := by
  obtain ⟨v0, v1, y0, y1, fuel, rfl, _, _, h0, h1⟩ := Joins.open_agg2 Try.underlying63 (by kernel_rfl) (by kernel_rfl) hv h
  obtain ⟨s, hs, _, ws⟩ := DataW.trod_string Try.underlying9 h0
  obtain ⟨n, hn, _, _⟩ := DataW.trod_int Try.underlying3 h1
  simp only [List.cons.injEq, and_true] at hs hn
  subst hs hn
  exact ⟨s, n, rfl, ws⟩
end Go.Proofs.Ytbjgflinggelpaa.Op

namespace Go.Proofs.Ytbjgflinggelpaa.Op
open Go.RowKit Go.ChangeShapes Go.WideShapes Go.Proofs.Ytbjgflinggelpaa.VaM Go.Proofs.Ytbjgflinggelpaa.ExM Go.Proofs.Ytbjgflinggelpaa.Ex

/-- Parts that came in lie where their slice says. -/
def ArgO (W : World) (a : Option Addr) (len cap : Nat) : Prop := ∃ l : List O, l.length = len ∧ SlO W a l cap

theorem cells_o {w : World} {b : Nat} : ∀ (l : List O) (o : Nat), (∀ i, i < l.length → CellO w b (o + i * 5) (l.getD i o0)) → ∀ (j : Nat) (u : Value), (l.flatMap encO)[j]? = some u → w.cell? ⟨b, o + j, none⟩ = some u
  | [], _, _, j, u, h => by simp at h
  | x :: l, o, hc, j, u, h => by
    rw [List.flatMap_cons] at h
    have h0 := hc 0 (by simp)
    rw [Nat.zero_mul, Nat.add_zero, List.getD_cons_zero] at h0
    obtain ⟨c0, c1, c2, c3, c4⟩ := h0
    by_cases hj : j < 5
    · rw [List.getElem?_append_left (by simpa [encO] using hj)] at h
      have hw : j = 0 ∨ j = 1 ∨ j = 2 ∨ j = 3 ∨ j = 4 := by omega
      rcases hw with rfl | rfl | rfl | rfl | rfl
      · obtain rfl : _ = u := by simpa [encO] using h
        exact c0
      · obtain rfl : _ = u := by simpa [encO] using h
        exact c1
      · obtain rfl : _ = u := by simpa [encO] using h
        exact c2
      · obtain rfl : _ = u := by simpa [encO] using h
        exact c3
      · obtain rfl : _ = u := by simpa [encO] using h
        exact c4
    · rw [List.getElem?_append_right (by simp only [encO, List.length_cons, List.length_nil]; omega)] at h
      have h2 := cells_o l (o + 5) (fun i hi => by
        have h3 := hc (i + 1) (by simpa using hi)
        rw [List.getD_cons_succ] at h3
        rw [show o + 5 + i * 5 = o + (i + 1) * 5 from by omega]
        exact h3) (j - 5) u h
      rw [show o + 5 + (j - 5) = o + j from by omega] at h2
      exact h2

set_option maxRecDepth 100000 in
theorem open_ops {H : Type} {enc : TypeId × Value → H} {W : World} {r : Reach} {b0 : Nat} {v : Value} {d : DataW H} {p : List MemPlace} (hv : Value.okWide Try.prog W r b0 28 v)
    (h : DataW.Trod enc Try.prog W 0 (fun _ => true) true 28 v d p) : ∃ a len cap, v = .slice a len cap ∧ ArgO W a len cap := by
  obtain ⟨a, len, cap, rfl⟩ := okWide_slice Try.underlying28 hv
  refine ⟨a, len, cap, rfl, ?_⟩
  obtain ⟨fuel, hf⟩ := h
  simp only [Value.cells] at hf
  rcases Deep.open_slice Try.underlying28 hf with ⟨hcs, _⟩ | ⟨x, l, c, m, n, D, Pl, hcs, _, hl, hm, hmm, _, hr⟩
  · simp only [List.cons.injEq, Value.slice.injEq, and_true] at hcs
    obtain ⟨rfl, rfl, rfl⟩ := hcs
    exact ⟨[], rfl, slO_none W⟩
  · simp only [List.cons.injEq, Value.slice.injEq, and_true] at hcs
    obtain ⟨rfl, rfl, rfl⟩ := hcs
    simp only [if_true] at hmm
    subst hmm
    have each : ∀ i, i < len → ∃ y : O, Fin y ∧ W.cell? (x.add (i * 5)) = some (.int .i64 y.c) ∧ W.cell? (x.add (i * 5 + 1)) = some (.int .i64 y.a) ∧ W.cell? (x.add (i * 5 + 2)) = some (.int .i64 y.v.k) ∧ W.cell? (x.add (i * 5 + 3)) = some (.int .i64 y.v.n) ∧ W.cell? (x.add (i * 5 + 4)) = some (.string y.v.s) := by
      intro i hi
      obtain ⟨cs', hc, ht⟩ := hr i (by omega)
      rw [show Try.prog.cellsOf 52 = 5 from by kernel_rfl] at hc
      obtain ⟨_, hlen, hcell⟩ := World.cells?_some hc
      match cs', hlen with
      | [u0, u1, u2, u3, u4], _ =>
        obtain ⟨y0, y1, y2, k, _, _, t0, t1, t2⟩ := Deep.trod_struct3 Try.underlying52 ht
        have c1 : Try.prog.cellsOf 3 = 1 := by kernel_rfl
        have c2 : Try.prog.cellsOf 9 = 1 := by kernel_rfl
        have c3 : Try.prog.cellsOf 38 = 3 := by kernel_rfl
        simp only [c1] at t0 t1
        simp only [c3] at t2
        simp only [List.drop_zero, List.drop_succ_cons, List.take_succ_cons, List.take_zero] at t0 t1 t2
        obtain ⟨n0, e0', _, w0⟩ := DataW.trod_int Try.underlying3 t0
        obtain ⟨n1, e1', _, w1⟩ := DataW.trod_int Try.underlying3 t1
        obtain ⟨z0, z1, z2, k', _, _, s0, s1, s2⟩ := Deep.trod_struct3 Try.underlying38 t2
        simp only [c1] at s0 s1
        simp only [c2] at s2
        obtain ⟨n2, e2', _, _⟩ := DataW.trod_int Try.underlying3 s0
        obtain ⟨n3, e3', _, w3⟩ := DataW.trod_int Try.underlying3 s1
        obtain ⟨s, e4', _, w4⟩ := DataW.trod_string Try.underlying9 s2
        simp only [List.drop_zero, List.drop_succ_cons, List.take_succ_cons, List.take_zero, List.cons.injEq, and_true] at e0' e1' e2' e3' e4'
        subst e0' e1' e2' e3' e4'
        have g0 := hcell 0 (by decide)
        have g1 := hcell 1 (by decide)
        have g2 := hcell 2 (by decide)
        have g3 := hcell 3 (by decide)
        have g4 := hcell 4 (by decide)
        have b0 := bounds_i64 w0
        have b1 := bounds_i64 w1
        have b3 := bounds_i64 w3
        refine ⟨⟨n0, n1, ⟨n2, n3, s⟩⟩, ⟨w4, ⟨by simp only; omega, by simp only; omega⟩, ⟨by simp only; omega, by simp only; omega⟩, by simp only; omega, by simp only; omega⟩, ?_, ?_, ?_, ?_, ?_⟩
        · rw [Deep.add_add, Nat.add_zero] at g0
          exact g0
        · rw [Deep.add_add] at g1
          exact g1
        · rw [Deep.add_add] at g2
          exact g2
        · rw [Deep.add_add] at g3
          exact g3
        · rw [Deep.add_add] at g4
          exact g4
    let g : Nat → O := fun i => if h : i < len then Classical.choose (each i h) else o0
    have hg : ∀ i, i < len → Fin (g i) ∧ W.cell? (x.add (i * 5)) = some (.int .i64 (g i).c) ∧ W.cell? (x.add (i * 5 + 1)) = some (.int .i64 (g i).a) ∧ W.cell? (x.add (i * 5 + 2)) = some (.int .i64 (g i).v.k) ∧ W.cell? (x.add (i * 5 + 3)) = some (.int .i64 (g i).v.n) ∧ W.cell? (x.add (i * 5 + 4)) = some (.string (g i).v.s) := by
      intro i hi
      have e : g i = Classical.choose (each i hi) := dif_pos hi
      rw [e]
      exact Classical.choose_spec (each i hi)
    have hgl : ((List.range len).map g).length = len := by simp
    have hgd : ∀ i, i < len → ((List.range len).map g).getD i o0 = g i := fun i hi => by simp [List.getD_eq_getElem?_getD, hi]
    refine ⟨(List.range len).map g, hgl, ⟨⟨((List.range len).map g).flatMap encO, fun h0 => ?_, elems_o _ _ _⟩, by rw [hgl]; exact hl, (fun e => by cases e), hm⟩, fun f hf => ?_⟩
    · have hl0 : 0 < len := by
        rcases Nat.eq_zero_or_pos len with e | e
        · subst e
          simp at h0
        · exact e
      obtain ⟨b, o, sp⟩ := x
      have hsp : sp = none := by simpa [Addr.add] using World.cell?_spot (hg 0 hl0).2.1
      subst hsp
      refine ⟨b, o, rfl, cells_o _ o fun i hi => ?_⟩
      rw [hgl] at hi
      rw [hgd i hi]
      obtain ⟨_, g0, g1, g2, g3, g4⟩ := hg i hi
      rw [Addr.add_lit] at g0 g1 g2 g3 g4
      exact ⟨g0, g1, g2, g3, g4⟩
    · obtain ⟨i, hi, rfl⟩ := List.mem_map.1 hf
      exact (hg i (List.mem_range.1 hi)).1
end Go.Proofs.Ytbjgflinggelpaa.Op

namespace Go.Proofs.Ytbjgflinggelpaa.Ex
open Go.RowKit Go.Proofs.Ytbjgflinggelpaa.BM Go.Proofs.Ytbjgflinggelpaa.LM Go.Proofs.Ytbjgflinggelpaa.VaM Go.Proofs.Ytbjgflinggelpaa.Va Go.Proofs.Ytbjgflinggelpaa.ExM Go.Proofs.Ytbjgflinggelpaa.EvM
open Go.Proofs.Ytbjgflinggelpaa.Sc (SlF slF_len)

set_option maxRecDepth 100000 in
set_option maxHeartbeats 8000000 in
theorem tells_walk (s1 : ByteArray) (v1 : Int) (a1 : Option Addr) (n1 c1 : Nat) (s2 : ByteArray) (t2 : Int) (a2 : Option Addr) (n2 c2 : Nat) (A : Option Addr) (n3 c3 : Nat) (B : Option Addr) (n4 c4 : Nat) (x : Option Addr) (len xcap : Nat) (zs : List Int) (w : World)
    (h1 : Op.ArgS w s1 v1 a1 n1 c1) (h2 : Op.ArgE w s2 t2 a2 n2 c2) (h3 : Op.ArgO w A n3 c3) (h4 : Op.ArgO w B n4 c4) (hz : RowU8 w x len xcap zs) :
    Calls Try.prog 3 #[.agg #[.string s1, .int .i64 v1, .slice a1 n1 c1], .agg #[.string s2, .int .i64 t2, .slice a2 n2 c2], .slice A n3 c3, .slice B n4 c4, .slice x len xcap] w fun e w' => e = .returned (.bool true) ∧ Below w.heap.size w w' := by
  obtain ⟨f, e1, g1, f1⟩ := h1
  obtain ⟨vs, e2, g2, f2⟩ := h2
  obtain ⟨l, e3, g3⟩ := h3
  obtain ⟨m, e4, g4⟩ := h4
  obtain ⟨xs, ex, hx⟩ := row_slB hz
  have hF1 := fun W (hW : Below w.heap.size w W) => Sc.Few_any ⟨s1, v1, f⟩ a1 c1 W (g1.kept hW) f1.1
  have hF2 := fun W (hW : Below w.heap.size w W) => Ev.Few_any ⟨s2, t2, vs⟩ a2 c2 W (g2.kept hW) f2.1
  have hF3 := fun W (hW : Below w.heap.size w W) => Few_any l A c3 W (g3.kept hW)
  have hF4 := fun W (hW : Below w.heap.size w W) => Few_any m B c4 W (g4.kept hW)
  have hK1 := fun W (hW : Below w.heap.size w W) => Kind_any ⟨s1, v1, f⟩ l a1 c1 A c3 W (g1.kept hW) f1 (g3.kept hW)
  have hK2 := fun W (hW : Below w.heap.size w W) => refKind_any ⟨s1, v1, f⟩ l a1 c1 A c3 W (g1.kept hW) f1 (g3.kept hW)
  have hE1 := fun W (hW : Below w.heap.size w W) => Eval_any ⟨s2, t2, vs⟩ l a2 c2 A c3 W (g2.kept hW) f2 (g3.kept hW)
  have hE2 := fun W (hW : Below w.heap.size w W) => refEval_any ⟨s2, t2, vs⟩ l a2 c2 A c3 W (g2.kept hW) f2 (g3.kept hW)
  have hP1 := fun W (hW : Below w.heap.size w W) => Put_any l A c3 W (g3.kept hW)
  have hP2 := fun W (hW : Below w.heap.size w W) => refPut_any l A c3 W (g3.kept hW)
  have hG1 := fun W (hW : Below w.heap.size w W) => Get_any x xs xcap W (hx.kept hW)
  have hG2 := fun W (hW : Below w.heap.size w W) => refGet_any x xs xcap W (hx.kept hW)
  have hH1 := fun W (hW : Below w.heap.size w W) => Holds_any ⟨s2, t2, vs⟩ l a2 c2 A c3 W (g2.kept hW) f2 (g3.kept hW)
  have hH2 := fun W (hW : Below w.heap.size w W) => refHolds_any ⟨s2, t2, vs⟩ l a2 c2 A c3 W (g2.kept hW) f2 (g3.kept hW)
  have hS1 := fun W (hW : Below w.heap.size w W) => Same_any l m A c3 B c4 W (g3.kept hW) (g4.kept hW)
  have hS2 := fun W (hW : Below w.heap.size w W) => refSame_any l m A c3 B c4 W (g3.kept hW) (g4.kept hW)
  unfold TwoV at hE1 hE2
  unfold Putted at hP1 hP2
  unfold Gots at hG1 hG2
  obtain ⟨⟨kk, kf⟩, hK⟩ : ∃ r, r = kind ⟨s1, v1, f⟩ l := ⟨_, rfl⟩
  obtain ⟨⟨⟨yk, yn, ys⟩, yr⟩, hY⟩ : ∃ r, r = eval ⟨s2, t2, vs⟩ l := ⟨_, rfl⟩
  obtain ⟨⟨gl, gm, gc⟩, hgot⟩ : ∃ r, r = gotL (gL xs) := ⟨_, rfl⟩
  obtain ⟨I, hI⟩ : ∃ I, I = decide (ExM.May l) := ⟨_, rfl⟩
  obtain ⟨Hd, hHd⟩ : ∃ I, I = holds ⟨s2, t2, vs⟩ l := ⟨_, rfl⟩
  obtain ⟨E, hE⟩ : ∃ I, I = decide (l = m) := ⟨_, rfl⟩
  obtain ⟨b1, hb1⟩ : ∃ I, I = decide (Sc.Few ⟨s1, v1, f⟩) := ⟨_, rfl⟩
  obtain ⟨b2, hb2⟩ : ∃ I, I = decide (Ev.Few ⟨s2, t2, vs⟩) := ⟨_, rfl⟩
  obtain ⟨b3, hb3⟩ : ∃ I, I = decide (Few l) := ⟨_, rfl⟩
  obtain ⟨b4, hb4⟩ : ∃ I, I = decide (Few m) := ⟨_, rfl⟩
  obtain ⟨bs, hbs⟩ : ∃ b, b = ExM.pv l := ⟨_, rfl⟩
  obtain ⟨L, hL⟩ : ∃ L, L = bs.length := ⟨_, rfl⟩
  simp only [e1, e2, e3, e4, ← hK, ← hY, ← hI, ← hHd, ← hE, ← hb1, ← hb2, ← hb3, ← hb4, ← hbs, ← hL, ← hgot] at hF1 hF2 hF3 hF4 hK1 hK2 hE1 hE2 hP1 hP2 hG1 hG2 hH1 hH2 hS1 hS2
  simp only [ex] at hG1 hG2
  have hgS := fun W (A B : Option Addr) (c d : Nat) (hA : SlO W A gl c) (hB : SlO W B gl d) => refSame_any gl gl A c B d W hA hB
  simp only [decide_true] at hgS
  obtain ⟨ng, hng⟩ : ∃ n, n = gl.length := ⟨_, rfl⟩
  simp only [← hng] at hG1 hG2 hgS
  have HF1 := Lib.hid hF1
  have HF2 := Lib.hid hF2
  have HF3 := Lib.hid hF3
  have HF4 := Lib.hid hF4
  have HK1 := Lib.hid hK1
  have HK2 := Lib.hid hK2
  have HE1 := Lib.hid hE1
  have HE2 := Lib.hid hE2
  have HP1 := Lib.hid hP1
  have HP2 := Lib.hid hP2
  have HG1 := Lib.hid hG1
  have HG2 := Lib.hid hG2
  have HH1 := Lib.hid hH1
  have HH2 := Lib.hid hH2
  have HS1 := Lib.hid hS1
  have HS2 := Lib.hid hS2
  have HGs := Lib.hid hgS
  have HLn := Lib.hid hL
  have ha1 := (Below.refl w.heap.size w).alloc (Nat.le_refl _) (.cells #[.string s1, .int .i64 v1, .slice a1 n1 c1] 24)
  obtain ⟨u1, hu1⟩ : ∃ u, u = w.alloc (.cells #[.string s1, .int .i64 v1, .slice a1 n1 c1] 24) := ⟨_, rfl⟩
  have hs1 : u1.heap.size = w.heap.size + 1 := by rw [hu1]; simp
  have hx1 := bx_new_t w 24 (.string s1) (.int .i64 v1) (.slice a1 n1 c1)
  rw [← hu1] at ha1 hx1
  have ha2 := (Below.refl u1.heap.size u1).alloc (Nat.le_refl _) (.cells #[.string s2, .int .i64 t2, .slice a2 n2 c2] 27)
  have hx2 := bx_new_t u1 27 (.string s2) (.int .i64 t2) (.slice a2 n2 c2)
  have hx1' := hx1.kept ha2
  have hb := bt ha1 ha2
  rw [hs1] at hx2
  rw [hu1] at hx1' hx2 hb
  have HX0 := Lib.hid hx1'
  have HY0 := Lib.hid hx2
  have HB0 := Lib.hid hb
  clear ha1 ha2 hx1 hx2 hx1' hb hu1 hs1 hF1 hF2 hF3 hF4 hK1 hK2 hE1 hE2 hP1 hP2 hG1 hG2 hH1 hH2 hS1 hS2 hgS hK hY hI hHd hE hb1 hb2 hb3 hb4 hbs hL hgot hng u1 e1 e2 e3 e4 ex hx hz g1 g2 g3 g4 f1 f2
  go_enter Try.func3, Try.ntmps3
  go_wp2_with fail
  refine (awake_any _).mono ?_
  rintro e w1 ⟨rfl, hb⟩
  have HB1 := Lib.hid (bt HB0.out hb)
  have HX1 := Lib.hid (HX0.out.kept hb)
  have HY1 := Lib.hid (HY0.out.kept hb)
  clear hb HB0 HX0 HY0
  obtain ⟨⟨p0, p1, p2⟩, _⟩ := HX1.out
  go_wp2_with fail
  refine (HF1.out _ HB1.out).mono ?_
  rintro e w2 ⟨rfl, hb⟩
  have HB2 := Lib.hid (bt HB1.out hb)
  have HX2 := Lib.hid (HX1.out.kept hb)
  have HY2 := Lib.hid (HY1.out.kept hb)
  clear hb HB1 HX1 HY1 p0 p1 p2 HF1
  obtain ⟨⟨p0, p1, p2⟩, _⟩ := HY2.out
  go_wp2_with fail
  refine (HF2.out _ HB2.out).mono ?_
  rintro e w3 ⟨rfl, hb⟩
  have HB3 := Lib.hid (bt HB2.out hb)
  have HX3 := Lib.hid (HX2.out.kept hb)
  have HY3 := Lib.hid (HY2.out.kept hb)
  clear hb HB2 HX2 HY2 p0 p1 p2 HF2
  go_wp2_with fail
  refine (HF3.out _ HB3.out).mono ?_
  rintro e w4 ⟨rfl, hb⟩
  have HB4 := Lib.hid (bt HB3.out hb)
  have HX4 := Lib.hid (HX3.out.kept hb)
  have HY4 := Lib.hid (HY3.out.kept hb)
  clear hb HB3 HX3 HY3 HF3
  go_wp2_with fail
  refine (HF4.out _ HB4.out).mono ?_
  rintro e w5 ⟨rfl, hb⟩
  have HB5 := Lib.hid (bt HB4.out hb)
  have HX5 := Lib.hid (HX4.out.kept hb)
  have HY5 := Lib.hid (HY4.out.kept hb)
  clear hb HB4 HX4 HY4 HF4
  by_cases hpq : b1 = true ∧ b2 = true ∧ b3 = true ∧ b4 = true ∧ len ≤ 400
  · obtain ⟨rfl, rfl, rfl, rfl, q1⟩ := hpq
    have hd1 : decide ((400 : Int) < (len : Int)) = false := by rw [decide_eq_false_iff_not]; omega
    obtain ⟨⟨p0, p1, p2⟩, _⟩ := HX5.out
    go_wp2_with fail
    refine (HK1.out _ HB5.out).mono ?_
    rintro e w6 ⟨rfl, hb⟩
    have HB6 := Lib.hid (bt HB5.out hb)
    have HX6 := Lib.hid (HX5.out.kept hb)
    have HY6 := Lib.hid (HY5.out.kept hb)
    clear hb HB5 HX5 HY5 p0 p1 p2 HK1
    obtain ⟨⟨p0, p1, p2⟩, _⟩ := HX6.out
    go_wp2_with fail
    refine (HK2.out _ HB6.out).mono ?_
    rintro e w7 ⟨rfl, hb⟩
    have HB7 := Lib.hid (bt HB6.out hb)
    have HX7 := Lib.hid (HX6.out.kept hb)
    have HY7 := Lib.hid (HY6.out.kept hb)
    clear hb HB6 HX6 HY6 p0 p1 p2 HK2
    obtain ⟨⟨p0, p1, p2⟩, _⟩ := HY7.out
    go_wp2_with fail
    refine (HE1.out _ HB7.out).mono ?_
    rintro e w8 ⟨rfl, hb⟩
    have ha := (Below.refl w8.heap.size w8).alloc (Nat.le_refl _) (.cells #[.int .i64 yk, .int .i64 yn, .string ys] 38)
    have HB8 := Lib.hid (bt HB7.out (bt hb ha))
    have HX8 := Lib.hid (HX7.out.kept (bt hb ha))
    have HY8 := Lib.hid (HY7.out.kept (bt hb ha))
    have HC8 := Lib.hid (bx_new_t w8 38 (.int .i64 yk) (.int .i64 yn) (.string ys))
    clear hb ha HB7 HX7 HY7 p0 p1 p2 HE1
    obtain ⟨⟨p0, p1, p2⟩, _⟩ := HY8.out
    go_wp2_with fail
    obtain ⟨u8, hu8⟩ : ∃ u, u = w8.alloc (.cells #[.int .i64 yk, .int .i64 yn, .string ys] 38) := ⟨_, rfl⟩
    obtain ⟨bv, hbv⟩ : ∃ b, b = w8.heap.size := ⟨_, rfl⟩
    rw [← hu8] at HB8 HX8 HY8 HC8 ⊢
    rw [← hbv] at HC8 ⊢
    clear hu8 hbv
    clear p0 p1 p2
    refine (HE2.out _ HB8.out).mono ?_
    rintro e w9 ⟨rfl, hb⟩
    have ha := (Below.refl w9.heap.size w9).alloc (Nat.le_refl _) (.cells #[.int .i64 yk, .int .i64 yn, .string ys] 38)
    have HB9 := Lib.hid (bt HB8.out (bt hb ha))
    have HX9 := Lib.hid (HX8.out.kept (bt hb ha))
    have HY9 := Lib.hid (HY8.out.kept (bt hb ha))
    have HC9 := Lib.hid (HC8.out.kept (bt hb ha))
    have HD9 := Lib.hid (bx_new_t w9 38 (.int .i64 yk) (.int .i64 yn) (.string ys))
    clear hb ha HB8 HX8 HY8 HC8 HE2
    go_wp2_with fail
    obtain ⟨u9, hu9⟩ : ∃ u, u = w9.alloc (.cells #[.int .i64 yk, .int .i64 yn, .string ys] 38) := ⟨_, rfl⟩
    obtain ⟨bw, hbw⟩ : ∃ b, b = w9.heap.size := ⟨_, rfl⟩
    rw [← hu9] at HB9 HX9 HY9 HC9 HD9 ⊢
    rw [← hbw] at HD9 ⊢
    clear hu9 hbw
    refine (HP1.out _ HB9.out).mono ?_
    rintro e w10 ⟨A1, d1, rfl, ht, hb⟩
    have HB10 := Lib.hid (bt HB9.out hb)
    have HX10 := Lib.hid (HX9.out.kept hb)
    have HY10 := Lib.hid (HY9.out.kept hb)
    have HC10 := Lib.hid (HC9.out.kept hb)
    have HD10 := Lib.hid (HD9.out.kept hb)
    have HU10 := Lib.hid (ht)
    clear hb ht HB9 HX9 HY9 HC9 HD9 HP1
    go_wp2_with fail
    refine (HP2.out _ HB10.out).mono ?_
    rintro e w11 ⟨A2, d2, rfl, ht, hb⟩
    have HB11 := Lib.hid (bt HB10.out hb)
    have HX11 := Lib.hid (HX10.out.kept hb)
    have HY11 := Lib.hid (HY10.out.kept hb)
    have HC11 := Lib.hid (HC10.out.kept hb)
    have HD11 := Lib.hid (HD10.out.kept hb)
    have HU11 := Lib.hid (HU10.out.kept hb)
    have HV11 := Lib.hid (ht)
    clear hb ht HB10 HX10 HY10 HC10 HD10 HU10 HP2
    go_wp2_with fail
    refine (HG1.out _ HB11.out).mono ?_
    rintro e w12 ⟨A3, d3, rfl, ht, hb⟩
    have HB12 := Lib.hid (bt HB11.out hb)
    have HX12 := Lib.hid (HX11.out.kept hb)
    have HY12 := Lib.hid (HY11.out.kept hb)
    have HC12 := Lib.hid (HC11.out.kept hb)
    have HD12 := Lib.hid (HD11.out.kept hb)
    have HU12 := Lib.hid (HU11.out.kept hb)
    have HV12 := Lib.hid (HV11.out.kept hb)
    have HS12 := Lib.hid (ht)
    clear hb ht HB11 HX11 HY11 HC11 HD11 HU11 HV11 HG1
    go_wp2_with fail
    refine (HG2.out _ HB12.out).mono ?_
    rintro e w13 ⟨A4, d4, rfl, ht, hb⟩
    have HB13 := Lib.hid (bt HB12.out hb)
    have HX13 := Lib.hid (HX12.out.kept hb)
    have HY13 := Lib.hid (HY12.out.kept hb)
    have HC13 := Lib.hid (HC12.out.kept hb)
    have HD13 := Lib.hid (HD12.out.kept hb)
    have HU13 := Lib.hid (HU12.out.kept hb)
    have HV13 := Lib.hid (HV12.out.kept hb)
    have HS13 := Lib.hid (HS12.out.kept hb)
    have HR13 := Lib.hid (ht)
    clear hb ht HB12 HX12 HY12 HC12 HD12 HU12 HV12 HS12 HG2
    obtain ⟨⟨p0, p1, p2⟩, _⟩ := HC13.out
    obtain ⟨⟨q0, q1', q2⟩, _⟩ := HD13.out
    have heq := fun W => eql_v yk yn yk yn ys ys W
    have hsm : same (⟨yk, yn, ys⟩ : V) ⟨yk, yn, ys⟩ = true := same_iff.2 rfl
    simp only [hsm] at heq
    obtain ⟨S, hS⟩ : ∃ S, S = strOfNums bs := ⟨_, rfl⟩
    have hee : (S.toList == S.toList) = true := by simp
    have hcx := conv_any HU13.out.1 d1 9 Try.underlying9
    have hcy := conv_any HV13.out.1 d2 9 Try.underlying9
    rw [← hS, ← HLn.out] at hcx hcy
    have hk1 : (kk == kk) = true := by simp
    have hk2 : (kf == kf) = true := by simp
    have hk3 : (yr == yr) = true := by simp
    have hk4 : (I == I) = true := by simp
    have hk5 : ((gm : Int) == gm) = true := by simp
    have hk6 : (gc == gc) = true := by simp
    have HGs13 := Lib.hid (HGs.out _ A3 A4 d3 d4 HS13.out HR13.out)
    clear hS hsm HGs
    go_wp2_with fail
    refine HGs13.out.mono ?_
    rintro e w14 ⟨rfl, hb⟩
    have HB14 := Lib.hid (bt HB13.out hb)
    have HX14 := Lib.hid (HX13.out.kept hb)
    have HY14 := Lib.hid (HY13.out.kept hb)
    have HC14 := Lib.hid (HC13.out.kept hb)
    have HD14 := Lib.hid (HD13.out.kept hb)
    have HU14 := Lib.hid (HU13.out.kept hb)
    have HV14 := Lib.hid (HV13.out.kept hb)
    have HS14 := Lib.hid (HS13.out.kept hb)
    have HR14 := Lib.hid (HR13.out.kept hb)
    clear hb HB13 HX13 HY13 HC13 HD13 HU13 HV13 HS13 HR13 p0 p1 p2 q0 q1' q2 heq hee hcx hcy hk1 hk2 hk3 hk4 hk5 hk6
    obtain ⟨⟨p0, p1, p2⟩, _⟩ := HY14.out
    go_wp2_with fail
    refine (HH2.out _ HB14.out).mono ?_
    rintro e w15 ⟨rfl, hb⟩
    have HB15 := Lib.hid (bt HB14.out hb)
    have HX15 := Lib.hid (HX14.out.kept hb)
    have HY15 := Lib.hid (HY14.out.kept hb)
    have HC15 := Lib.hid (HC14.out.kept hb)
    have HD15 := Lib.hid (HD14.out.kept hb)
    have HU15 := Lib.hid (HU14.out.kept hb)
    have HV15 := Lib.hid (HV14.out.kept hb)
    have HS15 := Lib.hid (HS14.out.kept hb)
    have HR15 := Lib.hid (HR14.out.kept hb)
    clear hb HB14 HX14 HY14 HC14 HD14 HU14 HV14 HS14 HR14 p0 p1 p2 HH2
    go_wp2_with fail
    refine (HS2.out _ HB15.out).mono ?_
    rintro e w16 ⟨rfl, hb⟩
    have HB16 := Lib.hid (bt HB15.out hb)
    have HX16 := Lib.hid (HX15.out.kept hb)
    have HY16 := Lib.hid (HY15.out.kept hb)
    have HC16 := Lib.hid (HC15.out.kept hb)
    have HD16 := Lib.hid (HD15.out.kept hb)
    have HU16 := Lib.hid (HU15.out.kept hb)
    have HV16 := Lib.hid (HV15.out.kept hb)
    have HS16 := Lib.hid (HS15.out.kept hb)
    have HR16 := Lib.hid (HR15.out.kept hb)
    clear hb HB15 HX15 HY15 HC15 HD15 HU15 HV15 HS15 HR15 HS2
    have hk7 : (Hd == Hd) = true := by simp
    have hk8 : (E == E) = true := by simp
    obtain ⟨⟨p0, p1, p2⟩, _⟩ := HY16.out
    go_wp2_with fail
    refine (HH1.out _ HB16.out).mono ?_
    rintro e w17 ⟨rfl, hb⟩
    have HB17 := Lib.hid (bt HB16.out hb)
    have HX17 := Lib.hid (HX16.out.kept hb)
    have HY17 := Lib.hid (HY16.out.kept hb)
    have HC17 := Lib.hid (HC16.out.kept hb)
    have HD17 := Lib.hid (HD16.out.kept hb)
    have HU17 := Lib.hid (HU16.out.kept hb)
    have HV17 := Lib.hid (HV16.out.kept hb)
    have HS17 := Lib.hid (HS16.out.kept hb)
    have HR17 := Lib.hid (HR16.out.kept hb)
    clear hb HB16 HX16 HY16 HC16 HD16 HU16 HV16 HS16 HR16 p0 p1 p2 HH1
    go_wp2_with fail
    refine (HS1.out _ HB17.out).mono ?_
    rintro e w18 ⟨rfl, hb⟩
    have HB18 := Lib.hid (bt HB17.out hb)
    have HX18 := Lib.hid (HX17.out.kept hb)
    have HY18 := Lib.hid (HY17.out.kept hb)
    have HC18 := Lib.hid (HC17.out.kept hb)
    have HD18 := Lib.hid (HD17.out.kept hb)
    have HU18 := Lib.hid (HU17.out.kept hb)
    have HV18 := Lib.hid (HV17.out.kept hb)
    have HS18 := Lib.hid (HS17.out.kept hb)
    have HR18 := Lib.hid (HR17.out.kept hb)
    clear hb HB17 HX17 HY17 HC17 HD17 HU17 HV17 HS17 HR17 HS1
    go_wp2_with fail
    go_ret
    exact ⟨ret_v (x := .bool true) (by first | rfl | simp), HB18.out⟩
  · have hw : b1 = false ∨ (b1 = true ∧ b2 = false) ∨ (b1 = true ∧ b2 = true ∧ b3 = false) ∨ (b1 = true ∧ b2 = true ∧ b3 = true ∧ b4 = false) ∨ (b1 = true ∧ b2 = true ∧ b3 = true ∧ b4 = true ∧ 400 < len) := by
      by_cases hl : len ≤ 400
      · revert hpq
        cases b1 <;> cases b2 <;> cases b3 <;> cases b4 <;> simp [hl]
      · have hl' : 400 < len := Nat.lt_of_not_le hl
        cases b1 <;> cases b2 <;> cases b3 <;> cases b4 <;> simp [hl']
    clear hpq
    rcases hw with rfl | ⟨rfl, rfl⟩ | ⟨rfl, rfl, rfl⟩ | ⟨rfl, rfl, rfl, rfl⟩ | ⟨rfl, rfl, rfl, rfl, hl⟩
    case inr.inr.inr.inr =>
      have hd1 : decide ((400 : Int) < (len : Int)) = true := by rw [decide_eq_true_iff]; omega
      go_wp2_with fail
      go_ret
      exact ⟨ret_v (x := .bool true) rfl, HB5.out⟩
    all_goals
      go_wp2_with fail
      go_ret
      exact ⟨ret_v (x := .bool true) rfl, HB5.out⟩
end Go.Proofs.Ytbjgflinggelpaa.Ex

namespace Go.Proofs.Ytbjgflinggelpaa.Op
open Go.RowKit Go.ChangeShapes Go.WideShapes Go.Proofs.Ytbjgflinggelpaa.BM

set_option maxRecDepth 100000 in
theorem open_bytes_cells {H : Type} {enc : TypeId × Value → H} {W : World} {fuel : Nat} {v : Value} {x : DataW H × List MemPlace} (h : DataW.trod enc Try.prog W 0 (fun _ => true) true fuel 29 [v] = some x) :
    ∃ a len cap zs, v = .slice a len cap ∧ RowU8 W a len cap zs := by
  rcases open_ints Try.underlying29 Try.underlying5 (by kernel_rfl) h with ⟨hcs, _⟩ | ⟨x, l, c, zs, hcs, _, hl, hm, hz, _, hcell, hwz⟩
  · exact ⟨none, 0, 0, [], by simpa using hcs, .inl ⟨rfl, rfl, rfl, rfl⟩⟩
  · exact ⟨some x, l, c, zs, by simpa using hcs, .inr ⟨x, rfl, hl, hm, by simpa using hz, hcell, hwz⟩⟩

set_option maxRecDepth 100000 in
theorem open_bytes {H : Type} {enc : TypeId × Value → H} {W : World} {r : Reach} {b0 : Nat} {v : Value} {d : DataW H} {p : List MemPlace} (hv : Value.okWide Try.prog W r b0 29 v)
    (h : DataW.Trod enc Try.prog W 0 (fun _ => true) true 29 v d p) : ∃ a len cap zs, v = .slice a len cap ∧ RowU8 W a len cap zs := by
  obtain ⟨a, len, cap, rfl⟩ := okWide_slice Try.underlying29 hv
  obtain ⟨fuel, hf⟩ := h
  simp only [Value.cells] at hf
  exact open_bytes_cells hf
end Go.Proofs.Ytbjgflinggelpaa.Op

namespace Go.Proofs.Ytbjgflinggelpaa.exprTells
open Go.ChangeShapes Go.WideShapes Go.ChangeAt Go.RowKit

theorem own : ownKnob Try.prog.godebug = none := by kernel_rfl
theorem laidOut : laidOutB Try.prog = true := by kernel_rfl

set_option maxRecDepth 100000 in
theorem lifted (os : Os) (started : os.Started) (H : Type) (enc : TypeId × Value → H) :
    ReturnsInHanded {} Try.checked os 3 .any (Rows.exprTellsSpec.pre6 enc Try.prog Try.f3 Rows.exprTellsRow.domain false) (Rows.exprTellsSpec.post enc Try.prog Try.f3 false true false false) := by
  refine returnsInHanded_of_change (C := Try.checked) own started (by kernel_rfl) Try.func3
    (ChangeSpec.witness6 (enc := enc) (C := Try.checked) false ⟨#[], #[.agg #[.string ⟨#[]⟩, .int .i64 0, .slice none 0 0], .agg #[.string ⟨#[]⟩, .int .i64 0, .slice none 0 0], .slice none 0 0, .slice none 0 0, .slice none 0 0], []⟩ 8 (by kernel_rfl) (by kernel_rfl) (by kernel_rfl) (by kernel_rfl)) ?_
  intro W base args ds gs before hval0 hW hcnd _
  have hval : ∀ (j : Nat) t v, Try.f3.params[j]? = some t → args[j]? = some v → Value.okWide Try.prog W .any base t v := hval0
  have hW' := hW
  obtain ⟨p, q, hA0, hV, rfl, hfz, hnd⟩ := hW
  have hA : DataW.TrodAll enc Try.prog W 0 (fun _ => true) true Try.f3.params.toList args.toList ds p := hA0
  rw [Try.params3] at hA hval
  obtain ⟨v0, vs0, d0, ds0, p0, q0, hargs, rfl, rfl, h0, r0⟩ := trodAll_cons hA
  obtain ⟨v1, vs1, d1, ds1, p1, q1, rfl, rfl, rfl, h1, r1⟩ := trodAll_cons r0
  obtain ⟨v2, vs2, d2, ds2, p2, q2, rfl, rfl, rfl, h2, r2⟩ := trodAll_cons r1
  obtain ⟨v3, vs3, d3, ds3, p3, q3, rfl, rfl, rfl, h3, r3⟩ := trodAll_cons r2
  obtain ⟨v4, vs4, d4, ds4, p4, q4, rfl, rfl, rfl, h4, r4⟩ := trodAll_cons r3
  obtain ⟨rfl, rfl, rfl⟩ := trodAll_nil r4
  obtain rfl : args = #[v0, v1, v2, v3, v4] := by cases args; simp_all
  obtain ⟨rfl, rfl⟩ := trodVars_none hV
  have k0 := h0
  have lt0 : ∀ x ∈ p0, x.block < W.heap.size := by obtain ⟨m, hm⟩ := k0; exact DataW.trod_lt m _ _ _ hm
  obtain ⟨ss0, nn0, a0, len0, cap0, rfl, w0⟩ := Op.open_schema (hval 0 24 v0 rfl rfl) h0
  have k1 := h1
  have lt1 : ∀ x ∈ p1, x.block < W.heap.size := by obtain ⟨m, hm⟩ := k1; exact DataW.trod_lt m _ _ _ hm
  obtain ⟨ss1, nn1, a1, len1, cap1, rfl, w1⟩ := Op.open_event (hval 1 27 v1 rfl rfl) h1
  have k2 := h2
  have lt2 : ∀ x ∈ p2, x.block < W.heap.size := by obtain ⟨m, hm⟩ := k2; exact DataW.trod_lt m _ _ _ hm
  obtain ⟨a2, len2, cap2, rfl, w2⟩ := Op.open_ops (hval 2 28 v2 rfl rfl) h2
  have k3 := h3
  have lt3 : ∀ x ∈ p3, x.block < W.heap.size := by obtain ⟨m, hm⟩ := k3; exact DataW.trod_lt m _ _ _ hm
  obtain ⟨a3, len3, cap3, rfl, w3⟩ := Op.open_ops (hval 3 28 v3 rfl rfl) h3
  have k4 := h4
  have lt4 : ∀ x ∈ p4, x.block < W.heap.size := by obtain ⟨m, hm⟩ := k4; exact DataW.trod_lt m _ _ _ hm
  obtain ⟨a4, len4, cap4, z4, rfl, w4⟩ := Op.open_bytes (hval 4 29 v4 rfl rfl) h4
  clear hA0 hval0
  refine (Go.Proofs.Ytbjgflinggelpaa.Ex.tells_walk ss0 nn0 a0 len0 cap0 ss1 nn1 a1 len1 cap1 a2 len2 cap2 a3 len3 cap3 a4 len4 cap4 z4 W w0 w1 w2 w3 w4).mono fun e W' ⟨he, bel⟩ => ?_
  subst he
  exact ⟨_, rfl, _, _, _, [], _, [], hW', trodAll_mk1 (shut_bool Try.underlying4 _), (trodAll_cons_mk (Below.trod laidOut (by kernel_rfl) (of_decide_eq_true (by kernel_rfl)) k0 bel lt0) (trodAll_cons_mk (Below.trod laidOut (by kernel_rfl) (of_decide_eq_true (by kernel_rfl)) k1 bel lt1) (trodAll_cons_mk (Below.trod laidOut (by kernel_rfl) (of_decide_eq_true (by kernel_rfl)) k2 bel lt2) (trodAll_cons_mk (Below.trod laidOut (by kernel_rfl) (of_decide_eq_true (by kernel_rfl)) k3 bel lt3) (trodAll_cons_mk (Below.trod laidOut (by kernel_rfl) (of_decide_eq_true (by kernel_rfl)) k4 bel lt4) trodAll_mk0))))), rfl, bel.frame _, fun h => by cases h⟩

theorem over : Rows.exprTellsRow.holds Try.pinned (OpenSpec.ofChange Rows.exprTellsSpec) :=
  OpenClaim.holds_of_wide 3 Try.f3 rfl rfl rfl rfl rfl rfl rfl ⟨rfl, rfl, rfl, rfl, rfl⟩ rfl rfl rfl rfl rfl (by kernel_rfl) Try.func3 (by kernel_rfl)
    (of_decide_eq_true (by kernel_rfl)) (by unfold Func.isWrapper; first | (rw [if_pos (by decide +kernel)]; kernel_rfl) | (rw [if_neg (by decide +kernel)]; exact ⟨rfl, rfl⟩))
    (fun os started H enc _ => lifted os started H enc)

theorem proved : Rows.ExprTellsSaid := over
#print axioms proved
end Go.Proofs.Ytbjgflinggelpaa.exprTells
