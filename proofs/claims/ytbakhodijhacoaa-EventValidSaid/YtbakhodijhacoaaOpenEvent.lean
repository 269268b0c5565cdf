/- What comes in, opened: an event; no function of the program; nothing is asked. -/
import Derived.Test.YtbakhodijhacoaaRows
import Derived.Test.YtbakhodijhacoaaEventMay
import Derived.Lib.SmallJoins
import Derived.Deep.Slices
import Derived.ShutString
import Derived.OpenShut
namespace Go.Proofs.Ytbakhodijhacoaa.Op
open Go.RowKit Go.ChangeShapes Go.WideShapes Go.Proofs.Ytbakhodijhacoaa.Va Go.Proofs.Ytbakhodijhacoaa.VaM Go.Proofs.Ytbakhodijhacoaa.EvM

/-- An event that came in: its values lie where its slice says. -/
def ArgE (W : World) (s : ByteArray) (t : Int) (a : Option Addr) (len cap : Nat) : Prop := ∃ l : List V, l.length = len ∧ SlV W a l cap ∧ Ev.Fine ⟨s, t, l⟩

theorem flat_cells {w : World} {b : Nat} : ∀ (l : List V) (o : Nat), (∀ i, i < l.length → CellV w b (o + i * 3) (l.getD i v0)) → ∀ (j : Nat) (u : Value), (l.flatMap encV)[j]? = some u → w.cell? ⟨b, o + j, none⟩ = some u
  | [], _, _, j, u, h => by simp at h
  | x :: l, o, hc, j, u, h => by
    rw [List.flatMap_cons] at h
    have h0 := hc 0 (by simp)
    rw [Nat.zero_mul, Nat.add_zero, List.getD_cons_zero] at h0
    obtain ⟨c0, c1, c2⟩ := h0
    by_cases hj : j < 3
    · rw [List.getElem?_append_left (by simpa [encV] using hj)] at h
      have hw : j = 0 ∨ j = 1 ∨ j = 2 := by omega
      rcases hw with rfl | rfl | rfl
      · obtain rfl : _ = u := by simpa [encV] using h
        exact c0
      · obtain rfl : _ = u := by simpa [encV] using h
        exact c1
      · obtain rfl : _ = u := by simpa [encV] using h
        exact c2
    · rw [List.getElem?_append_right (by simp only [encV, List.length_cons, List.length_nil]; omega)] at h
      have h2 := flat_cells l (o + 3) (fun i hi => by
        have h3 := hc (i + 1) (by simpa using hi)
        rw [List.getD_cons_succ] at h3
        rw [show o + 3 + i * 3 = o + (i + 1) * 3 from by omega]
        exact h3) (j - 3) u h
      rw [show o + 3 + (j - 3) = o + j from by omega] at h2
      exact h2

theorem elems_flat {w : World} {p : Nat → Prop} : ∀ l : List V, RG.Elems KV p w l (l.flatMap encV)
  | [] => rfl
  | x :: l => ⟨encV x, l.flatMap encV, rfl, rfl, elems_flat l⟩

theorem open_event {H : Type} {enc : TypeId × Value → H} {W : World} {r : Reach} {b0 : Nat} {v : Value} {d : DataW H} {p : List MemPlace} (hv : Value.okWide Try.prog W r b0 27 v)
    (h : DataW.Trod enc Try.prog W 0 (fun _ => true) true 27 v d p) : ∃ s n a len cap, v = .agg #[.string s, .int .i64 n, .slice a len cap] ∧ ArgE W s n a len cap := by
  obtain ⟨v0, v1, v2, y0, y1, y2, fuel, rfl, _, _, h0, h1, h2⟩ := Joins.open_agg3 Try.underlying27 (by kernel_rfl) (by kernel_rfl) hv h
  obtain ⟨s, hs, _, ws⟩ := DataW.trod_string Try.underlying9 h0
  obtain ⟨n, hn, _, wn⟩ := DataW.trod_int Try.underlying3 h1
  simp only [List.cons.injEq, and_true] at hs hn
  subst hs hn
  have hb := bounds_i64 wn
  rcases Deep.open_slice Try.underlying25 h2 with ⟨hcs, _⟩ | ⟨x, l, c, m, k, D, Pl, hcs, _, hl, hm, hmm, _, hr⟩
  · simp only [List.cons.injEq, and_true] at hcs
    subst hcs
    exact ⟨s, n, none, 0, 0, rfl, [], rfl, slV_none W, ws, by simp only; omega, by simp only; omega⟩
  · simp only [List.cons.injEq, and_true] at hcs
    subst hcs
    simp only [if_true] at hmm
    rw [hmm] at hr
    have each : ∀ i, i < l → ∃ x' : V, (x'.s.size ≤ maxLen ∧ Rng x') ∧ W.cell? (x.add (i * 3)) = some (.int .i64 x'.k) ∧ W.cell? (x.add (i * 3 + 1)) = some (.int .i64 x'.n) ∧ W.cell? (x.add (i * 3 + 2)) = some (.string x'.s) := by
      intro i hi
      obtain ⟨cs', hc, ht⟩ := hr i (by omega)
      rw [show Try.prog.cellsOf 44 = 3 from by kernel_rfl] at hc
      obtain ⟨_, hlen, hcell⟩ := World.cells?_some hc
      match cs', hlen with
      | [v0, v1, v2], _ =>
        obtain ⟨y0, y1, y2, k, _, _, t0, t1, t2⟩ := Deep.trod_struct3 Try.underlying44 ht
        have c1 : Try.prog.cellsOf 3 = 1 := by kernel_rfl
        have c2 : Try.prog.cellsOf 9 = 1 := by kernel_rfl
        simp only [c1] at t0 t1
        simp only [c2] at t2
        obtain ⟨n0, e0', _, _⟩ := DataW.trod_int Try.underlying3 t0
        obtain ⟨n1, e1', _, w1⟩ := DataW.trod_int Try.underlying3 t1
        obtain ⟨s, e2', _, w2⟩ := DataW.trod_string Try.underlying9 t2
        simp only [List.drop_zero, List.drop_succ_cons, List.take_succ_cons, List.take_zero, List.cons.injEq, and_true] at e0' e1' e2'
        subst e0' e1' e2'
        have g0 := hcell 0 (by decide)
        have g1 := hcell 1 (by decide)
        have g2 := hcell 2 (by decide)
        have hb := bounds_i64 w1
        refine ⟨⟨n0, n1, s⟩, ⟨w2, by simp only; omega, by simp only; omega⟩, ?_, ?_, ?_⟩
        · rw [Deep.add_add, Nat.add_zero] at g0
          exact g0
        · rw [Deep.add_add] at g1
          exact g1
        · rw [Deep.add_add] at g2
          exact g2
    let g : Nat → V := fun i => if h : i < l then Classical.choose (each i h) else EvM.v0
    have hg : ∀ i, i < l → ((g i).s.size ≤ maxLen ∧ Rng (g i)) ∧ W.cell? (x.add (i * 3)) = some (.int .i64 (g i).k) ∧ W.cell? (x.add (i * 3 + 1)) = some (.int .i64 (g i).n) ∧ W.cell? (x.add (i * 3 + 2)) = some (.string (g i).s) := by
      intro i hi
      have e : g i = Classical.choose (each i hi) := dif_pos hi
      rw [e]
      exact Classical.choose_spec (each i hi)
    have hgl : ((List.range l).map g).length = l := by simp
    have hgd : ∀ i, i < l → ((List.range l).map g).getD i EvM.v0 = g i := fun i hi => by simp [List.getD_eq_getElem?_getD, hi]
    refine ⟨s, n, some x, l, c, rfl, (List.range l).map g, hgl, ⟨⟨⟨((List.range l).map g).flatMap encV, fun h0 => ?_, elems_flat _⟩, by rw [hgl]; exact hl, (fun e => by cases e), hm⟩, fun f hf => ?_⟩, ws, by simp only; omega, by simp only; omega⟩
    · have hl0 : 0 < l := by
        rcases Nat.eq_zero_or_pos l with e | e
        · subst e
          simp at h0
        · exact e
      obtain ⟨b, o, sp⟩ := x
      have hsp : sp = none := by simpa [Addr.add] using World.cell?_spot (hg 0 hl0).2.1
      subst hsp
      refine ⟨b, o, rfl, flat_cells _ o fun i hi => ?_⟩
      rw [hgl] at hi
      rw [hgd i hi]
      obtain ⟨_, g1, g2, g3⟩ := hg i hi
      rw [Addr.add_lit] at g1 g2 g3
      exact ⟨g1, g2, g3⟩
    · obtain ⟨i, hi, rfl⟩ := List.mem_map.1 hf
      exact (hg i (List.mem_range.1 hi)).1
end Go.Proofs.Ytbakhodijhacoaa.Op
