/- What comes in, opened: a schema, a field; no function of the program; nothing is asked. -/
import Derived.Test.YtnkhnfkohnflcaaRows
import Derived.Test.YtnkhnfkohnflcaaSchemaRow
import Derived.Lib.SmallJoins
import Derived.Deep.Slices
import Derived.ShutString
import Derived.OpenShut
namespace Go.Proofs.Ytnkhnfkohnflcaa.Op
open Go.RowKit Go.ChangeShapes Go.WideShapes Go.Proofs.Ytnkhnfkohnflcaa.Sc Go.Proofs.Ytnkhnfkohnflcaa.ScM Go.Proofs.Ytnkhnfkohnflcaa.VaM

/-- A schema that came in: its fields lie where its slice says. -/
def ArgS (W : World) (s : ByteArray) (v : Int) (a : Option Addr) (len cap : Nat) : Prop := ∃ l : List F, l.length = len ∧ SlF W a l cap ∧ Fine ⟨s, v, l⟩

theorem two {H : Type} {enc : TypeId × Value → H} {P : Program} {w : World} {base : Nat} {spare : Nat → Bool} {held : Bool} {t : TypeId} {g0 g1 : Field} {fuel : Nat} {u0 u1 : Value} {x : DataW H × List MemPlace}
    (ht : P.underlying t = some (.struct #[g0, g1])) (h : DataW.trod enc P w base spare held fuel t [u0, u1] = some x) :
    ∃ y0 y1 n, DataW.trod enc P w base spare held n g0.type (([u0, u1].drop g0.offset).take (P.cellsOf g0.type)) = some y0 ∧ DataW.trod enc P w base spare held n g1.type (([u0, u1].drop g1.offset).take (P.cellsOf g1.type)) = some y1 := by
  obtain ⟨ys, n, _, _, _, hn, hat⟩ := DataW.trod_struct ht h
  obtain ⟨a, b, rfl⟩ : ∃ a b, ys = [a, b] := by
    match ys, hn with
    | [a, b], _ => exact ⟨a, b, rfl⟩
  exact ⟨a, b, n, by simpa using hat 0 g0 rfl, by simpa using hat 1 g1 rfl⟩

theorem open_fields {H : Type} {enc : TypeId × Value → H} {W : World} {fuel : Nat} {v2 : Value} {y2 : DataW H × List MemPlace} (h2 : DataW.trod enc Try.prog W 0 (fun _ => true) true fuel 23 [v2] = some y2) :
    ∃ a len cap, v2 = .slice a len cap ∧ ∃ l : List F, l.length = len ∧ SlF W a l cap := by
  rcases Deep.open_slice Try.underlying23 h2 with ⟨hcs, _⟩ | ⟨x, l, c, m, k, D, Pl, hcs, _, hl, hm, hmm, _, hr⟩
  · simp only [List.cons.injEq, and_true] at hcs
    subst hcs
    exact ⟨none, 0, 0, rfl, [], rfl, slF_none W⟩
  · simp only [List.cons.injEq, and_true] at hcs
    subst hcs
    simp only [if_true] at hmm
    rw [hmm] at hr
    have each : ∀ i, i < l → ∃ f : F, f.s.size ≤ maxLen ∧ W.cell? (x.add (i * 2)) = some (.string f.s) ∧ W.cell? (x.add (i * 2 + 1)) = some (.int .i64 f.k) := by
      intro i hi
      obtain ⟨cs', hc, ht⟩ := hr i (by omega)
      rw [show Try.prog.cellsOf 39 = 2 from by kernel_rfl] at hc
      obtain ⟨_, hlen, hcell⟩ := World.cells?_some hc
      match cs', hlen with
      | [v0, v1], _ =>
        obtain ⟨y0, y1, k, t0, t1⟩ := two Try.underlying39 ht
        have c1 : Try.prog.cellsOf 3 = 1 := by kernel_rfl
        have c2 : Try.prog.cellsOf 9 = 1 := by kernel_rfl
        simp only [c1, c2] at t0 t1
        obtain ⟨f0, e0', _, w0⟩ := DataW.trod_string Try.underlying9 t0
        obtain ⟨f1, e1', _, _⟩ := DataW.trod_int Try.underlying3 t1
        simp only [List.drop_zero, List.drop_succ_cons, List.take_succ_cons, List.take_zero, List.cons.injEq, and_true] at e0' e1'
        subst e0' e1'
        have g0 := hcell 0 (by decide)
        have g1 := hcell 1 (by decide)
        refine ⟨⟨f0, f1⟩, w0, ?_, ?_⟩
        · rw [Deep.add_add, Nat.add_zero] at g0
          exact g0
        · rw [Deep.add_add] at g1
          exact g1
    let g : Nat → F := fun i => if h : i < l then Classical.choose (each i h) else d0
    have hg : ∀ i, i < l → (g i).s.size ≤ maxLen ∧ W.cell? (x.add (i * 2)) = some (.string (g i).s) ∧ W.cell? (x.add (i * 2 + 1)) = some (.int .i64 (g i).k) := by
      intro i hi
      have e : g i = Classical.choose (each i hi) := dif_pos hi
      rw [e]
      exact Classical.choose_spec (each i hi)
    have hgl : ((List.range l).map g).length = l := by simp
    have hgd : ∀ i, i < l → ((List.range l).map g).getD i d0 = g i := fun i hi => by simp [List.getD_eq_getElem?_getD, hi]
    refine ⟨some x, l, c, rfl, (List.range l).map g, hgl, fun h0 => ?_, by rw [hgl]; exact hl, (fun e => by cases e), hm, fun f hf => ?_⟩
    · rw [hgl] at h0
      obtain ⟨b, o, sp⟩ := x
      have hsp : sp = none := by simpa [Addr.add] using World.cell?_spot (hg 0 h0).2.1
      subst hsp
      refine ⟨b, o, rfl, fun i hi => ?_⟩
      rw [hgl] at hi
      rw [hgd i hi]
      obtain ⟨_, g1, g2⟩ := hg i hi
      rw [Addr.add_lit] at g1 g2
      exact ⟨g1, g2⟩
    · obtain ⟨i, hi, rfl⟩ := List.mem_map.1 hf
      exact (hg i (List.mem_range.1 hi)).1

theorem open_schema {H : Type} {enc : TypeId × Value → H} {W : World} {r : Reach} {b0 : Nat} {v : Value} {d : DataW H} {p : List MemPlace} (hv : Value.okWide Try.prog W r b0 25 v)
    (h : DataW.Trod enc Try.prog W 0 (fun _ => true) true 25 v d p) : ∃ s n a len cap, v = .agg #[.string s, .int .i64 n, .slice a len cap] ∧ ArgS W s n a len cap := by
  obtain ⟨v0, v1, v2, y0, y1, y2, fuel, rfl, _, _, h0, h1, h2⟩ := Joins.open_agg3 Try.underlying25 (by kernel_rfl) (by kernel_rfl) hv h
  obtain ⟨s, hs, _, ws⟩ := DataW.trod_string Try.underlying9 h0
  obtain ⟨n, hn, _, wn⟩ := DataW.trod_int Try.underlying3 h1
  simp only [List.cons.injEq, and_true] at hs hn
  subst hs hn
  have hb := bounds_i64 wn
  obtain ⟨a, len, cap, rfl, l, hl, hf⟩ := open_fields h2
  exact ⟨s, n, a, len, cap, rfl, l, hl, hf, ws, by simp only; omega, by simp only; omega⟩

theorem open_field {H : Type} {enc : TypeId × Value → H} {W : World} {r : Reach} {b0 : Nat} {v : Value} {d : DataW H} {p : List MemPlace} (hv : Value.okWide Try.prog W r b0 39 v)
    (h : DataW.Trod enc Try.prog W 0 (fun _ => true) true 39 v d p) : ∃ s n, v = .agg #[.string s, .int .i64 n] ∧ s.size ≤ maxLen := by
  obtain ⟨v0, v1, y0, y1, fuel, rfl, _, _, h0, h1⟩ := Joins.open_agg2 Try.underlying39 (by kernel_rfl) (by kernel_rfl) hv h
  obtain ⟨s, hs, _, ws⟩ := DataW.trod_string Try.underlying9 h0
  obtain ⟨n, hn, _, _⟩ := DataW.trod_int Try.underlying3 h1
  simp only [List.cons.injEq, and_true] at hs hn
  subst hs hn
  exact ⟨s, n, rfl, ws⟩
end Go.Proofs.Ytnkhnfkohnflcaa.Op
