/- What comes in, opened: a slice of schemas; no function of the program; nothing is asked. -/
import Derived.Test.YtnkhnfkohnflcaaRows
import Derived.Test.YtnkhnfkohnflcaaOpenSchema
import Derived.Test.YtnkhnfkohnflcaaSchemaList
namespace Go.Proofs.Ytnkhnfkohnflcaa.Op
open Go.RowKit Go.ChangeShapes Go.WideShapes Go.Proofs.Ytnkhnfkohnflcaa.Sc Go.Proofs.Ytnkhnfkohnflcaa.ScM Go.Proofs.Ytnkhnfkohnflcaa.VaM Go.Proofs.Ytnkhnfkohnflcaa.RgM

/-- Schemas that came in lie where their slice says. -/
def ArgL (W : World) (a : Option Addr) (len cap : Nat) : Prop := ∃ l : List Sc, l.length = len ∧ SlS W a l cap

/-- A schema, and where its fields lie. -/
def encS (x : Sc × Option Addr × Nat) : List Value := [.string x.1.s, .int .i64 x.1.v, .slice x.2.1 x.1.f.length x.2.2]

theorem elems_s {W : World} : ∀ L : List (Sc × Option Addr × Nat), (∀ x ∈ L, SlF W x.2.1 x.1.f x.2.2 ∧ Fine x.1) → RG.Elems KS (fun _ => True) W (L.map (·.1)) (L.flatMap encS)
  | [], _ => rfl
  | x :: L, h => by
    obtain ⟨h1, h2⟩ := h x (by simp)
    exact ⟨encS x, L.flatMap encS, rfl, ⟨x.2.1, x.2.2, rfl, h1, h2, fun _ _ _ => True.intro⟩, elems_s L fun y hy => h y (by simp [hy])⟩

theorem cells_s {w : World} {b : Nat} : ∀ (L : List (Sc × Option Addr × Nat)) (o : Nat), (∀ i x, L[i]? = some x → w.cell? ⟨b, o + i * 3, none⟩ = some (.string x.1.s) ∧ w.cell? ⟨b, o + i * 3 + 1, none⟩ = some (.int .i64 x.1.v) ∧ w.cell? ⟨b, o + i * 3 + 2, none⟩ = some (.slice x.2.1 x.1.f.length x.2.2)) →
    ∀ (j : Nat) (u : Value), (L.flatMap encS)[j]? = some u → w.cell? ⟨b, o + j, none⟩ = some u
  | [], _, _, j, u, h => by simp at h
  | x :: L, o, hc, j, u, h => by
    rw [List.flatMap_cons] at h
    obtain ⟨c0, c1, c2⟩ := hc 0 x rfl
    rw [Nat.zero_mul, Nat.add_zero] at c0 c1 c2
    by_cases hj : j < 3
    · rw [List.getElem?_append_left (by simpa [encS] using hj)] at h
      have hw : j = 0 ∨ j = 1 ∨ j = 2 := by omega
      rcases hw with rfl | rfl | rfl
      · obtain rfl : _ = u := by simpa [encS] using h
        exact c0
      · obtain rfl : _ = u := by simpa [encS] using h
        exact c1
      · obtain rfl : _ = u := by simpa [encS] using h
        exact c2
    · rw [List.getElem?_append_right (by simp only [encS, List.length_cons, List.length_nil]; omega)] at h
      have h2 := cells_s L (o + 3) (fun i y hi => by
        have h3 := hc (i + 1) y (by simpa using hi)
        rw [show o + 3 + i * 3 = o + (i + 1) * 3 from by omega]
        exact h3) (j - 3) u h
      rw [show o + 3 + (j - 3) = o + j from by omega] at h2
      exact h2

theorem open_schemas {H : Type} {enc : TypeId × Value → H} {W : World} {r : Reach} {b0 : Nat} {v : Value} {d : DataW H} {p : List MemPlace} (hv : Value.okWide Try.prog W r b0 22 v)
    (h : DataW.Trod enc Try.prog W 0 (fun _ => true) true 22 v d p) : ∃ a len cap, v = .slice a len cap ∧ ArgL W a len cap := by
  obtain ⟨a, len, cap, rfl⟩ := okWide_slice Try.underlying22 hv
  refine ⟨a, len, cap, rfl, ?_⟩
  obtain ⟨fuel, hf⟩ := h
  simp only [Value.cells] at hf
  rcases Deep.open_slice Try.underlying22 hf with ⟨hcs, _⟩ | ⟨x, l, c, m, n, D, Pl, hcs, _, hl, hm, hmm, _, hr⟩
  · simp only [List.cons.injEq, Value.slice.injEq, and_true] at hcs
    obtain ⟨rfl, rfl, rfl⟩ := hcs
    exact ⟨[], rfl, slS_none W⟩
  · simp only [List.cons.injEq, Value.slice.injEq, and_true] at hcs
    obtain ⟨rfl, rfl, rfl⟩ := hcs
    simp only [if_true] at hmm
    subst hmm
    have each : ∀ i, i < len → ∃ y : Sc × Option Addr × Nat, (SlF W y.2.1 y.1.f y.2.2 ∧ Fine y.1) ∧ W.cell? (x.add (i * 3)) = some (.string y.1.s) ∧ W.cell? (x.add (i * 3 + 1)) = some (.int .i64 y.1.v) ∧ W.cell? (x.add (i * 3 + 2)) = some (.slice y.2.1 y.1.f.length y.2.2) := by
      intro i hi
      obtain ⟨cs', hc, ht⟩ := hr i (by omega)
      rw [show Try.prog.cellsOf 25 = 3 from by kernel_rfl] at hc
      obtain ⟨_, hlen, hcell⟩ := World.cells?_some hc
      match cs', hlen with
      | [v0, v1, v2], _ =>
        obtain ⟨y0, y1, y2, k, _, _, t0, t1, t2⟩ := Deep.trod_struct3 Try.underlying25 ht
        have c0 : Try.prog.cellsOf 9 = 1 := by kernel_rfl
        have c1 : Try.prog.cellsOf 3 = 1 := by kernel_rfl
        have c2 : Try.prog.cellsOf 23 = 1 := by kernel_rfl
        simp only [c0] at t0
        simp only [c1] at t1
        simp only [c2] at t2
        obtain ⟨s, e0', _, w0⟩ := DataW.trod_string Try.underlying9 t0
        obtain ⟨n1, e1', _, w1⟩ := DataW.trod_int Try.underlying3 t1
        simp only [List.drop_zero, List.drop_succ_cons, List.take_succ_cons, List.take_zero, List.cons.injEq, and_true] at e0' e1' t2
        subst e0' e1'
        obtain ⟨A1, n2, k2, rfl, l2, rfl, hs2⟩ := open_fields t2
        have g0 := hcell 0 (by decide)
        have g1 := hcell 1 (by decide)
        have g2 := hcell 2 (by decide)
        have hb := bounds_i64 w1
        refine ⟨(⟨s, n1, l2⟩, A1, k2), ⟨hs2, w0, by simp only; omega, by simp only; omega⟩, ?_, ?_, ?_⟩
        · rw [Deep.add_add, Nat.add_zero] at g0
          exact g0
        · rw [Deep.add_add] at g1
          exact g1
        · rw [Deep.add_add] at g2
          exact g2
    let g : Nat → Sc × Option Addr × Nat := fun i => if h : i < len then Classical.choose (each i h) else (s0, none, 0)
    have hg : ∀ i, i < len → (SlF W (g i).2.1 (g i).1.f (g i).2.2 ∧ Fine (g i).1) ∧ W.cell? (x.add (i * 3)) = some (.string (g i).1.s) ∧ W.cell? (x.add (i * 3 + 1)) = some (.int .i64 (g i).1.v) ∧ W.cell? (x.add (i * 3 + 2)) = some (.slice (g i).2.1 (g i).1.f.length (g i).2.2) := by
      intro i hi
      have e : g i = Classical.choose (each i hi) := dif_pos hi
      rw [e]
      exact Classical.choose_spec (each i hi)
    have hgl : (((List.range len).map g).map (·.1)).length = len := by simp
    refine ⟨((List.range len).map g).map (·.1), hgl, ⟨((List.range len).map g).flatMap encS, fun h0 => ?_, elems_s _ fun y hy => ?_⟩, by rw [hgl]; exact hl, (fun e => by cases e), hm⟩
    · have hl0 : 0 < len := by
        rcases Nat.eq_zero_or_pos len with e | e
        · subst e
          simp at h0
        · exact e
      obtain ⟨b, o, sp⟩ := x
      have hsp : sp = none := by simpa [Addr.add] using World.cell?_spot (hg 0 hl0).2.1
      subst hsp
      refine ⟨b, o, rfl, cells_s _ o fun i y hi => ?_⟩
      have hi2 : i < len := by
        have := (List.getElem?_eq_some_iff.1 hi).1
        simpa using this
      have hy : y = g i := by
        rw [List.getElem?_map, List.getElem?_range hi2] at hi
        simpa using hi.symm
      subst hy
      obtain ⟨_, g1, g2, g3⟩ := hg i hi2
      rw [Addr.add_lit] at g1 g2 g3
      exact ⟨g1, g2, g3⟩
    · obtain ⟨i, hi, rfl⟩ := List.mem_map.1 hy
      exact (hg i (List.mem_range.1 hi)).1
end Go.Proofs.Ytnkhnfkohnflcaa.Op
