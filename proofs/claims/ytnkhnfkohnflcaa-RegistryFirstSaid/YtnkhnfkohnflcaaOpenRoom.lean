/- What comes in, opened: a slice of schemas, of whose fields there are no more than memory has room for; no function of the program; nothing is asked. -/
import Derived.Test.YtnkhnfkohnflcaaOpenSchemas
import Derived.Test.YtnkhnfkohnflcaaRegOwn
import Derived.SizedLaws
namespace Go.Proofs.Ytnkhnfkohnflcaa.Op
open Go.RowKit Go.ChangeShapes Go.WideShapes Go.Proofs.Ytnkhnfkohnflcaa.Sc Go.Proofs.Ytnkhnfkohnflcaa.ScM Go.Proofs.Ytnkhnfkohnflcaa.VaM Go.Proofs.Ytnkhnfkohnflcaa.RgM

/-- Schemas that came in lie where their slice says, and there is memory for as many fields of any of them again. -/
def ArgR (W : World) (a : Option Addr) (len cap : Nat) : Prop := ∃ l : List Sc, l.length = len ∧ SlS W a l cap ∧ Rg.RoomL l

theorem weights_all {H : Type} {P : Program} {e : TypeId} : ∀ {l : List (DataW H)} {d : DataW H}, d ∈ l → ∀ n ∈ d.weights P e, n ∈ DataW.weightsAll P e l
  | [], _, h, _, _ => by cases h
  | x :: l, d, h, n, hn => by
    rw [DataW.weightsAll, List.mem_append]
    rcases List.mem_cons.1 h with rfl | h
    · exact Or.inl hn
    · exact Or.inr (weights_all h n hn)

/-- What a slice weighs, and each of its elements. -/
theorem weights_slice {H : Type} {P : Program} {t e : TypeId} {elems spare : List (DataW H)} (hu : P.underlying t = some (.slice e)) {N : Nat} (h : ∀ n ∈ (DataW.slice elems spare).weights P t, n ≤ N) :
    (elems.length + spare.length) * P.bytesOf e ≤ N ∧ ∀ d ∈ elems, ∀ n ∈ d.weights P e, n ≤ N := by
  rw [DataW.weights, hu] at h
  simp only at h
  exact ⟨h _ (by simp), fun d hd n hn => h n (by
    rw [List.mem_cons, List.mem_append]
    exact Or.inr (Or.inl (weights_all hd n hn)))⟩

theorem fields_room {H : Type} {enc : TypeId × Value → H} {W : World} {fuel : Nat} {a : Option Addr} {len cap : Nat} {y : DataW H × List MemPlace} (h : DataW.trod enc Try.prog W 0 (fun _ => true) true fuel 23 [.slice a len cap] = some y)
    (hw : ∀ n ∈ y.1.weights Try.prog 23, n ≤ reachBytes) : len * 24 ≤ 140737488351232 := by
  rcases Deep.open_slice Try.underlying23 h with ⟨hcs, _⟩ | ⟨x, l, c, m, k, D, Pl, hcs, _, hl, hm, hmm, hx, _⟩
  · simp only [List.cons.injEq, Value.slice.injEq, and_true] at hcs
    obtain ⟨_, rfl, _⟩ := hcs
    omega
  · simp only [List.cons.injEq, Value.slice.injEq, and_true] at hcs
    obtain ⟨_, rfl, rfl⟩ := hcs
    rw [hx] at hw
    have h1 := (weights_slice Try.underlying23 hw).1
    rw [show Try.prog.bytesOf 39 = 24 from by kernel_rfl] at h1
    simp only [List.length_map, List.length_range, reachBytes] at h1
    omega

theorem open_schemas_room {H : Type} {enc : TypeId × Value → H} {W : World} {r : Reach} {b0 : Nat} {v : Value} {d : DataW H} {p : List MemPlace} (hv : Value.okWide Try.prog W r b0 22 v)
    (h : DataW.Trod enc Try.prog W 0 (fun _ => true) true 22 v d p) (hsz : ∀ n ∈ d.weights Try.prog 22, n ≤ reachBytes) : ∃ a len cap, v = .slice a len cap ∧ ArgR W a len cap := by
  obtain ⟨a, len, cap, rfl⟩ := okWide_slice Try.underlying22 hv
  refine ⟨a, len, cap, rfl, ?_⟩
  obtain ⟨fuel, hf⟩ := h
  simp only [Value.cells] at hf
  rcases Deep.open_slice Try.underlying22 hf with ⟨hcs, _⟩ | ⟨x, l, c, m, n, D, Pl, hcs, _, hl, hm, hmm, hx, hr⟩
  · simp only [List.cons.injEq, Value.slice.injEq, and_true] at hcs
    obtain ⟨rfl, rfl, rfl⟩ := hcs
    exact ⟨[], rfl, slS_none W, fun i hi => absurd hi (Nat.not_lt_zero i)⟩
  · simp only [List.cons.injEq, Value.slice.injEq, and_true] at hcs
    obtain ⟨rfl, rfl, rfl⟩ := hcs
    simp only [if_true] at hmm
    subst hmm
    have hd := (Prod.mk.inj hx).1
    rw [hd] at hsz
    have hel := (weights_slice Try.underlying22 hsz).2
    have each : ∀ i, i < len → ∃ y : Sc × Option Addr × Nat, (SlF W y.2.1 y.1.f y.2.2 ∧ Fine y.1 ∧ Room y.1.f) ∧ W.cell? (x.add (i * 3)) = some (.string y.1.s) ∧ W.cell? (x.add (i * 3 + 1)) = some (.int .i64 y.1.v) ∧ W.cell? (x.add (i * 3 + 2)) = some (.slice y.2.1 y.1.f.length y.2.2) := by
      intro i hi
      obtain ⟨cs', hc, ht⟩ := hr i (by omega)
      rw [show Try.prog.cellsOf 25 = 3 from by kernel_rfl] at hc
      obtain ⟨_, hlen, hcell⟩ := World.cells?_some hc
      match cs', hlen with
      | [v0, v1, v2], _ =>
        obtain ⟨y0, y1, y2, k, hD, _, t0, t1, t2⟩ := Deep.trod_struct3 Try.underlying25 ht
        have c0 : Try.prog.cellsOf 9 = 1 := by kernel_rfl
        have c1 : Try.prog.cellsOf 3 = 1 := by kernel_rfl
        have c2 : Try.prog.cellsOf 23 = 1 := by kernel_rfl
        simp only [c0] at t0
        simp only [c1] at t1
        simp only [c2] at t2
        obtain ⟨s, e0', _, w0⟩ := DataW.trod_string Try.underlying9 t0
        obtain ⟨n1, e1', _, w1⟩ := DataW.trod_int Try.underlying3 t1
        simp only [List.drop_zero, List.drop_succ_cons, List.take_succ_cons, List.take_zero, List.cons.injEq, and_true] at e0' e1' t2
        subst e0' e1'
        obtain ⟨A1, n2, k2, rfl, l2, rfl, hs2⟩ := open_fields t2
        have hwD := hel (D i) (List.mem_map.2 ⟨i, List.mem_range.2 hi, rfl⟩)
        rw [show D i = .agg [y0.1, y1.1, y2.1] from (Prod.mk.inj hD).1, DataW.weights, Try.underlying25] at hwD
        have hrm := fields_room t2 (fun n hn => hwD n (DataW.weights_mem_each (j := 2) rfl rfl n hn))
        have g0 := hcell 0 (by decide)
        have g1 := hcell 1 (by decide)
        have g2 := hcell 2 (by decide)
        have hb := bounds_i64 w1
        refine ⟨(⟨s, n1, l2⟩, A1, k2), ⟨hs2, ⟨w0, by simp only; omega, by simp only; omega⟩, hrm⟩, ?_, ?_, ?_⟩
        · rw [Deep.add_add, Nat.add_zero] at g0
          exact g0
        · rw [Deep.add_add] at g1
          exact g1
        · rw [Deep.add_add] at g2
          exact g2
    let g : Nat → Sc × Option Addr × Nat := fun i => if h : i < len then Classical.choose (each i h) else (s0, none, 0)
    have hg : ∀ i, i < len → (SlF W (g i).2.1 (g i).1.f (g i).2.2 ∧ Fine (g i).1 ∧ Room (g i).1.f) ∧ W.cell? (x.add (i * 3)) = some (.string (g i).1.s) ∧ W.cell? (x.add (i * 3 + 1)) = some (.int .i64 (g i).1.v) ∧ W.cell? (x.add (i * 3 + 2)) = some (.slice (g i).2.1 (g i).1.f.length (g i).2.2) := by
      intro i hi
      have e : g i = Classical.choose (each i hi) := dif_pos hi
      rw [e]
      exact Classical.choose_spec (each i hi)
    have hgl : (((List.range len).map g).map (·.1)).length = len := by simp
    refine ⟨((List.range len).map g).map (·.1), hgl, ⟨⟨((List.range len).map g).flatMap encS, fun h0 => ?_, elems_s _ fun y hy => ?_⟩, by rw [hgl]; exact hl, (fun e => by cases e), hm⟩, fun i hi => ?_⟩
    · have hl0 : 0 < len := by
        rcases Nat.eq_zero_or_pos len with e | e
        · subst e
          simp at h0
        · exact e
      obtain ⟨b, o, sp⟩ := x
      have hsp : sp = none := by simpa [Addr.add] using World.cell?_spot (hg 0 hl0).2.1
      subst hsp
      refine ⟨b, o, rfl, cells_s _ o fun i y hi => ?_⟩
      have hi2 : i < len := by
        have := (List.getElem?_eq_some_iff.1 hi).1
        simpa using this
      have hy : y = g i := by
        rw [List.getElem?_map, List.getElem?_range hi2] at hi
        simpa using hi.symm
      subst hy
      obtain ⟨_, g1, g2, g3⟩ := hg i hi2
      rw [Addr.add_lit] at g1 g2 g3
      exact ⟨g1, g2, g3⟩
    · obtain ⟨i, hi, rfl⟩ := List.mem_map.1 hy
      exact ⟨(hg i (List.mem_range.1 hi)).1.1, (hg i (List.mem_range.1 hi)).1.2.1⟩
    · rw [hgl] at hi
      have e : (((List.range len).map g).map (·.1)).getD i s0 = (g i).1 := by simp [List.getD_eq_getElem?_getD, hi]
      rw [e]
      exact (hg i hi).1.2.2
end Go.Proofs.Ytnkhnfkohnflcaa.Op
