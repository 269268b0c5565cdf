/- What comes in, opened: a slice of values; no function of the program; nothing is asked. -/
import Derived.Test.YtkjfofljjgifdaaRows
import Derived.Test.YtkjfofljjgifdaaValueList
import Derived.Lib.SmallJoins
import Derived.Deep.Slices
namespace Go.Proofs.Ytkjfofljjgifdaa.Op
open Go.RowKit Go.ChangeShapes Go.WideShapes Go.Proofs.Ytkjfofljjgifdaa.Va Go.Proofs.Ytkjfofljjgifdaa.VaM

theorem open_values {H : Type} {enc : TypeId × Value → H} {W : World} {r : Reach} {b0 : Nat} {v : Value} {d : DataW H} {p : List MemPlace} (hv : Value.okWide Try.prog W r b0 37 v)
    (h : DataW.Trod enc Try.prog W 0 (fun _ => true) true 37 v d p) : ∃ a len cap, v = .slice a len cap ∧ RowV W a len := by
  obtain ⟨a, len, cap, rfl⟩ := okWide_slice Try.underlying37 hv
  refine ⟨a, len, cap, rfl, ?_⟩
  obtain ⟨fuel, hf⟩ := h
  simp only [Value.cells] at hf
  rcases Deep.open_slice Try.underlying37 hf with ⟨hcs, _⟩ | ⟨x, l, c, m, n, D, Pl, hcs, _, hl, hm, hmm, _, hr⟩
  · simp only [List.cons.injEq, Value.slice.injEq, and_true] at hcs
    obtain ⟨rfl, rfl, rfl⟩ := hcs
    exact ⟨fun _ => ⟨0, 0, e0⟩, by omega, fun i hi => absurd hi (Nat.not_lt_zero i), fun hi => absurd hi (Nat.not_lt_zero 0)⟩
  · simp only [List.cons.injEq, Value.slice.injEq, and_true] at hcs
    obtain ⟨rfl, rfl, rfl⟩ := hcs
    simp only [if_true] at hmm
    subst hmm
    have each : ∀ i, i < len → ∃ v : V, Rng v ∧ W.cell? (x.add (i * 3)) = some (.int .i64 v.k) ∧ W.cell? (x.add (i * 3 + 1)) = some (.int .i64 v.n) ∧ W.cell? (x.add (i * 3 + 2)) = some (.string v.s) := by
      intro i hi
      obtain ⟨cs', hc, ht⟩ := hr i (by omega)
      rw [show Try.prog.cellsOf 23 = 3 from by kernel_rfl] at hc
      obtain ⟨_, hlen, hcell⟩ := World.cells?_some hc
      match cs', hlen with
      | [v0, v1, v2], _ =>
        obtain ⟨y0, y1, y2, k, _, _, t0, t1, t2⟩ := Deep.trod_struct3 Try.underlying23 ht
        have c1 : Try.prog.cellsOf 3 = 1 := by kernel_rfl
        have c2 : Try.prog.cellsOf 9 = 1 := by kernel_rfl
        simp only [c1] at t0 t1
        simp only [c2] at t2
        obtain ⟨n0, e0', _, _⟩ := DataW.trod_int Try.underlying3 t0
        obtain ⟨n1, e1', _, w1⟩ := DataW.trod_int Try.underlying3 t1
        obtain ⟨s, e2', _, _⟩ := DataW.trod_string Try.underlying9 t2
        simp only [List.drop_zero, List.drop_succ_cons, List.take_succ_cons, List.take_zero, List.cons.injEq, and_true] at e0' e1' e2'
        subst e0' e1' e2'
        have g0 := hcell 0 (by decide)
        have g1 := hcell 1 (by decide)
        have g2 := hcell 2 (by decide)
        have hb := bounds_i64 w1
        refine ⟨⟨n0, n1, s⟩, ⟨by simp only; omega, by simp only; omega⟩, ?_, ?_, ?_⟩
        · rw [Deep.add_add, Nat.add_zero] at g0
          exact g0
        · rw [Deep.add_add] at g1
          exact g1
        · rw [Deep.add_add] at g2
          exact g2
    let f : Nat → V := fun i => if h : i < len then Classical.choose (each i h) else ⟨0, 0, e0⟩
    have hf' : ∀ i, i < len → Rng (f i) ∧ W.cell? (x.add (i * 3)) = some (.int .i64 (f i).k) ∧ W.cell? (x.add (i * 3 + 1)) = some (.int .i64 (f i).n) ∧ W.cell? (x.add (i * 3 + 2)) = some (.string (f i).s) := by
      intro i hi
      have e : f i = Classical.choose (each i hi) := dif_pos hi
      rw [e]
      exact Classical.choose_spec (each i hi)
    refine ⟨f, by unfold maxLen at hm; omega, fun i hi => (hf' i hi).1, fun h0 => ?_⟩
    obtain ⟨b, o, sp⟩ := x
    have hsp : sp = none := by simpa [Addr.add] using World.cell?_spot (hf' 0 h0).2.1
    subst hsp
    refine ⟨b, o, rfl, fun i hi => ?_⟩
    obtain ⟨_, h1, h2, h3⟩ := hf' i hi
    rw [Addr.add_lit] at h1 h2 h3
    exact ⟨h1, h2, h3⟩
end Go.Proofs.Ytkjfofljjgifdaa.Op
