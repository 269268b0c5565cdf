/- A slice of slices of bytes that came in; no function of the program; nothing is asked. -/
import Derived.Test.YtofmgbncaokmdaaLMem
import Derived.Deep.Slices
namespace Go.Proofs.Ytofmgbncaokmdaa.LM
open Go.RowKit Go.Proofs.Ytofmgbncaokmdaa.BM

/-- A slice of slices of bytes that came in. -/
def RowL (w : World) (a : Option Addr) (len cap : Nat) : Prop :=
  (a = none ∧ len = 0 ∧ cap = 0) ∨
  ∃ x, a = some x ∧ len ≤ cap ∧ cap ≤ maxLen ∧ ∀ r, r < cap → ∃ a' l' c' zs, w.cell? (x.add r) = some (.slice a' l' c') ∧ RowU8 w a' l' c' zs

theorem els_map {p : Nat → Prop} {w : World} {V : Nat → Value} {X : Nat → List Int} : ∀ l : List Nat, (∀ i ∈ l, El p w (V i) (X i)) → Els p w (l.map V) (l.map X)
  | [], _ => trivial
  | i :: l, h => ⟨h i (by simp), els_map l fun j hj => h j (by simp [hj])⟩

theorem el_here {w : World} {A : Option Addr} {xs : List Int} {c : Nat} (h : SlB w A xs c) : El (fun _ => True) w (.slice A xs.length c) xs := by
  refine ⟨A, c, rfl, h, fun hx => ?_⟩
  obtain ⟨b, o, e, hc⟩ := h.1.2 hx
  exact ⟨b, o, e, trivial, World.block_lt_of_cell? w _ (hc 0 hx)⟩

theorem rowL_isL {w : World} {a : Option Addr} {len cap : Nat} (h : RowL w a len cap) : ∃ ls : List (List Int), ls.length = len ∧ IsL (fun _ => True) w a cap ls := by
  rcases h with ⟨rfl, rfl, rfl⟩ | ⟨x, rfl, hl, hm, hr⟩
  · exact ⟨[], rfl, isL_none _ _⟩
  · have each : ∀ r, r < len → ∃ y : Value × List Int, w.cell? (x.add r) = some y.1 ∧ El (fun _ => True) w y.1 y.2 := by
      intro r hrl
      obtain ⟨a', l', c', zs, hc, hrow⟩ := hr r (by omega)
      obtain ⟨xs, hx, hs⟩ := row_slB hrow
      subst hx
      exact ⟨(_, xs), hc, el_here hs⟩
    haveI : Inhabited (Value × List Int) := ⟨(.slice none 0 0, [])⟩
    obtain ⟨f, hf⟩ := Deep.choose_lt each
    refine ⟨(List.range len).map fun r => (f r).2, by simp, ⟨⟨(List.range len).map fun r => (f r).1, fun h0 => ?_, els_map _ fun i hi => (hf i (by simpa using hi)).2⟩, by simpa using hl, (fun h => by cases h), hm⟩⟩
    simp only [List.length_map, List.length_range] at h0
    obtain ⟨b, o, s⟩ := x
    have h1 := (hf 0 h0).1
    have hs : s = none := by simpa [Addr.add] using World.cell?_spot h1
    subst hs
    refine ⟨b, o, rfl, fun j u hj => ?_⟩
    have hjl : j < len := by
      have := (List.getElem?_eq_some_iff.1 hj).1
      simpa using this
    have h2 := (hf j hjl).1
    rw [Addr.add_lit] at h2
    rw [h2]
    simp [hjl] at hj
    rw [hj]
end Go.Proofs.Ytofmgbncaokmdaa.LM
