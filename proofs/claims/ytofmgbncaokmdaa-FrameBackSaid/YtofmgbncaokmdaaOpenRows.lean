/- What comes in, opened: a slice of slices of bytes; no function of the program; nothing is asked. -/
import Derived.Test.YtofmgbncaokmdaaOpenRow
import Derived.Test.YtofmgbncaokmdaaRowL
import Derived.Deep.Matrix
namespace Go.Proofs.Ytofmgbncaokmdaa.Op
open Go.RowKit Go.ChangeShapes Go.WideShapes Go.Proofs.Ytofmgbncaokmdaa.BM Go.Proofs.Ytofmgbncaokmdaa.LM

theorem open_rows {H : Type} {enc : TypeId × Value → H} {W : World} {r : Reach} {b0 : Nat} {v : Value} {d : DataW H} {p : List MemPlace} (hv : Value.okWide Try.prog W r b0 28 v)
    (h : DataW.Trod enc Try.prog W 0 (fun _ => true) true 28 v d p) : ∃ a len cap, v = .slice a len cap ∧ RowL W a len cap := by
  obtain ⟨a, len, cap, rfl⟩ := okWide_slice Try.underlying28 hv
  obtain ⟨fuel, hf⟩ := h
  simp only [Value.cells] at hf
  rcases Deep.open_int_rows Try.underlying28 Try.underlying22 Try.underlying5 (by kernel_rfl) (by kernel_rfl) hf with ⟨hcs, _⟩ | ⟨x, l, c, A, L, C, Z, hcs, _, hl, hm, _, hr⟩
  · exact ⟨a, len, cap, rfl, .inl (by simpa using hcs)⟩
  · simp at hcs
    obtain ⟨rfl, rfl, rfl⟩ := hcs
    refine ⟨_, _, _, rfl, .inr ⟨x, rfl, hl, hm, fun i hi => ?_⟩⟩
    obtain ⟨h1, h2, h3, h4, h5, h6, h7⟩ := hr i hi
    refine ⟨A i, L i, C i, Z i, h1, ?_⟩
    cases hA : A i with
    | none =>
      have h0 := h6 hA
      have hz : Z i = [] := List.eq_nil_of_length_eq_zero (by omega)
      exact .inl ⟨rfl, by omega, h0, hz⟩
    | some a' =>
      refine .inr ⟨a', rfl, h2, h3, h4, fun j hj => (h7 a' hA).2 j (by omega), h5⟩
end Go.Proofs.Ytofmgbncaokmdaa.Op
