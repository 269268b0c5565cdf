/- What comes in, opened: a framer; no function of the program; nothing is asked. -/
import Derived.Test.YtofmgbncaokmdaaOpenRow
import Derived.Lib.SmallJoins
namespace Go.Proofs.Ytofmgbncaokmdaa.Op
open Go.RowKit Go.ChangeShapes Go.WideShapes Go.Proofs.Ytofmgbncaokmdaa.BM

theorem open_framer {H : Type} {enc : TypeId × Value → H} {W : World} {r : Reach} {b0 : Nat} {v : Value} {d : DataW H} {p : List MemPlace} (hv : Value.okWide Try.prog W r b0 24 v)
    (h : DataW.Trod enc Try.prog W 0 (fun _ => true) true 24 v d p) : ∃ a len cap zs b, v = .agg #[.slice a len cap, .bool b] ∧ RowU8 W a len cap zs := by
  obtain ⟨v0, v1, y0, y1, n, rfl, _, _, h0, h1⟩ := Joins.open_agg2 Try.underlying24 (by kernel_rfl) (by kernel_rfl) hv h
  obtain ⟨a, len, cap, zs, rfl, hr⟩ := open_bytes_cells h0
  obtain ⟨b, hb, _⟩ := DataW.trod_bool Try.underlying4 h1
  simp only [List.cons.injEq, and_true] at hb
  subst hb
  exact ⟨a, len, cap, zs, b, rfl, hr⟩
end Go.Proofs.Ytofmgbncaokmdaa.Op
