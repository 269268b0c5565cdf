/- What comes in, opened: a value; no function of the program; nothing is asked. -/
import Derived.Test.YtbakhodijhacoaaRows
import Derived.Lib.SmallJoins
import Derived.ShutString
import Derived.OpenShut
namespace Go.Proofs.Ytbakhodijhacoaa.Op
open Go.RowKit Go.ChangeShapes Go.WideShapes

theorem open_value {H : Type} {enc : TypeId × Value → H} {W : World} {r : Reach} {b0 : Nat} {v : Value} {d : DataW H} {p : List MemPlace} (hv : Value.okWide Try.prog W r b0 44 v)
    (h : DataW.Trod enc Try.prog W 0 (fun _ => true) true 44 v d p) : ∃ k n s, v = .agg #[.int .i64 k, .int .i64 n, .string s] ∧ (Lit.int .i64 k).wf = true ∧ (Lit.int .i64 n).wf = true ∧ s.size ≤ maxLen := by
  obtain ⟨v0, v1, v2, y0, y1, y2, n, rfl, _, _, h0, h1, h2⟩ := Joins.open_agg3 Try.underlying44 (by kernel_rfl) (by kernel_rfl) hv h
  obtain ⟨a, ha, _, wa⟩ := DataW.trod_int Try.underlying3 h0
  obtain ⟨b, hb, _, wb⟩ := DataW.trod_int Try.underlying3 h1
  obtain ⟨s, hs, _, ws⟩ := DataW.trod_string Try.underlying9 h2
  simp only [List.cons.injEq, and_true] at ha hb hs
  subst ha hb hs
  exact ⟨a, b, s, rfl, wa, wb, ws⟩
end Go.Proofs.Ytbakhodijhacoaa.Op
