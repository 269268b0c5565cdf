/- Bytes in memory of the call's own, as an answer; no function of the program; nothing is asked. -/
import Derived.Test.YtbakhodijhacoaaSchemaRow
import Derived.Test.YtbakhodijhacoaaPutSl
import Derived.Test.YtbakhodijhacoaaRegAppend
namespace Go.Proofs.Ytbakhodijhacoaa.Sc
open Go.RowKit Go.Proofs.Ytbakhodijhacoaa.BM Go.Proofs.Ytbakhodijhacoaa.LM Go.Proofs.Ytbakhodijhacoaa.LeM Go.Proofs.Ytbakhodijhacoaa.VaM Go.Proofs.Ytbakhodijhacoaa.Va Go.Proofs.Ytbakhodijhacoaa.ScM

/-- Bytes in memory of the call's own. -/
def Bys (xs : List Int) (w : World) : Ending → World → Prop := fun e w' => ∃ A c, e = .returned (.slice A xs.length c) ∧ SlB w' A xs c ∧ w'.ownsRow w.heap.size 5 1 (.slice A xs.length c) xs.length (cs xs) ∧ Below w.heap.size w w'

theorem own_low {w : World} {base base' n : Nat} {v : Value} {xs : List Value} (h : w.ownsRow base 5 1 v n xs) (hb : base' ≤ base) : w.ownsRow base' 5 1 v n xs := by
  refine ⟨h.1, ?_⟩
  rcases h.2 with h0 | ⟨g, cap, cur, hv, hg, hr⟩
  · exact Or.inl h0
  · exact Or.inr ⟨g, cap, cur, hv, Nat.le_trans hb hg, hr⟩

theorem own_row {w : World} {base n : Nat} {A : Option Addr} {c : Nat} {xs ys : List Int} (h : w.ownsRow base 5 1 (.slice A n c) n (cs xs)) (e : xs = ys) : w.ownsRow base 5 1 (.slice A n c) n (cs ys) := e ▸ h
end Go.Proofs.Ytbakhodijhacoaa.Sc
