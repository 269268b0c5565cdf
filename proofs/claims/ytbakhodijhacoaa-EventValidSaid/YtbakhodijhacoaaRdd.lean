/- What a method leaves of a reader; no function of the program; nothing is asked. -/
import Derived.Test.YtbakhodijhacoaaSchemaRd
import Derived.Test.YtbakhodijhacoaaBx
import Derived.Test.YtbakhodijhacoaaSlCut
import Derived.Test.YtbakhodijhacoaaRegAppend
namespace Go.Proofs.Ytbakhodijhacoaa.Sc
open Go.RowKit Go.Proofs.Ytbakhodijhacoaa.BM Go.Proofs.Ytbakhodijhacoaa.LM Go.Proofs.Ytbakhodijhacoaa.LeM Go.Proofs.Ytbakhodijhacoaa.VaM Go.Proofs.Ytbakhodijhacoaa.Va Go.Proofs.Ytbakhodijhacoaa.ScM

theorem grown_set (w : World) (b i : Nat) (u : Value) : w.grownBy (w.setCell ⟨b, i, none⟩ u) (some b) := by
  have h := (Below.refl 0 w).setCell (p := ⟨b, i, none⟩) (Nat.zero_le _) u
  exact ⟨h.os, h.tape, h.output, h.size, fun k _ hne => Below.heap_setCell w _ u k (fun e => hne (by rw [e]))⟩

theorem grown_trans {a b c : World} {r : Option Nat} (h : a.grownBy b r) (k : b.grownBy c r) : a.grownBy c r :=
  ⟨k.os.trans h.os, k.tape.trans h.tape, k.output.trans h.output, Nat.le_trans h.size k.size, fun i hi hne => (k.block i (Nat.lt_of_lt_of_le hi h.size) hne).trans (h.block i hi hne)⟩

/-- What a method leaves of the reader. -/
def Rdd (b : Nat) (A : Option Addr) (c : Nat) (xs : List Int) (w : World) (r : Rs) (w' : World) : Prop :=
  w.grownBy w' (some b) ∧ ∃ A' c', Bx2 w' b (.slice A' r.1.length c') (.bool r.2) ∧ ∀ W, SlB W A xs c → SlB W A' r.1 c'

theorem Rdd.trans {b : Nat} {A : Option Addr} {c : Nat} {xs : List Int} {w w1 w2 : World} {r1 r2 : Rs} {A' : Option Addr} {c' : Nat} (hg : w.grownBy w1 (some b)) (hW : ∀ W, SlB W A xs c → SlB W A' r1.1 c') (k : Rdd b A' c' r1.1 w1 r2 w2) : Rdd b A c xs w r2 w2 := by
  obtain ⟨h1, A2, c2, h2, h3⟩ := k
  exact ⟨grown_trans hg h1, A2, c2, h2, fun W h => h3 W (hW W h)⟩

/-- Bytes elsewhere stay. -/
theorem slB_grown {w w' : World} {A : Option Addr} {xs : List Int} {c b : Nat} (h : SlB w A xs c) (hg : w.grownBy w' (some b)) (hb : ∀ a, A = some a → a.block ≠ b) : SlB w' A xs c := by
  refine ⟨⟨h.1.1, fun hx => ?_⟩, h.2⟩
  obtain ⟨g, o, e, hc⟩ := h.1.2 hx
  exact ⟨g, o, e, fun j hj => hg.cell (hc j hj) (fun e' => hb _ e (by injection e'))⟩
end Go.Proofs.Ytbakhodijhacoaa.Sc
