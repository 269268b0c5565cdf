/- A region that draws its order, inside a fence: operations that compute, or only read, step by step. Over any program; nothing is asked. -/
import Derived.OrdersIn
import Derived.Test.YtbakhodijhacoaaRegion
namespace Go.Proofs.Ytbakhodijhacoaa.RegR
open Go.RowKit Go.Proofs.Ytbakhodijhacoaa.Reg

section
variable {E : Fence} {n : Nat} {P : Program} {ops : Array Oper} {Q : Exit → Act → World → Prop} {fuel : Nat} {listed : Array Bool} {a : Act} {w : World}

/-- Operation number i yields v, and the world stays. -/
def Rd (E : Fence) (P : Program) (ops : Array Oper) (a : Act) (w : World) (i : Nat) (d : Option Tmp) (v : Value) : Prop :=
  ∃ o, nth ops.toList i = some o ∧ o.dst = d ∧ Region.wanted o (yielded ops a.tmps) = true ∧ (∀ f, o.about P w a.eval = some f → E.fn f) ∧ (o.semAt E.round a.eval).run P w = .ok (.value v) w

theorem rd_op {i : Nat} {d : Option Tmp} {v : Value} {K : Act → World → Prop} (h : Rd E P ops a w i d v) (k : K (a.put d v) w) : wpOpIn E n P ops Q i K a w := by
  obtain ⟨o, h1, rfl, h3, h4, h5⟩ := h
  refine wpOpIn_step (at_of_nth h1) (fun K' hK => ?_)
  rw [if_pos h3]
  refine ⟨h4, ?_⟩
  rw [h5]
  exact hK _ _ k

theorem rd_one (i : Nat) {d : Option Tmp} {v : Value} (hr : Region.ready .any ops listed = [i]) (h : Rd E P ops a w i d v) (k : wpAnyIn E n P .any ops Q fuel (listed.setIfInBounds i true) (a.put d v) w) :
    wpAnyIn E n P .any ops Q (fuel + 1) listed a w := by
  refine wpAnyIn_all hr (by simp) (fun x hx => ?_)
  obtain rfl : x = i := by simpa using hx
  exact rd_op h k

theorem rd_two (i j : Nat) {d d' : Option Tmp} {v v' : Value} (hr : Region.ready .any ops listed = [i, j]) (h : Rd E P ops a w i d v) (h' : Rd E P ops a w j d' v')
    (k : wpAnyIn E n P .any ops Q fuel (listed.setIfInBounds i true) (a.put d v) w) (k' : wpAnyIn E n P .any ops Q fuel (listed.setIfInBounds j true) (a.put d' v') w) :
    wpAnyIn E n P .any ops Q (fuel + 1) listed a w := by
  refine wpAnyIn_all hr (by simp) (fun x hx => ?_)
  have hx' : x = i ∨ x = j := by simpa using hx
  rcases hx' with rfl | rfl
  · exact rd_op h k
  · exact rd_op h' k'

/-- It yields v in whatever world. -/
theorem rd_take (i : Nat) {o : Oper} (v : Value) (hro : E.round = none) (hi : nth ops.toList i = some o) (hok : (Region.noSelect ops && Region.free .any ops listed i && (Region.ready .any ops listed).contains i) = true) (hQ : Frameless Q)
    (hw : Region.wanted o (yielded ops a.tmps) = true) (hy : ∀ w, (execOp a.eval o).run P w = .ok (.value v) w) (hab : ∀ w, o.about P w a.eval = none)
    (k : wpAnyIn E n P .any ops Q fuel (listed.setIfInBounds i true) (a.put o.dst v) w) : wpAnyIn E n P .any ops Q (fuel + 1) listed a w := by
  simp only [Bool.and_eq_true] at hok
  obtain ⟨⟨hs, hf⟩, hr⟩ := hok
  exact wpAnyIn_take hro (at_of_nth hi) hs hf hr (fun c a w => hQ c a _ _ w) ⟨.inl ⟨hw, hy⟩, hab⟩ k
end
end Go.Proofs.Ytbakhodijhacoaa.RegR
