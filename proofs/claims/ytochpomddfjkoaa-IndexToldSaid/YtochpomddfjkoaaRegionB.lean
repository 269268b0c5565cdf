/- A region that draws its order: its plain operations first, in worlds of which one thing is known; then whichever of its others comes up. Over any program; nothing is asked. -/
import Derived.Test.YtochpomddfjkoaaRegion
namespace Go.Proofs.Ytochpomddfjkoaa.RegB
open Go.RowKit Go.Proofs.Ytochpomddfjkoaa.Reg

/-- A world of which S is known. -/
structure At (S : World → Prop) where
  world : World
  ok : S world

section
variable {P : Program} {ops : Array Oper} {Q : Exit → Act → World → Prop} {S : World → Prop}

/-- What is left of a region. -/
def GS (P : Program) (ops : Array Oper) (Q : Exit → Act → World → Prop) (S : World → Prop) (fuel : Nat) (listed : Array Bool) (a : Act) (w : World) : Prop :=
  Frameless Q → S w → wpAnyH P .any ops Q S fuel listed a w

theorem GS_start {id : Nat} {a : Act} {w : World} (S : World → Prop) (hm : P.follows .mixedOrders = true) (hQ : Frameless Q) (hS : ∀ W, Below w.heap.size w W → S W)
    (h : ∀ W, Below w.heap.size w W → GS P ops Q S ops.size (Array.replicate ops.size false) a W) : (Code.region id ops true).wp P Q a w :=
  wp_region_any hm (wpAny_of_held _ _ _ _ (h w.drew (Below.refl _ _).drew hQ (hS w.drew (Below.refl _ _).drew)))

theorem GS_step {i : Nat} {o : Oper} {fuel : Nat} {listed : Array Bool} {a : Act} {w : World} (ho' : nth ops.toList i = some o) (hok : stepOk ops listed i = true) (hw : Region.wanted o (yielded ops a.tmps) = true)
    (h : ∀ K : Act → Prop, (∀ a', GS P ops Q S fuel (listed.setIfInBounds i true) a' w → K a') → o.quiet P a (fun w' => ∃ x : At S, w' = x.world) K) : GS P ops Q S (fuel + 1) listed a w := by
  intro hQ hSw
  have ho := at_of_nth ho'
  simp only [stepOk, ho, Bool.and_eq_true] at hok
  obtain ⟨⟨⟨hp, hs⟩, hf⟩, hr⟩ := hok
  obtain ⟨v, h1, h2⟩ := h _ (fun _ h => h)
  refine wpAnyH_take ho hs hf hr (fun c a w => hQ c a _ _ w) (.inl ⟨hw, fun w' hw' => ?_⟩) hSw (h2 hQ hSw)
  have h3 := h1 w' ⟨⟨w', hw'⟩, rfl⟩
  unfold Oper.quietAt at h3
  cases hrun : (execOp a.eval o).run P w' with
  | ok n w1 =>
    obtain ⟨u, rfl⟩ := plain_value hp hrun
    rw [hrun] at h3
    simp only [Oper.quietUpon] at h3
    rw [h3.1, h3.2]
  | halt x w1 =>
    rw [hrun] at h3
    exact h3.elim

/-- Operation number i alone may come up: it is carried out. -/
theorem GS_event {i : Nat} {o : Oper} {fuel : Nat} {listed : Array Bool} {a : Act} {w : World} (ho' : nth ops.toList i = some o) (hr : Region.ready .any ops listed = [i])
    (hw : Region.wanted o (yielded ops a.tmps) = true)
    (h : ∀ K : Act → World → Prop, (∀ a' w', S w' → GS P ops Q S fuel (listed.setIfInBounds i true) a' w' → K a' w') → o.wp P a w K Q) : GS P ops Q S (fuel + 1) listed a w := by
  intro hQ _
  have ho := at_of_nth ho'
  refine wpAnyH_all hr (by simp) (fun j hj => ?_)
  obtain rfl : j = i := by simpa using hj
  unfold wpOp
  simp only [ho, hw, if_true]
  exact .inl (h _ (fun a' w' hs hg => ⟨hs, hg hQ hs⟩))

/-- Two operations may come up. -/
theorem GS_fork {i j : Nat} {o o' : Oper} {fuel : Nat} {listed : Array Bool} {a : Act} {w : World} (ho : nth ops.toList i = some o) (ho' : nth ops.toList j = some o') (hr : Region.ready .any ops listed = [i, j])
    (hw : Region.wanted o (yielded ops a.tmps) = true) (hw' : Region.wanted o' (yielded ops a.tmps) = true)
    (h : ∀ K : Act → World → Prop, (∀ a' w', S w' → GS P ops Q S fuel (listed.setIfInBounds i true) a' w' → K a' w') → o.wp P a w K Q)
    (h' : ∀ K : Act → World → Prop, (∀ a' w', S w' → GS P ops Q S fuel (listed.setIfInBounds j true) a' w' → K a' w') → o'.wp P a w K Q) : GS P ops Q S (fuel + 1) listed a w := by
  intro hQ _
  refine wpAnyH_all hr (by simp) (fun k hk => ?_)
  have hk' : k = i ∨ k = j := by simpa using hk
  rcases hk' with rfl | rfl
  · unfold wpOp
    simp only [at_of_nth ho, hw, if_true]
    exact .inl (h _ (fun a' w' hs hg => ⟨hs, hg hQ hs⟩))
  · unfold wpOp
    simp only [at_of_nth ho', hw', if_true]
    exact .inl (h' _ (fun a' w' hs hg => ⟨hs, hg hQ hs⟩))

theorem GS_done {fuel : Nat} {listed : Array Bool} {a : Act} {w : World} (hr : Region.ready .any ops listed = []) (h : Q .normal a w) : GS P ops Q S fuel listed a w :=
  fun _ _ => wpAnyH_done hr h fuel
end
end Go.Proofs.Ytochpomddfjkoaa.RegB
