/- A region that draws its order, whose operations but a few only compute, and whose few others wait for one another: it is enough to walk one order. Over any program; nothing is asked. -/
import Derived.OrdersHeld
import Derived.Deep.Quiet
import Derived.Below
import Derived.BigQuiet
import Derived.Scope
namespace Go.Proofs.Ytochpomddfjkoaa.Reg
open Go.RowKit

/-- A world that may come later: what was there is as it was. -/
structure Later (w : World) where
  world : World
  ext : Below w.heap.size w world

/-- All worlds that may come later. -/
def LaterC (w : World) : World → Prop := fun w' => ∃ x : Later w, w' = x.world

theorem laterC_iff {w w' : World} : LaterC w w' ↔ Below w.heap.size w w' := ⟨fun ⟨x, h⟩ => h ▸ x.ext, fun h => ⟨⟨w', h⟩, rfl⟩⟩
theorem below_trans {a b c : World} (h : Below a.heap.size a b) (k : Below b.heap.size b c) : Below a.heap.size a c := h.trans (k.mono h.size)
def Later.self (w : World) : Later w := ⟨w, Below.refl _ _⟩
instance {w : World} : Nonempty (Later w) := ⟨Later.self w⟩
def Later.up {w w' : World} (h : Below w.heap.size w w') (x : Later w') : Later w := ⟨x.world, below_trans h x.ext⟩

/-- A cell that was there, in whatever world comes later. -/
theorem later_cell {w W : World} (h : Below w.heap.size w W) {a : Addr} {v : Value} (hc : w.cell? a = some v) : ∀ x : Later W, x.world.cell? a = some v := fun x => by
  rw [(below_trans h x.ext).cell (World.block_lt_of_cell? w _ hc)]
  exact hc

/-- Operations that yield a value, or none at all. -/
def plainOp : Op → Bool
  | .nilCheck _ | .move _ | .assign _ | .pick .. | .load .. | .binOp .. | .unOp .. | .convert .. | .slice .. | .fieldAddr .. | .field .. | .indexAddr .. | .index .. | .extract .. | .makeInterface .. => true
  | .call c => match c.callee with
    | .builtin .len | .builtin .cap => true
    | _ => false
  | _ => false

theorem value_of_bind {P : Program} {s : Sem Value} {w w' : World} {n : Next} (h : ((do pure (.value (← s)) : Sem Next)).run P w = .ok n w') : ∃ u, n = .value u := by
  rw [Sem.run_bind] at h
  cases hs : s.run P w with
  | ok u w1 =>
    rw [hs] at h
    simp only [Result.andThen, Sem.run_pure] at h
    injection h with h1 h2
    exact ⟨u, h1.symm⟩
  | halt x w1 =>
    rw [hs] at h
    simp only [Result.andThen] at h
    cases h

theorem value_of_any {α : Type} {P : Program} {s : Sem α} {f : α → Sem Next} {w w' : World} {n : Next} (hf : ∀ a w1 n w', (f a).run P w1 = .ok n w' → ∃ u, n = .value u) (h : (s >>= f).run P w = .ok n w') : ∃ u, n = .value u := by
  rw [Sem.run_bind] at h
  cases hs : s.run P w with
  | ok u w1 =>
    rw [hs] at h
    exact hf _ _ _ _ h
  | halt x w1 =>
    rw [hs] at h
    cases h

theorem plain_value {P : Program} {ρ : Operand → Value} {o : Oper} {w w' : World} {n : Next} (hp : plainOp o.op = true) (h : (execOp ρ o).run P w = .ok n w') : ∃ u, n = .value u := by
  unfold execOp at h
  cases hop : o.op <;> rw [hop] at hp h <;> simp only [plainOp, Bool.false_eq_true] at hp
  all_goals simp only at h
  case move x => rw [Sem.run_pure] at h; injection h with h1 _; exact ⟨_, h1.symm⟩
  case assign x => rw [Sem.run_pure] at h; injection h with h1 _; exact ⟨_, h1.symm⟩
  case nilCheck x =>
    split at h
    · cases h
    · cases h
    · cases h
    · split at h
      · cases h
      · refine value_of_any ?_ h
        intro a w1 n w' h
        refine value_of_any ?_ h
        intro a w1 n w' h
        split at h
        · refine value_of_any ?_ h
          intro a w1 n w' h
          rw [Sem.run_pure] at h; injection h with h1 _; exact ⟨_, h1.symm⟩
        · rw [Sem.run_pure] at h; injection h with h1 _; exact ⟨_, h1.symm⟩
      · rw [Sem.run_pure] at h; injection h with h1 _; exact ⟨_, h1.symm⟩
    · rw [Sem.run_pure] at h; injection h with h1 _; exact ⟨_, h1.symm⟩
  case pick c a b => exact value_of_bind (s := do pure (if ← asBool (ρ c) then ρ a else ρ b)) (by simpa [Sem.run_bind, Sem.run_pure] using h)
  case call c =>
    cases hc : c.callee with
    | builtin b =>
      rw [hc] at hp
      cases b <;> simp only [Bool.false_eq_true] at hp
      all_goals
        simp only [resolve, hc, Sem.run_bind, Sem.run_pure, Result.andThen, invoke, builtin] at h
        exact value_of_bind (by rw [Sem.run_bind]; exact h)
    | _ => rw [hc] at hp; simp at hp
  all_goals exact value_of_bind h

section
variable {P : Program} {ops : Array Oper} {Q : Exit → Act → World → Prop}

theorem wpAnyH_mono {md : Region.Mode} {S S' : World → Prop} (h : ∀ w, S' w → S w) : ∀ (fuel : Nat) (listed : Array Bool) (a : Act) (w : World), wpAnyH P md ops Q S' fuel listed a w → wpAnyH P md ops Q S fuel listed a w
  | 0, _, _, _, hh => hh
  | fuel + 1, _, _, _, hh => ⟨hh.1, fun i hi => wpOp_mono (fun a' w' h' => ⟨h _ h'.1, wpAnyH_mono h fuel _ a' w' h'.2⟩) (hh.2 i hi)⟩

/-- What is asked at a panic does not hang on the frame. -/
def Frameless (Q : Exit → Act → World → Prop) : Prop := ∀ c a d v w, Q (.panic c) (a.put d v) w → Q (.panic c) a w

theorem frameless_bodyPost {P : Program} {fn : Func} {R : Ending → World → Prop} : Frameless (bodyPost P fn R) := fun c a d v w h => by cases d <;> exact h
theorem frameless_then {K : Act → World → Prop} {Q : Exit → Act → World → Prop} (h : Frameless Q) : Frameless (Exit.then K Q) := fun c a d v w hh => h c a d v w hh
theorem frameless_inBlock {id : Nat} {Q : Exit → Act → World → Prop} (h : Frameless Q) : Frameless (Exit.inBlock id Q) := fun c a d v w hh => h c a d v w hh
theorem frameless_noGoto {Q : Exit → Act → World → Prop} (h : Frameless Q) : Frameless (Exit.noGoto Q) := fun c a d v w hh => h c a d v w hh

/-- The element at a place; it comes out as it is written. -/
def nth {α : Type} : List α → Nat → Option α
  | [], _ => none
  | x :: _, 0 => some x
  | _ :: r, n + 1 => nth r n
theorem nth_eq {α : Type} : ∀ (l : List α) (n : Nat), nth l n = l[n]?
  | [], _ => rfl
  | _ :: _, 0 => rfl
  | _ :: r, n + 1 => by rw [nth, nth_eq r n, List.getElem?_cons_succ]
theorem at_of_nth {ops : Array Oper} {i : Nat} {o : Oper} (h : nth ops.toList i = some o) : ops[i]? = some o := by
  rw [nth_eq] at h
  simpa using h

/-- What is left of a region, walked in one order. -/
def G (P : Program) (ops : Array Oper) (Q : Exit → Act → World → Prop) (fuel : Nat) (listed : Array Bool) (a : Act) (w : World) : Prop :=
  Frameless Q → wpAnyH P .any ops Q (LaterC w) fuel listed a w

theorem G_start {id : Nat} {a : Act} {w : World} (hm : P.follows .mixedOrders = true) (hQ : Frameless Q)
    (h : ∀ W, Below w.heap.size w W → G P ops Q ops.size (Array.replicate ops.size false) a W) : (Code.region id ops true).wp P Q a w :=
  wp_region_any hm (wpAny_of_held _ _ _ _ (h w.drew (Below.refl _ _).drew hQ))

/-- Operation number i only computes, may come up now, and nobody who may come up before it touches what it touches. -/
def stepOk (ops : Array Oper) (listed : Array Bool) (i : Nat) : Bool :=
  (match ops[i]? with | some o => plainOp o.op | none => false) && Region.noSelect ops && Region.free .any ops listed i && (Region.ready .any ops listed).contains i

theorem G_step {i : Nat} {o : Oper} {fuel : Nat} {listed : Array Bool} {a : Act} {w : World} (ho' : nth ops.toList i = some o) (hok : stepOk ops listed i = true) (hw : Region.wanted o (yielded ops a.tmps) = true)
    (h : ∀ K : Act → Prop, (∀ a', G P ops Q fuel (listed.setIfInBounds i true) a' w → K a') → o.quiet P a (fun w' => ∃ x : Later w, w' = x.world) K) : G P ops Q (fuel + 1) listed a w := by
  intro hQ
  have ho := at_of_nth ho'
  simp only [stepOk, ho, Bool.and_eq_true] at hok
  obtain ⟨⟨⟨hp, hs⟩, hf⟩, hr⟩ := hok
  obtain ⟨v, h1, h2⟩ := h _ (fun _ h => h)
  refine wpAnyH_take ho hs hf hr (fun c a w => hQ c a _ _ w) (.inl ⟨hw, fun w' hw' => ?_⟩) (laterC_iff.2 (Below.refl _ _)) (h2 hQ)
  have h3 := h1 w' hw'
  unfold Oper.quietAt at h3
  cases hrun : (execOp a.eval o).run P w' with
  | ok n w1 =>
    obtain ⟨u, rfl⟩ := plain_value hp hrun
    rw [hrun] at h3
    simp only [Oper.quietUpon] at h3
    rw [h3.1, h3.2]
  | halt x w1 =>
    rw [hrun] at h3
    exact h3.elim

/-- The guard of operation number i says no. -/
theorem G_skip {i : Nat} {o : Oper} {fuel : Nat} {listed : Array Bool} {a : Act} {w : World} (ho' : nth ops.toList i = some o) (hok : (Region.noSelect ops && Region.free .any ops listed i && (Region.ready .any ops listed).contains i) = true)
    (hw : Region.wanted o (yielded ops a.tmps) = false)
    (h : G P ops Q fuel (listed.setIfInBounds i true) (a.put o.dst undef) w) : G P ops Q (fuel + 1) listed a w := by
  intro hQ
  have ho := at_of_nth ho'
  simp only [Bool.and_eq_true] at hok
  obtain ⟨⟨hs, hf⟩, hr⟩ := hok
  exact wpAnyH_take ho hs hf hr (fun c a w => hQ c a _ _ w) (.inr ⟨hw, rfl⟩) (laterC_iff.2 (Below.refl _ _)) (h hQ)

/-- Operation number i alone may come up: it is carried out. -/
theorem G_event {i : Nat} {o : Oper} {fuel : Nat} {listed : Array Bool} {a : Act} {w : World} (ho' : nth ops.toList i = some o) (hr : Region.ready .any ops listed = [i])
    (hw : Region.wanted o (yielded ops a.tmps) = true)
    (h : ∀ K : Act → World → Prop, (∀ a' w', Below w.heap.size w w' → G P ops Q fuel (listed.setIfInBounds i true) a' w' → K a' w') → o.wp P a w K Q) : G P ops Q (fuel + 1) listed a w := by
  intro hQ
  have ho := at_of_nth ho'
  refine wpAnyH_all hr (by simp) (fun j hj => ?_)
  obtain rfl : j = i := by simpa using hj
  unfold wpOp
  simp only [ho, hw, if_true]
  refine .inl (h _ (fun a' w' hb hg => ⟨laterC_iff.2 hb, ?_⟩))
  exact wpAnyH_mono (fun x hx => laterC_iff.2 (below_trans hb (laterC_iff.1 hx))) _ _ _ _ (hg hQ)

theorem G_done {fuel : Nat} {listed : Array Bool} {a : Act} {w : World} (hr : Region.ready .any ops listed = []) (h : Q .normal a w) : G P ops Q fuel listed a w :=
  fun _ => wpAnyH_done hr h fuel
end
end Go.Proofs.Ytochpomddfjkoaa.Reg
