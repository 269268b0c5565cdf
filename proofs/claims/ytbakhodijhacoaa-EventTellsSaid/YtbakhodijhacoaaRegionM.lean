/- A region that draws its order and ends by a store into what it read: one thing is known of all worlds till all operations have come up. Over any program; nothing is asked. -/
import Derived.Test.YtbakhodijhacoaaRegionB
namespace Go.Proofs.Ytbakhodijhacoaa.RegM
open Go.RowKit Go.Proofs.Ytbakhodijhacoaa.Reg Go.Proofs.Ytbakhodijhacoaa.RegB

section
variable {P : Program} {md : Region.Mode} {ops : Array Oper} {Q : Exit → Act → World → Prop} {S : World → Prop}

/-- Has each operation come up? -/
def full (listed : Array Bool) : Bool := listed.all id

theorem full_no {listed : Array Bool} {d : Nat} (h : listed.getD d true = false) : full listed = false := by
  unfold full
  rw [Bool.eq_false_iff]
  intro hf
  rw [Array.all_eq_true] at hf
  rcases Nat.lt_or_ge d listed.size with hd | hd
  · have h1 := hf d hd
    simp only [id] at h1
    simp [Array.getD, hd, h1] at h
  · simp [Array.getD, Nat.not_lt.2 hd] at h

/-- Whatever order is drawn: S holds behind each operation, but for the last one. -/
def AnyM (P : Program) (md : Region.Mode) (ops : Array Oper) (Q : Exit → Act → World → Prop) (S : World → Prop) : Nat → Array Bool → Act → World → Prop
  | 0, l, a, w => Q .normal a w ∧ Region.ready md ops l = []
  | n + 1, l, a, w => (∀ k ∈ Region.ready md ops l, wpOp P ops Q k (fun b x => AnyM P md ops Q S n (l.setIfInBounds k true) b x ∧ (full (l.setIfInBounds k true) = true ∨ S x)) a w) ∧ (Region.ready md ops l = [] → Q .normal a w)

theorem any_of : ∀ (n : Nat) (l : Array Bool) (a : Act) (w : World), AnyM P md ops Q S n l a w → wpAny P md ops Q n l a w
  | 0, _, _, _, h => ⟨h.2, h.1⟩
  | n + 1, _, _, _, h => ⟨h.2, fun k hk => wpOp_mono (fun b x hx => any_of n _ b x hx.1) (h.1 k hk)⟩

/-- An operation that reads, and that another one waits for, may be taken first. -/
theorem first {i d : Nat} {o o' : Oper} {v : Value} (hi : ops[i]? = some o) (hd : ops[d]? = some o') (hw : ∃ e ∈ o'.after, Region.binds md e = true ∧ e.on = i)
    (hsel : ∀ (j : Nat) (q : Oper) cs b, ops[j]? = some q → q.op ≠ .select cs b) (hQ : ∀ c a w, Q (.panic c) (a.put o.dst v) w → Q (.panic c) a w) :
    ∀ (n : Nat) (l : Array Bool) (a : Act) (w : World),
      (∀ j q, ops[j]? = some q → j ≠ i → l.getD j true = false → (∀ e ∈ q.after, Region.binds md e = true → e.on ≠ i) → o.apart ops q = true) →
      i ∈ Region.ready md ops l → l.getD d true = false → d ≠ i → YieldsIf P ops S o v a → S w → AnyM P md ops Q S n (l.setIfInBounds i true) (a.put o.dst v) w → AnyM P md ops Q S (n + 1) l a w := by
  intro n
  induction n with
  | zero =>
    intro l a w _ hr hun hdi hy hS H
    refine ⟨fun j hj => ?_, fun h => by rw [h] at hr; cases hr⟩
    by_cases hji : j = i
    · subst hji
      exact hy.wpOp hi hS ⟨H, Or.inr hS⟩
    · have h0 := ready_mono hj hji
      rw [H.2] at h0
      cases h0
  | succ n ih =>
    intro l a w hfree hr hun hdi hy hS H
    refine ⟨fun j hj => ?_, fun h => by rw [h] at hr; cases hr⟩
    by_cases hji : j = i
    · subst hji
      exact hy.wpOp hi hS ⟨H, Or.inr hS⟩
    · obtain ⟨hju, q, hq, hall⟩ := mem_ready.1 hj
      have waits : ∀ e ∈ q.after, Region.binds md e = true → e.on ≠ i := by
        intro e he hb heq
        have h1 := hall e he hb
        have h0 := (mem_ready.1 hr).1
        rw [heq] at h1
        rcases Nat.lt_or_ge i l.size with h' | h'
        · simp [h'] at h0 h1
          rw [h0] at h1
          cases h1
        · simp [Array.getElem?_eq_none h'] at h1
      have hdj : d ≠ j := by
        rintro rfl
        rw [hd] at hq
        injection hq with hq
        subst hq
        obtain ⟨e, he, hb, hon⟩ := hw
        exact waits e he hb hon
      have hunj : (l.setIfInBounds j true).getD d true = false := by
        rw [getD_set_ne true (Ne.symm hdj)]
        exact hun
      have huni : ((l.setIfInBounds i true).setIfInBounds j true).getD d true = false := by
        rw [getD_set_ne true (Ne.symm hdj), getD_set_ne true (Ne.symm hdi)]
        exact hun
      have hput := wpOp_putIf hq (hfree j q hq hji hju waits) (fun cs b => hsel i o cs b hi) (fun cs b => hsel j q cs b hq) hQ hy (H.1 j (ready_mono hj hji))
      refine wpOp_mono (fun b x hx => ?_) hput
      have hSx : S x := by
        rcases hx.2.2 with hf | hs
        · rw [full_no huni] at hf
          cases hf
        · exact hs
      refine ⟨ih (l.setIfInBounds j true) b x ?_ (ready_mono hr (Ne.symm hji)) hunj hdi hx.1 hSx ?_, Or.inr hSx⟩
      · intro k r hk hki hku hkw
        refine hfree k r hk hki ?_ hkw
        by_cases hjk : j = k
        · subst hjk
          exact hju
        · rw [getD_set_ne true hjk] at hku
          exact hku
      · rw [Array.setIfInBounds_comm _ _ hji]
        exact hx.2.1

/-- What is left of a region. -/
def GM (P : Program) (ops : Array Oper) (Q : Exit → Act → World → Prop) (S : World → Prop) (n : Nat) (l : Array Bool) (a : Act) (w : World) : Prop :=
  Frameless Q → S w → AnyM P .any ops Q S n l a w

theorem GM_start {id : Nat} {a : Act} {w : World} (S : World → Prop) (hm : P.follows .mixedOrders = true) (hQ : Frameless Q) (hS : ∀ W, Below w.heap.size w W → S W)
    (h : ∀ W, Below w.heap.size w W → GM P ops Q S ops.size (Array.replicate ops.size false) a W) : (Code.region id ops true).wp P Q a w :=
  wp_region_any hm (any_of _ _ _ _ (h w.drew (Below.refl _ _).drew hQ (hS w.drew (Below.refl _ _).drew)))

/-- Does operation d wait for i, and is it to come? -/
def waitsB (ops : Array Oper) (l : Array Bool) (d i : Nat) : Bool :=
  match nth ops.toList d with
  | some q => q.after.toList.any (fun e => Region.binds .any e && e.on == i) && !(l.getD d true) && d != i
  | none => false

/-- A plain operation i, for which d waits, is taken first. -/
theorem GM_step {i : Nat} (d : Nat) {o : Oper} {n : Nat} {l : Array Bool} {a : Act} {w : World} (ho' : nth ops.toList i = some o) (hok : stepOk ops l i = true) (hwt : waitsB ops l d i = true) (hw : Region.wanted o (yielded ops a.tmps) = true)
    (h : ∀ K : Act → Prop, (∀ a', GM P ops Q S n (l.setIfInBounds i true) a' w → K a') → o.quiet P a (fun w' => ∃ x : At S, w' = x.world) K) : GM P ops Q S (n + 1) l a w := by
  intro hQ hSw
  have ho := at_of_nth ho'
  simp only [stepOk, ho, Bool.and_eq_true] at hok
  obtain ⟨⟨⟨hp, hs⟩, hf⟩, hr⟩ := hok
  unfold waitsB at hwt
  cases hd : nth ops.toList d with
  | none => rw [hd] at hwt; cases hwt
  | some q =>
    rw [hd] at hwt
    simp only [Bool.and_eq_true, List.any_eq_true, beq_iff_eq, bne_iff_ne, ne_eq, Bool.not_eq_true', Array.mem_toList_iff] at hwt
    obtain ⟨⟨⟨e, he, hb, hon⟩, hun⟩, hdi⟩ := hwt
    obtain ⟨v, h1, h2⟩ := h _ (fun _ h => h)
    refine first ho (at_of_nth hd) ⟨e, he, hb, hon⟩ (Region.noSelect_spec hs) (fun c a w => hQ c a _ _ w) n l a w (Region.free_spec ho hf) (by simpa using hr) hun hdi (.inl ⟨hw, fun w' hw' => ?_⟩) hSw (h2 hQ hSw)
    have h3 := h1 w' ⟨⟨w', hw'⟩, rfl⟩
    unfold Oper.quietAt at h3
    cases hrun : (execOp a.eval o).run P w' with
    | ok nx w1 =>
      obtain ⟨u, rfl⟩ := plain_value hp hrun
      rw [hrun] at h3
      simp only [Oper.quietUpon] at h3
      rw [h3.1, h3.2]
    | halt x w1 =>
      rw [hrun] at h3
      exact h3.elim

/-- Operation number i alone may come up: it is carried out. -/
theorem GM_event {i : Nat} {o : Oper} {n : Nat} {l : Array Bool} {a : Act} {w : World} (ho' : nth ops.toList i = some o) (hr : Region.ready .any ops l = [i])
    (hw : Region.wanted o (yielded ops a.tmps) = true)
    (h : ∀ K : Act → World → Prop, (∀ a' w', S w' → GM P ops Q S n (l.setIfInBounds i true) a' w' → K a' w') → o.wp P a w K Q) : GM P ops Q S (n + 1) l a w := by
  intro hQ _
  refine ⟨fun j hj => ?_, fun h0 => by rw [hr] at h0; cases h0⟩
  rw [hr] at hj
  obtain rfl : j = i := by simpa using hj
  unfold wpOp
  simp only [at_of_nth ho', hw, if_true]
  exact .inl (h _ (fun a' w' hs hg => ⟨hg hQ hs, Or.inr hs⟩))

/-- The last operation. -/
theorem GM_last {i : Nat} {o : Oper} {n : Nat} {l : Array Bool} {a : Act} {w : World} (ho' : nth ops.toList i = some o) (hr : Region.ready .any ops l = [i])
    (hw : Region.wanted o (yielded ops a.tmps) = true) (hf : full (l.setIfInBounds i true) = true) (hr2 : Region.ready .any ops (l.setIfInBounds i true) = [])
    (h : ∀ K : Act → World → Prop, (∀ a' w', Q .normal a' w' → K a' w') → o.wp P a w K Q) : GM P ops Q S (n + 1) l a w := by
  intro hQ _
  refine ⟨fun j hj => ?_, fun h0 => by rw [hr] at h0; cases h0⟩
  rw [hr] at hj
  obtain rfl : j = i := by simpa using hj
  unfold wpOp
  simp only [at_of_nth ho', hw, if_true]
  refine .inl (h _ (fun a' w' hg => ⟨?_, Or.inl hf⟩))
  cases n with
  | zero => exact ⟨hg, hr2⟩
  | succ n => exact ⟨fun k hk => (by rw [hr2] at hk; cases hk), fun _ => hg⟩
end
end Go.Proofs.Ytbakhodijhacoaa.RegM
