/- Schemas by plain lists: which may be together, the one of a name, with one more; no program, nothing is asked. -/
import Derived.Test.YtochpomddfjkoaaSchemaMath
namespace Go.Proofs.Ytochpomddfjkoaa.RgM
open Go.RowKit Go.Proofs.Ytochpomddfjkoaa.BM Go.Proofs.Ytochpomddfjkoaa.VaM
open Go.Proofs.Ytochpomddfjkoaa.ScM (Sc F Fit)

/-- No schema. -/
def s0 : Sc := ⟨e0, 0, []⟩

/-- Where the first one of a name is. -/
def At (l : List Sc) (n : ByteArray) : Option Nat := l.findIdx? fun s => decide (s.s = n)

theorem getD_lt {l : List Sc} {i : Nat} (h : i < l.length) : l.getD i s0 = l[i] := by
  rw [List.getD_eq_getElem?_getD, List.getElem?_eq_getElem h]
  rfl

theorem at_some {l : List Sc} {n : ByteArray} {i : Nat} : At l n = some i ↔ i < l.length ∧ (l.getD i s0).s = n ∧ ∀ j, j < i → (l.getD j s0).s ≠ n := by
  unfold At
  rw [List.findIdx?_eq_some_iff_getElem]
  constructor
  · rintro ⟨h, h1, h2⟩
    refine ⟨h, by rw [getD_lt h]; simpa using h1, fun j hj => ?_⟩
    rw [getD_lt (by omega)]
    simpa using h2 j hj
  · rintro ⟨h, h1, h2⟩
    refine ⟨h, by rw [getD_lt h] at h1; simpa using h1, fun j hj => ?_⟩
    have h3 := h2 j hj
    rw [getD_lt (by omega)] at h3
    simpa using h3

theorem at_none {l : List Sc} {n : ByteArray} : At l n = none ↔ ∀ j, j < l.length → (l.getD j s0).s ≠ n := by
  unfold At
  rw [List.findIdx?_eq_none_iff]
  constructor
  · intro h j hj
    rw [getD_lt hj]
    simpa using h _ (List.getElem_mem hj)
  · intro h x hx
    obtain ⟨j, hj, rfl⟩ := List.getElem_of_mem hx
    have h1 := h j hj
    rw [getD_lt hj] at h1
    simpa using h1

/-- As a number: -1 if there is none. -/
def atI (l : List Sc) (n : ByteArray) : Int := match At l n with
  | some i => (i : Int)
  | none => -1

/-- The first n of them: each may be, and is not of a name ahead of it. -/
def LGd (l : List Sc) (n : Nat) : Prop := ∀ i, i < n → ScM.May (l.getD i s0) ∧ At l (l.getD i s0).s = some i
instance (l : List Sc) (n : Nat) : Decidable (LGd l n) := by unfold LGd; infer_instance
/-- May all be? -/
def May (l : List Sc) : Prop := LGd l l.length ∧ l.length ≤ 8
instance (l : List Sc) : Decidable (May l) := by unfold May; infer_instance

theorem LGd.succ {l : List Sc} {n : Nat} (h : LGd l n) (hn : ScM.May (l.getD n s0) ∧ At l (l.getD n s0).s = some n) : LGd l (n + 1) := by
  intro j hj
  by_cases e : j = n
  · exact e ▸ hn
  · exact h j (by omega)

/-- The j-th one is of a name ahead of it, or of its own first. -/
theorem at_self {l : List Sc} {j : Nat} (hj : j < l.length) : ∃ i, i ≤ j ∧ At l (l.getD j s0).s = some i := by
  cases h : At l (l.getD j s0).s with
  | none => exact absurd rfl (at_none.1 h j hj)
  | some i =>
    refine ⟨i, ?_, rfl⟩
    obtain ⟨_, _, h3⟩ := at_some.1 h
    rcases Nat.lt_or_ge j i with h4 | h4
    · exact absurd rfl (h3 j h4)
    · exact h4

/-- The one of a name. -/
def find (l : List Sc) (n : ByteArray) : Sc × Bool := match At l n with
  | some i => (l.getD i s0, true)
  | none => (s0, false)

/-- With one more, or the error. -/
def add (l : List Sc) (s : Sc) : List Sc × Int :=
  if ¬ (May l ∧ ScM.May s) then ([], 1) else match At l s.s with
  | none => if s.v ≠ 1 then ([], 5) else if 8 ≤ l.length then ([], 7) else (l ++ [s], 0)
  | some i => if l.getD i s0 = s then ([], 4) else if Fit (l.getD i s0) s then (l.set i s, 0) else ([], 5)

theorem add_1 {l : List Sc} {s : Sc} (h : ¬ (May l ∧ ScM.May s)) : add l s = ([], 1) := by rw [add, if_pos h]
theorem add_none {l : List Sc} {s : Sc} (h : May l ∧ ScM.May s) (ha : At l s.s = none) : add l s = if s.v ≠ 1 then ([], 5) else if 8 ≤ l.length then ([], 7) else (l ++ [s], 0) := by
  rw [add, if_neg (fun k => k h), ha]
theorem add_some {l : List Sc} {s : Sc} {i : Nat} (h : May l ∧ ScM.May s) (ha : At l s.s = some i) : add l s = if l.getD i s0 = s then ([], 4) else if Fit (l.getD i s0) s then (l.set i s, 0) else ([], 5) := by
  rw [add, if_neg (fun k => k h), ha]

theorem fit_ne {a b : Sc} (h : Fit a b) : a ≠ b := fun e => by
  have h1 := h.2.2.2.1
  rw [e] at h1
  omega

/-- What add does, where it has no error. -/
theorem add_ok {l : List Sc} {s : Sc} (h : (add l s).2 = 0) : May l ∧ ScM.May s ∧ ((At l s.s = none ∧ s.v = 1 ∧ l.length < 8 ∧ add l s = (l ++ [s], 0)) ∨ ∃ i, At l s.s = some i ∧ Fit (l.getD i s0) s ∧ add l s = (l.set i s, 0)) := by
  by_cases hm : May l ∧ ScM.May s
  · refine ⟨hm.1, hm.2, ?_⟩
    cases ha : At l s.s with
    | none =>
      rw [add_none hm ha] at h ⊢
      by_cases h1 : s.v ≠ 1
      · rw [if_pos h1] at h
        cases h
      · rw [if_neg h1] at h ⊢
        by_cases h2 : 8 ≤ l.length
        · rw [if_pos h2] at h
          cases h
        · rw [if_neg h2]
          exact Or.inl ⟨rfl, by simpa using h1, by omega, rfl⟩
    | some i =>
      rw [add_some hm ha] at h ⊢
      by_cases h1 : l.getD i s0 = s
      · rw [if_pos h1] at h
        cases h
      · rw [if_neg h1] at h ⊢
        by_cases h2 : Fit (l.getD i s0) s
        · rw [if_pos h2]
          exact Or.inr ⟨i, rfl, h2, rfl⟩
        · rw [if_neg h2] at h
          cases h
  · rw [add_1 hm] at h
    cases h

theorem add_err {l : List Sc} {s : Sc} (h : (add l s).2 ≠ 0) : (add l s).1 = [] := by
  by_cases hm : May l ∧ ScM.May s
  · cases ha : At l s.s with
    | none =>
      rw [add_none hm ha] at h ⊢
      split
      · rfl
      · rename_i h1
        rw [if_neg h1] at h
        split
        · rfl
        · rename_i h2
          rw [if_neg h2] at h
          exact absurd rfl h
    | some i =>
      rw [add_some hm ha] at h ⊢
      split
      · rfl
      · rename_i h1
        rw [if_neg h1] at h
        split
        · rename_i h2
          rw [if_pos h2] at h
          exact absurd rfl h
        · rfl
  · rw [add_1 hm]

theorem getD_snoc {l : List Sc} {s : Sc} (i : Nat) : (l ++ [s]).getD i s0 = if i < l.length then l.getD i s0 else if i = l.length then s else s0 := by
  rw [List.getD_eq_getElem?_getD, List.getD_eq_getElem?_getD]
  by_cases h : i < l.length
  · rw [if_pos h, List.getElem?_append_left h]
  · rw [if_neg h, List.getElem?_append_right (by omega)]
    by_cases h2 : i = l.length
    · subst h2
      simp
    · rw [if_neg h2, List.getElem?_eq_none (by simp only [List.length_cons, List.length_nil]; omega)]
      rfl

theorem getD_set {l : List Sc} {s : Sc} {k : Nat} (hk : k < l.length) (i : Nat) : (l.set k s).getD i s0 = if i = k then s else l.getD i s0 := by
  rw [List.getD_eq_getElem?_getD, List.getD_eq_getElem?_getD]
  by_cases h : i = k
  · subst h
    rw [if_pos rfl, List.getElem?_set_self hk]
    rfl
  · rw [if_neg h, List.getElem?_set_ne (Ne.symm h)]

/-- Names stay where they are. -/
theorem at_set {l : List Sc} {s : Sc} {k : Nat} (hk : k < l.length) (hn : (l.getD k s0).s = s.s) (n : ByteArray) : At (l.set k s) n = At l n := by
  have hg : ∀ i, ((l.set k s).getD i s0).s = (l.getD i s0).s := fun i => by
    rw [getD_set hk]
    split
    · rename_i e
      rw [e, hn]
    · rfl
  cases h : At l n with
  | none =>
    rw [at_none]
    intro j hj
    rw [List.length_set] at hj
    rw [hg]
    exact at_none.1 h j hj
  | some i =>
    obtain ⟨h1, h2, h3⟩ := at_some.1 h
    rw [at_some, List.length_set, hg]
    exact ⟨h1, h2, fun j hj => by rw [hg]; exact h3 j hj⟩

theorem at_snoc {l : List Sc} {s : Sc} {n : ByteArray} : At (l ++ [s]) n = match At l n with
    | some i => some i
    | none => if s.s = n then some l.length else none := by
  cases h : At l n with
  | some i =>
    obtain ⟨h1, h2, h3⟩ := at_some.1 h
    simp only
    rw [at_some, List.length_append, getD_snoc, if_pos h1]
    refine ⟨by simp only [List.length_cons, List.length_nil]; omega, h2, fun j hj => ?_⟩
    rw [getD_snoc, if_pos (by omega)]
    exact h3 j hj
  | none =>
    have h1 := at_none.1 h
    simp only
    by_cases hs : s.s = n
    · rw [if_pos hs, at_some, List.length_append, getD_snoc, if_neg (by omega), if_pos rfl]
      refine ⟨by simp only [List.length_cons, List.length_nil]; omega, hs, fun j hj => ?_⟩
      rw [getD_snoc, if_pos hj]
      exact h1 j hj
    · rw [if_neg hs, at_none]
      intro j hj
      rw [List.length_append, List.length_cons, List.length_nil] at hj
      rw [getD_snoc]
      split
      · rename_i h2
        exact h1 j h2
      · rw [if_pos (by omega)]
        exact hs

theorem may_snoc {l : List Sc} {s : Sc} (h : May l) (hs : ScM.May s) (ha : At l s.s = none) (hl : l.length < 8) : May (l ++ [s]) := by
  refine ⟨fun i hi => ?_, by rw [List.length_append]; simp only [List.length_cons, List.length_nil]; omega⟩
  rw [List.length_append, List.length_cons, List.length_nil] at hi
  rw [at_snoc, getD_snoc]
  split
  · rename_i h1
    obtain ⟨g1, g2⟩ := h.1 i h1
    rw [g2]
    exact ⟨g1, rfl⟩
  · rename_i h1
    have e : i = l.length := by omega
    rw [if_pos e, ha]
    simp only [if_true]
    exact ⟨hs, by rw [e]⟩

theorem may_set {l : List Sc} {s : Sc} {k : Nat} (h : May l) (hs : ScM.May s) (ha : At l s.s = some k) : May (l.set k s) := by
  obtain ⟨hk, hn, _⟩ := at_some.1 ha
  refine ⟨fun i hi => ?_, by rw [List.length_set]; exact h.2⟩
  rw [List.length_set] at hi
  rw [at_set hk hn, getD_set hk]
  split
  · rename_i e
    rw [e]
    exact ⟨hs, ha⟩
  · exact h.1 i hi

/-- What is added may be, and is found; added again it is there. -/
theorem add_found {l : List Sc} {s : Sc} (h : (add l s).2 = 0) : May (add l s).1 ∧ find (add l s).1 s.s = (s, true) ∧ (add (add l s).1 s).2 = 4 := by
  obtain ⟨hm, hs, hw⟩ := add_ok h
  have key : ∀ x : List Sc, add l s = (x, 0) → May x → (∃ i, At x s.s = some i ∧ x.getD i s0 = s) → May (add l s).1 ∧ find (add l s).1 s.s = (s, true) ∧ (add (add l s).1 s).2 = 4 := by
    rintro x e hx ⟨i, h1, h2⟩
    rw [e]
    refine ⟨hx, ?_, ?_⟩
    · simp only [find, h1, h2]
    · rw [add_some ⟨hx, hs⟩ h1, if_pos h2]
  rcases hw with ⟨ha, _, hl, e⟩ | ⟨i, ha, _, e⟩
  · refine key _ e (may_snoc hm hs ha hl) ⟨l.length, ?_, ?_⟩
    · rw [at_snoc, ha]
      simp only [if_true]
    · rw [getD_snoc, if_neg (by omega), if_pos rfl]
  · obtain ⟨hk, hn, _⟩ := at_some.1 ha
    refine key _ e (may_set hm hs ha) ⟨i, by rw [at_set hk hn]; exact ha, ?_⟩
    rw [getD_set hk, if_pos rfl]

/-- Each other one is as it was. -/
theorem add_rest {l : List Sc} {s : Sc} (h : (add l s).2 = 0) : l.length ≤ (add l s).1.length ∧ (add l s).1.length ≤ l.length + 1 ∧
    ∀ i, i < l.length → ((add l s).1.getD i s0).s = (l.getD i s0).s ∧ ((l.getD i s0).s ≠ s.s → (add l s).1.getD i s0 = l.getD i s0) := by
  obtain ⟨hm, hs, hw⟩ := add_ok h
  rcases hw with ⟨ha, _, hl, e⟩ | ⟨k, ha, _, e⟩
  · rw [e]
    simp only [List.length_append, List.length_cons, List.length_nil]
    refine ⟨by omega, by omega, fun i hi => ?_⟩
    rw [getD_snoc, if_pos hi]
    exact ⟨rfl, fun _ => rfl⟩
  · obtain ⟨hk, hn, _⟩ := at_some.1 ha
    rw [e]
    simp only [List.length_set]
    refine ⟨Nat.le_refl _, by omega, fun i hi => ?_⟩
    rw [getD_set hk]
    split
    · rename_i e
      subst e
      exact ⟨hn.symm, fun h => absurd hn h⟩
    · exact ⟨rfl, fun _ => rfl⟩

/-- What is found is found again, as it was, or as one that fits it. -/
theorem add_grows {l : List Sc} {s : Sc} (h : (add l s).2 = 0) {n : ByteArray} {o : Sc} (hf : find l n = (o, true)) : ∃ u, find (add l s).1 n = (u, true) ∧ (u = o ∨ Fit o u) := by
  obtain ⟨hm, hs, hw⟩ := add_ok h
  cases ha : At l n with
  | none =>
    simp only [find, ha, Prod.mk.injEq] at hf
    cases hf.2
  | some i =>
    simp only [find, ha, Prod.mk.injEq, and_true] at hf
    obtain ⟨hi, hin, _⟩ := at_some.1 ha
    rcases hw with ⟨_, _, hl, e⟩ | ⟨k, hk, hfit, e⟩
    · refine ⟨o, ?_, Or.inl rfl⟩
      rw [e]
      simp only [find, at_snoc, ha, getD_snoc, if_pos hi, hf]
    · obtain ⟨k1, k2, _⟩ := at_some.1 hk
      rw [e]
      simp only [find, at_set k1 k2, ha, getD_set k1]
      by_cases ek : i = k
      · refine ⟨s, by rw [if_pos ek], Or.inr ?_⟩
        rw [← hf, ek]
        exact hfit
      · exact ⟨o, by rw [if_neg ek, hf], Or.inl rfl⟩
end Go.Proofs.Ytochpomddfjkoaa.RgM
