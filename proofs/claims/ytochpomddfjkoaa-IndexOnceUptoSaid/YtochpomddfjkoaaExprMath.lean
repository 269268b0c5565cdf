/- Expressions by plain lists: which may be, what they come to, of values and of kinds; no program, nothing is asked. -/
import Derived.Test.YtochpomddfjkoaaEventMath
import Derived.Test.YtochpomddfjkoaaValueLt
namespace Go.Proofs.Ytochpomddfjkoaa.ExM
open Go.RowKit Go.Proofs.Ytochpomddfjkoaa.BM Go.Proofs.Ytochpomddfjkoaa.VaM Go.Proofs.Ytochpomddfjkoaa.EvM
open Go.Proofs.Ytochpomddfjkoaa.Va (lt can)

/-- A part: what is done, with which value of the event's, with which one of its own. -/
structure O where
  c : Int
  a : Int
  v : V

theorem O.same {x y : O} (h1 : x.c = y.c) (h2 : x.a = y.a) (h3 : x.v = y.v) : x = y := by cases x; cases y; cases h1; cases h2; cases h3; rfl
instance : DecidableEq O := fun x y => if h : x.c = y.c ∧ x.a = y.a ∧ x.v = y.v then .isTrue (O.same h.1 h.2.1 h.2.2) else .isFalse (fun e => h (by rw [e]; exact ⟨rfl, rfl, rfl⟩))

/-- No part. -/
def o0 : O := ⟨0, 0, v0⟩

/-- May a part be? -/
def Ok (x : O) : Prop := 0 ≤ x.c ∧ x.c < 10 ∧ 0 ≤ x.a ∧ x.a < 6 ∧ (x.c = 1 ∨ x.a = 0) ∧ VaM.May x.v ∧ (x.c = 0 ∨ x.v = v0)
instance (x : O) : Decidable (Ok x) := by unfold Ok; infer_instance

/-- May an expression be? -/
def May (l : List O) : Prop := (∀ i, i < l.length → Ok (l.getD i o0)) ∧ l.length ≤ 12
instance (l : List O) : Decidable (May l) := by unfold May; infer_instance

theorem getD_mem {l : List O} {i : Nat} (h : i < l.length) : l.getD i o0 ∈ l := by
  rw [List.getD_eq_getElem?_getD, List.getElem?_eq_getElem h]
  exact List.getElem_mem h

theorem May.ok {l : List O} (h : May l) {x : O} (hx : x ∈ l) : Ok x := by
  obtain ⟨i, hi, rfl⟩ := List.getElem_of_mem hx
  have h1 := h.1 i hi
  rw [List.getD_eq_getElem?_getD, List.getElem?_eq_getElem hi] at h1
  exact h1

theorem may_of {l : List O} (h : ∀ x ∈ l, Ok x) (hl : l.length ≤ 12) : May l := ⟨fun _ hi => h _ (getD_mem hi), hl⟩

/-- A Bool. -/
def truth (b : Bool) : V := ⟨1, if b then 1 else 0, e0⟩
theorem truth_k (b : Bool) : (truth b).k = 1 := rfl
theorem truth_may (b : Bool) : VaM.May (truth b) := by cases b <;> decide
theorem truth_n (b : Bool) : ((truth b).n = 1) = (b = true) := by cases b <;> simp [truth]

/-- Of two numbers. -/
def arith (c x y : Int) : Int := if c = 2 then x + y else if c = 3 then x - y else x * y
/-- Is it a number of 64 bits? -/
def fits (n : Int) : Bool := decide (-9223372036854775808 ≤ n ∧ n ≤ 9223372036854775807)

/-- What comes of two, and why not. -/
def two (c : Int) (a b : V) : V × Int :=
  if a.k ≠ b.k then (v0, 5)
  else if c = 6 then (truth (decide (a = b)), 0)
  else if c = 5 then if a.k = 1 then (v0, 5) else (truth (can a b && lt a b), 0)
  else if c = 7 ∨ c = 8 then if a.k ≠ 1 then (v0, 5) else (truth (decide (a.n + b.n = 2 ∨ (c = 8 ∧ 0 < a.n + b.n))), 0)
  else if a.k ≠ 0 then (v0, 5)
  else if fits (arith c a.n b.n) = true then (⟨0, arith c a.n b.n, e0⟩, 0) else (v0, 6)

/-- One part; the pile's last one is the list's last one. -/
def step (vs : List V) (kinds : Bool) (o : O) (p : List V) : Except Int (List V) :=
  if o.c = 0 then .ok (p ++ [o.v])
  else if o.c = 1 then if o.a.toNat < vs.length then .ok (p ++ [vs.getD o.a.toNat v0]) else .error 3
  else if o.c = 9 then
    if p.length < 1 then .error 2 else if (p.getD (p.length - 1) v0).k ≠ 1 then .error 5 else .ok (p.take (p.length - 1) ++ [truth (decide ((p.getD (p.length - 1) v0).n = 0))])
  else if p.length < 2 then .error 2
  else
    let r := two o.c (p.getD (p.length - 2) v0) (p.getD (p.length - 1) v0)
    if r.2 = 0 ∨ (kinds = true ∧ r.2 = 6) then .ok (p.take (p.length - 2) ++ [r.1]) else .error r.2

/-- Part by part. -/
def run (vs : List V) (kinds : Bool) : List O → List V → Except Int (List V)
  | [], p => .ok p
  | o :: l, p => match step vs kinds o p with
    | .error e => .error e
    | .ok q => run vs kinds l q

/-- What it comes to, and why not. -/
def fin : Except Int (List V) → V × Int
  | .error e => (v0, e)
  | .ok p => if p.length = 1 then (p.getD 0 v0, 0) else (v0, 2)
def through (vs : List V) (l : List O) (kinds : Bool) : V × Int := fin (run vs kinds l [])

/-- The kind, of a schema's events. -/
def kval (k : Int) : V := ⟨k, 0, e0⟩
def kind (s : ScM.Sc) (l : List O) : Int × Int :=
  if ¬ (ScM.May s ∧ May l) then (0, 1) else ((through (s.f.map fun f => kval f.k) l true).1.k, (through (s.f.map fun f => kval f.k) l true).2)
def eval (e : Ev) (l : List O) : V × Int := if ¬ (May l ∧ EvM.May e) then (v0, 1) else through e.v l false
def holds (e : Ev) (l : List O) : Bool := decide (l = []) || decide ((eval e l).2 = 0 ∧ (eval e l).1.k = 1 ∧ (eval e l).1.n = 1)

section
variable {vs : List V} {kinds : Bool}

theorem run_app : ∀ {l m : List O} {p : List V}, run vs kinds (l ++ m) p = match run vs kinds l p with
    | .error e => .error e
    | .ok q => run vs kinds m q
  | [], m, p => rfl
  | o :: l, m, p => by
    simp only [List.cons_append, run]
    cases step vs kinds o p with
    | error e => rfl
    | ok q => exact run_app

theorem getD_app {r p : List V} (i : Nat) (j : Nat) (hj : j = r.length + i) : (r ++ p).getD j v0 = p.getD i v0 := by
  rw [List.getD_eq_getElem?_getD, List.getD_eq_getElem?_getD, List.getElem?_append_right (by omega), hj, Nat.add_sub_cancel_left]

theorem take_app {r p : List V} (i j : Nat) (hj : j = r.length + i) : (r ++ p).take j = r ++ p.take i := by
  rw [hj, List.take_append, List.take_of_length_le (by omega), Nat.add_sub_cancel_left]

/-- What lies below stays. -/
theorem step_frame {o : O} {p q r : List V} (h : step vs kinds o p = .ok q) : step vs kinds o (r ++ p) = .ok (r ++ q) := by
  unfold step at h ⊢
  have hlen : (r ++ p).length = r.length + p.length := List.length_append
  by_cases h0 : o.c = 0
  · rw [if_pos h0] at h ⊢
    injection h with h
    rw [← h, List.append_assoc]
  · rw [if_neg h0] at h ⊢
    by_cases h1 : o.c = 1
    · rw [if_pos h1] at h ⊢
      by_cases h2 : o.a.toNat < vs.length
      · rw [if_pos h2] at h ⊢
        injection h with h
        rw [← h, List.append_assoc]
      · rw [if_neg h2] at h
        cases h
    · rw [if_neg h1] at h ⊢
      by_cases h9 : o.c = 9
      · rw [if_pos h9] at h ⊢
        by_cases hp : p.length < 1
        · rw [if_pos hp] at h
          cases h
        · rw [if_neg hp] at h
          rw [if_neg (by omega), getD_app (p.length - 1) _ (by omega), take_app (p.length - 1) _ (by omega)]
          by_cases hk : (p.getD (p.length - 1) v0).k ≠ 1
          · rw [if_pos hk] at h
            cases h
          · rw [if_neg hk] at h ⊢
            injection h with h
            rw [← h, List.append_assoc]
      · rw [if_neg h9] at h ⊢
        by_cases hp : p.length < 2
        · rw [if_pos hp] at h
          cases h
        · rw [if_neg hp] at h
          rw [if_neg (by omega), getD_app (r := r) (p := p) (p.length - 1) ((r ++ p).length - 1) (by omega), getD_app (r := r) (p := p) (p.length - 2) ((r ++ p).length - 2) (by omega), take_app (p.length - 2) _ (by omega)]
          simp only at h ⊢
          split at h
          · rename_i hr
            rw [if_pos hr]
            injection h with h
            rw [← h, List.append_assoc]
          · cases h

theorem run_frame {r : List V} : ∀ {l : List O} {p q : List V}, run vs kinds l p = .ok q → run vs kinds l (r ++ p) = .ok (r ++ q)
  | [], p, q, h => by
    injection h with h
    rw [← h]
    rfl
  | o :: l, p, q, h => by
    simp only [run] at h ⊢
    cases hs : step vs kinds o p with
    | error e =>
      rw [hs] at h
      cases h
    | ok p' =>
      rw [hs] at h
      rw [step_frame hs]
      exact run_frame h
end

theorem two_may (c : Int) (a b : V) : VaM.May (two c a b).1 := by
  have h0 : VaM.May v0 := by decide
  unfold two
  split
  · exact h0
  · split
    · exact truth_may _
    · split
      · split
        · exact h0
        · exact truth_may _
      · split
        · split
          · exact h0
          · exact truth_may _
        · split
          · exact h0
          · split
            · exact Or.inr ⟨rfl, Or.inl rfl⟩
            · exact h0

/-- Of two the kind hangs on their kinds alone; and whether it can be, but for a number that is too great. -/
theorem two_kind (c : Int) {a b x y : V} (h1 : a.k = x.k) (h2 : b.k = y.k) : ((two c a b).2 = (two c x y).2 ∧ (two c a b).1.k = (two c x y).1.k) ∨ ((two c a b).2 = 6 ∧ (two c x y).2 = 0 ∧ (two c a b).1.k = (two c x y).1.k) ∨ ((two c a b).2 = 0 ∧ (two c x y).2 = 6) := by
  unfold two
  rw [h1, h2]
  by_cases g1 : x.k ≠ y.k
  · rw [if_pos g1, if_pos g1]
    exact Or.inl ⟨rfl, rfl⟩
  · rw [if_neg g1, if_neg g1]
    by_cases g2 : c = 6
    · rw [if_pos g2, if_pos g2]
      exact Or.inl ⟨rfl, rfl⟩
    · rw [if_neg g2, if_neg g2]
      by_cases g3 : c = 5
      · rw [if_pos g3, if_pos g3]
        by_cases g4 : x.k = 1
        · rw [if_pos g4, if_pos g4]
          exact Or.inl ⟨rfl, rfl⟩
        · rw [if_neg g4, if_neg g4]
          exact Or.inl ⟨rfl, rfl⟩
      · rw [if_neg g3, if_neg g3]
        by_cases g5 : c = 7 ∨ c = 8
        · rw [if_pos g5, if_pos g5]
          by_cases g4 : x.k ≠ 1
          · rw [if_pos g4, if_pos g4]
            exact Or.inl ⟨rfl, rfl⟩
          · rw [if_neg g4, if_neg g4]
            exact Or.inl ⟨rfl, rfl⟩
        · rw [if_neg g5, if_neg g5]
          by_cases g6 : x.k ≠ 0
          · rw [if_pos g6, if_pos g6]
            exact Or.inl ⟨rfl, rfl⟩
          · rw [if_neg g6, if_neg g6]
            by_cases g7 : fits (arith c a.n b.n) = true
            · rw [if_pos g7]
              by_cases g8 : fits (arith c x.n y.n) = true
              · rw [if_pos g8]
                exact Or.inl ⟨rfl, rfl⟩
              · rw [if_neg g8]
                exact Or.inr (Or.inr ⟨rfl, rfl⟩)
            · rw [if_neg g7]
              by_cases g8 : fits (arith c x.n y.n) = true
              · rw [if_pos g8]
                exact Or.inr (Or.inl ⟨rfl, rfl, rfl⟩)
              · rw [if_neg g8]
                exact Or.inl ⟨rfl, rfl⟩

theorem map_getD {p q : List V} (h : p.map (·.k) = q.map (·.k)) (i : Nat) : (p.getD i v0).k = (q.getD i v0).k := by
  have h1 : (p.map (·.k))[i]? = (q.map (·.k))[i]? := by rw [h]
  rw [List.getElem?_map, List.getElem?_map] at h1
  rw [List.getD_eq_getElem?_getD, List.getD_eq_getElem?_getD]
  cases hp : p[i]? <;> cases hq : q[i]? <;> rw [hp, hq] at h1 <;> simp_all

theorem map_len {p q : List V} (h : p.map (·.k) = q.map (·.k)) : p.length = q.length := by
  have h1 := congrArg List.length h
  rwa [List.length_map, List.length_map] at h1

/-- One part, of kinds and of values. -/
theorem step_kinds {ws vs : List V} (hv : ws.map (·.k) = vs.map (·.k)) (o : O) {p q : List V} (hp : p.map (·.k) = q.map (·.k)) :
    step vs false o q = .error 6 ∨ (∃ e, step ws true o p = .error e ∧ step vs false o q = .error e) ∨ ∃ p' q', step ws true o p = .ok p' ∧ step vs false o q = .ok q' ∧ p'.map (·.k) = q'.map (·.k) := by
  have hl := map_len hp
  have hvl := map_len hv
  unfold step
  rw [hl]
  by_cases h0 : o.c = 0
  · rw [if_pos h0, if_pos h0]
    exact Or.inr (Or.inr ⟨_, _, rfl, rfl, by rw [List.map_append, List.map_append, hp]⟩)
  · rw [if_neg h0, if_neg h0]
    by_cases h1 : o.c = 1
    · rw [if_pos h1, if_pos h1, hvl]
      by_cases h2 : o.a.toNat < vs.length
      · rw [if_pos h2, if_pos h2]
        refine Or.inr (Or.inr ⟨_, _, rfl, rfl, ?_⟩)
        rw [List.map_append, List.map_append, hp]
        simp only [List.map_cons, List.map_nil, map_getD hv]
      · rw [if_neg h2, if_neg h2]
        exact Or.inr (Or.inl ⟨3, rfl, rfl⟩)
    · rw [if_neg h1, if_neg h1]
      by_cases h9 : o.c = 9
      · rw [if_pos h9, if_pos h9]
        by_cases g1 : q.length < 1
        · rw [if_pos g1, if_pos g1]
          exact Or.inr (Or.inl ⟨2, rfl, rfl⟩)
        · rw [if_neg g1, if_neg g1, map_getD hp]
          by_cases g2 : (q.getD (q.length - 1) v0).k ≠ 1
          · rw [if_pos g2, if_pos g2]
            exact Or.inr (Or.inl ⟨5, rfl, rfl⟩)
          · rw [if_neg g2, if_neg g2]
            refine Or.inr (Or.inr ⟨_, _, rfl, rfl, ?_⟩)
            rw [List.map_append, List.map_append, List.map_take, List.map_take, hp]
            rfl
      · rw [if_neg h9, if_neg h9]
        by_cases g1 : q.length < 2
        · rw [if_pos g1, if_pos g1]
          exact Or.inr (Or.inl ⟨2, rfl, rfl⟩)
        · rw [if_neg g1, if_neg g1]
          simp only
          have hk := two_kind o.c (map_getD hp (q.length - 2)) (map_getD hp (q.length - 1))
          have htk : ∀ x y : V, x.k = y.k → (p.take (q.length - 2) ++ [x]).map (·.k) = (q.take (q.length - 2) ++ [y]).map (·.k) := fun x y h => by
            rw [List.map_append, List.map_append, List.map_take, List.map_take, hp]
            simp only [List.map_cons, List.map_nil, h]
          generalize two o.c (p.getD (q.length - 2) v0) (p.getD (q.length - 1) v0) = r at hk ⊢
          generalize two o.c (q.getD (q.length - 2) v0) (q.getD (q.length - 1) v0) = t at hk ⊢
          by_cases g6 : t.2 = 6
          · rw [if_neg (fun h => by rcases h with h | h; omega; exact absurd h.1 (by decide)) (c := t.2 = 0 ∨ (false = true ∧ t.2 = 6)), g6]
            exact Or.inl rfl
          · right
            rcases hk with ⟨k1, k2⟩ | ⟨k1, k2, k3⟩ | ⟨k1, k2⟩
            · by_cases g0 : t.2 = 0
              · rw [if_pos (Or.inl (by omega)), if_pos (Or.inl g0)]
                exact Or.inr ⟨_, _, rfl, rfl, htk _ _ k2⟩
              · rw [if_neg (fun h => by rcases h with h | ⟨_, h⟩ <;> omega), if_neg (fun h => by rcases h with h | ⟨_, h⟩ <;> omega), k1]
                exact Or.inl ⟨_, rfl, rfl⟩
            · rw [if_pos (Or.inr ⟨by trivial, k1⟩), if_pos (Or.inl k2)]
              exact Or.inr ⟨_, _, rfl, rfl, htk _ _ k3⟩
            · exact absurd k2 g6

theorem run_kinds {ws vs : List V} (hv : ws.map (·.k) = vs.map (·.k)) : ∀ (l : List O) {p q : List V}, p.map (·.k) = q.map (·.k) →
    run vs false l q = .error 6 ∨ (∃ e, run ws true l p = .error e ∧ run vs false l q = .error e) ∨ ∃ p' q', run ws true l p = .ok p' ∧ run vs false l q = .ok q' ∧ p'.map (·.k) = q'.map (·.k)
  | [], p, q, h => Or.inr (Or.inr ⟨p, q, rfl, rfl, h⟩)
  | o :: l, p, q, h => by
    simp only [run]
    rcases step_kinds hv o h with h1 | ⟨e, h1, h2⟩ | ⟨p', q', h1, h2, h3⟩
    · rw [h1]
      exact Or.inl rfl
    · rw [h1, h2]
      exact Or.inr (Or.inl ⟨e, rfl, rfl⟩)
    · rw [h1, h2]
      exact run_kinds hv l h3

/-- What comes of kinds, and of values: the same error, or the same kind; or a number is too great. -/
theorem through_kinds {ws vs : List V} (hv : ws.map (·.k) = vs.map (·.k)) (l : List O) :
    through vs l false = (v0, 6) ∨ ((through ws l true).2 = (through vs l false).2 ∧ (through ws l true).1.k = (through vs l false).1.k) := by
  unfold through
  rcases run_kinds hv l (rfl : ([] : List V).map (·.k) = ([] : List V).map (·.k)) with h1 | ⟨e, h1, h2⟩ | ⟨p', q', h1, h2, h3⟩
  · rw [h1]
    exact Or.inl rfl
  · rw [h1, h2]
    exact Or.inr ⟨rfl, rfl⟩
  · rw [h1, h2]
    simp only [fin, map_len h3]
    right
    by_cases g : q'.length = 1
    · rw [if_pos g, if_pos g]
      exact ⟨rfl, map_getD h3 0⟩
    · rw [if_neg g, if_neg g]
      exact ⟨rfl, rfl⟩

/-- An error's value is none. -/
theorem through_err {vs : List V} {l : List O} {b : Bool} (h : (through vs l b).2 ≠ 0) : (through vs l b).1 = v0 := by
  unfold through fin at h ⊢
  split at h
  · rfl
  · split at h
    · exact absurd rfl h
    · rename_i hn
      rw [if_neg hn]
end Go.Proofs.Ytochpomddfjkoaa.ExM
