/- What an expression comes to where a number that is too great may go round; no program, nothing is asked. -/
import Derived.Test.YtochpomddfjkoaaExprInts
import Derived.Test.YtochpomddfjkoaaExprMath
namespace Go.Proofs.Ytochpomddfjkoaa.ExM
open Go.RowKit Go.Proofs.Ytochpomddfjkoaa.BM Go.Proofs.Ytochpomddfjkoaa.VaM Go.Proofs.Ytochpomddfjkoaa.EvM

/-- What comes of two, gone round or not. -/
def twoW (wr : Bool) (c : Int) (a b : V) : V × Int := if wr = true ∧ (two c a b).2 = 6 then (⟨0, wrap64 (arith c a.n b.n), e0⟩, 0) else two c a b

theorem twoW_no (c : Int) (a b : V) : twoW false c a b = two c a b := by
  unfold twoW
  rw [if_neg (fun h => by cases h.1)]

theorem twoW_ok {wr : Bool} {c : Int} {a b : V} (h : (two c a b).2 ≠ 6) : twoW wr c a b = two c a b := by
  unfold twoW
  rw [if_neg (fun k => h k.2)]

theorem twoW_may (wr : Bool) (c : Int) (a b : V) : VaM.May (twoW wr c a b).1 := by
  unfold twoW
  split
  · exact Or.inr ⟨rfl, Or.inl rfl⟩
  · exact two_may c a b

theorem two_rngV (c : Int) {a b : V} : Rng (two c a b).1 := by
  have h0 : Rng v0 := ⟨by decide, by decide⟩
  have ht : ∀ x : Bool, Rng (truth x) := fun x => by cases x <;> exact ⟨by decide, by decide⟩
  unfold two
  split
  · exact h0
  · split
    · exact ht _
    · split
      · split
        · exact h0
        · exact ht _
      · split
        · split
          · exact h0
          · exact ht _
        · split
          · exact h0
          · split
            · rename_i h
              exact Ex.fits_iff.1 h
            · exact h0

theorem twoW_rng (wr : Bool) (c : Int) (a b : V) : Rng (twoW wr c a b).1 := by
  unfold twoW
  split
  · exact (Ex.wrap_spec _).2
  · exact two_rngV c

theorem two_v0 {c : Int} {a b : V} (h : (two c a b).2 ≠ 0) : (two c a b).1 = v0 := by
  unfold two at h ⊢
  split
  · rfl
  · rename_i h1
    rw [if_neg h1] at h
    split
    · rename_i h2
      rw [if_pos h2] at h
      exact absurd rfl h
    · rename_i h2
      rw [if_neg h2] at h
      split
      · rename_i h3
        rw [if_pos h3] at h
        split
        · rfl
        · rename_i h4
          rw [if_neg h4] at h
          exact absurd rfl h
      · rename_i h3
        rw [if_neg h3] at h
        split
        · rename_i h4
          rw [if_pos h4] at h
          split
          · rfl
          · rename_i h5
            rw [if_neg h5] at h
            exact absurd rfl h
        · rename_i h4
          rw [if_neg h4] at h
          split
          · rfl
          · rename_i h5
            rw [if_neg h5] at h
            split
            · rename_i h6
              rw [if_pos h6] at h
              exact absurd rfl h
            · rfl

theorem two_6k {c : Int} {x y : V} (h : (two c x y).2 = 6) : x.k = 0 ∧ x.k = y.k ∧ c ≠ 5 ∧ c ≠ 6 ∧ c ≠ 7 ∧ c ≠ 8 := by
  unfold two at h
  split at h
  · cases h
  · rename_i h1
    split at h
    · cases h
    · rename_i h2
      split at h
      · split at h <;> cases h
      · rename_i h3
        split at h
        · split at h <;> cases h
        · rename_i h4
          split at h
          · cases h
          · rename_i h5
            exact ⟨by omega, by omega, h3, h2, by omega, by omega⟩

theorem two_k0 {c : Int} {a b : V} (h0 : a.k = 0) (h1 : a.k = b.k) (h5 : c ≠ 5) (h6 : c ≠ 6) (h7 : c ≠ 7) (h8 : c ≠ 8) : (two c a b).1.k = 0 := by
  rw [two, if_neg (fun k => k h1), if_neg h6, if_neg h5, if_neg (by omega), if_neg (fun k => k h0)]
  split <;> rfl

/-- What a part leaves of the pile, what it lays on it, and why it does not. -/
def goes (vs : List V) (wr : Bool) (o : O) (p : List V) : List V × V × Int :=
  if o.c = 0 then (p, o.v, 0)
  else if o.c = 1 then if o.a.toNat < vs.length then (p, vs.getD o.a.toNat v0, 0) else (p, v0, 3)
  else if o.c = 9 then
    if p.length < 1 then (p, v0, 2) else if (p.getD (p.length - 1) v0).k ≠ 1 then (p.take (p.length - 1), v0, 5) else (p.take (p.length - 1), truth (decide ((p.getD (p.length - 1) v0).n = 0)), 0)
  else if p.length < 2 then (p, v0, 2)
  else (p.take (p.length - 2), twoW wr o.c (p.getD (p.length - 2) v0) (p.getD (p.length - 1) v0))

/-- Part by part. -/
def runW (vs : List V) (wr : Bool) : List O → List V → V × Int
  | [], p => if p.length = 1 then (p.getD 0 v0, 0) else (v0, 2)
  | o :: l, p => if (goes vs wr o p).2.2 = 0 then runW vs wr l ((goes vs wr o p).1 ++ [(goes vs wr o p).2.1]) else (v0, (goes vs wr o p).2.2)

theorem runW_drop (vs : List V) (wr : Bool) (l : List O) (j : Nat) (p : List V) (hj : j < l.length) : runW vs wr (l.drop j) p = if (goes vs wr (l.getD j o0) p).2.2 = 0 then runW vs wr (l.drop (j + 1)) ((goes vs wr (l.getD j o0) p).1 ++ [(goes vs wr (l.getD j o0) p).2.1]) else (v0, (goes vs wr (l.getD j o0) p).2.2) := by
  rw [List.drop_eq_getElem_cons hj, runW, List.getD_eq_getElem?_getD, List.getElem?_eq_getElem hj]
  rfl

/-- What a part lays may be. -/
theorem goes_may {vs : List V} {wr : Bool} {o : O} {p : List V} (hv : ∀ x ∈ vs, VaM.May x ∧ Rng x) (ho : VaM.May o.v ∧ Rng o.v) : VaM.May (goes vs wr o p).2.1 ∧ Rng (goes vs wr o p).2.1 := by
  have h0 : VaM.May v0 ∧ Rng v0 := ⟨by decide, by decide, by decide⟩
  have ht : ∀ x : Bool, Rng (truth x) := fun x => by cases x <;> exact ⟨by decide, by decide⟩
  unfold goes
  split
  · exact ho
  · split
    · split
      · rename_i h
        exact hv _ (EvM.getD_mem h)
      · exact h0
    · split
      · split
        · exact h0
        · split
          · exact h0
          · exact ⟨truth_may _, ht _⟩
      · split
        · exact h0
        · exact ⟨twoW_may _ _ _ _, twoW_rng _ _ _ _⟩

/-- What it leaves was there. -/
theorem goes_mem {vs : List V} {wr : Bool} {o : O} {p : List V} : ∀ x ∈ (goes vs wr o p).1, x ∈ p := by
  intro x
  unfold goes
  split
  · exact id
  · split
    · split <;> exact id
    · split
      · split
        · exact id
        · split <;> exact List.mem_of_mem_take
      · split
        · exact id
        · exact List.mem_of_mem_take

theorem goes_len {vs : List V} {wr : Bool} {o : O} {p : List V} : (goes vs wr o p).1.length ≤ p.length := by
  have ht : ∀ k, (p.take k).length ≤ p.length := fun k => by rw [List.length_take]; omega
  unfold goes
  split
  · exact Nat.le_refl _
  · split
    · split <;> exact Nat.le_refl _
    · split
      · split
        · exact Nat.le_refl _
        · split <;> exact ht _
      · split
        · exact Nat.le_refl _
        · exact ht _

/-- Without going round. -/
theorem goes_step {vs : List V} {o : O} {p : List V} : step vs false o p = if (goes vs false o p).2.2 = 0 then .ok ((goes vs false o p).1 ++ [(goes vs false o p).2.1]) else .error (goes vs false o p).2.2 := by
  unfold step goes
  by_cases h0 : o.c = 0
  · rw [if_pos h0, if_pos h0, if_pos rfl]
  · rw [if_neg h0, if_neg h0]
    by_cases h1 : o.c = 1
    · rw [if_pos h1, if_pos h1]
      by_cases h2 : o.a.toNat < vs.length
      · rw [if_pos h2, if_pos h2, if_pos rfl]
      · rw [if_neg h2, if_neg h2, if_neg (show ¬ (3 : Int) = 0 by decide)]
    · rw [if_neg h1, if_neg h1]
      by_cases h9 : o.c = 9
      · rw [if_pos h9, if_pos h9]
        by_cases g1 : p.length < 1
        · rw [if_pos g1, if_pos g1, if_neg (show ¬ (2 : Int) = 0 by decide)]
        · rw [if_neg g1, if_neg g1]
          by_cases g2 : (p.getD (p.length - 1) v0).k ≠ 1
          · rw [if_pos g2, if_pos g2, if_neg (show ¬ (5 : Int) = 0 by decide)]
          · rw [if_neg g2, if_neg g2, if_pos rfl]
      · rw [if_neg h9, if_neg h9]
        by_cases g1 : p.length < 2
        · rw [if_pos g1, if_pos g1, if_neg (show ¬ (2 : Int) = 0 by decide)]
        · rw [if_neg g1, if_neg g1]
          simp only [twoW_no]
          generalize two o.c (p.getD (p.length - 2) v0) (p.getD (p.length - 1) v0) = r
          by_cases g : r.2 = 0
          · rw [if_pos (Or.inl g), if_pos g]
          · rw [if_neg (fun h => by rcases h with h | h; exact g h; cases h.1), if_neg g]

theorem runW_is (vs : List V) : ∀ (l : List O) (p : List V), runW vs false l p = fin (run vs false l p)
  | [], p => rfl
  | o :: l, p => by
    rw [runW, run, goes_step]
    by_cases h : (goes vs false o p).2.2 = 0
    · rw [if_pos h, if_pos h]
      exact runW_is vs l _
    · rw [if_neg h, if_neg h]
      rfl

/-- Gone round, the kinds are the same. -/
theorem goes_kind {vs : List V} (o : O) {p q : List V} (hp : p.map (·.k) = q.map (·.k)) :
    (∃ e, e ≠ 0 ∧ (goes vs true o p).2.2 = e ∧ step vs true o q = .error e) ∨ ∃ q', (goes vs true o p).2.2 = 0 ∧ step vs true o q = .ok q' ∧ ((goes vs true o p).1 ++ [(goes vs true o p).2.1]).map (·.k) = q'.map (·.k) := by
  have hl := map_len hp
  have happ : ∀ x : V, (p ++ [x]).map (·.k) = (q ++ [x]).map (·.k) := fun x => by rw [List.map_append, List.map_append, hp]
  unfold step goes
  rw [hl]
  by_cases h0 : o.c = 0
  · rw [if_pos h0, if_pos h0]
    exact Or.inr ⟨_, rfl, rfl, happ _⟩
  · rw [if_neg h0, if_neg h0]
    by_cases h1 : o.c = 1
    · rw [if_pos h1, if_pos h1]
      by_cases h2 : o.a.toNat < vs.length
      · rw [if_pos h2, if_pos h2]
        exact Or.inr ⟨_, rfl, rfl, happ _⟩
      · rw [if_neg h2, if_neg h2]
        exact Or.inl ⟨3, by decide, rfl, rfl⟩
    · rw [if_neg h1, if_neg h1]
      by_cases h9 : o.c = 9
      · rw [if_pos h9, if_pos h9]
        by_cases g1 : q.length < 1
        · rw [if_pos g1, if_pos g1]
          exact Or.inl ⟨2, by decide, rfl, rfl⟩
        · rw [if_neg g1, if_neg g1, map_getD hp]
          by_cases g2 : (q.getD (q.length - 1) v0).k ≠ 1
          · rw [if_pos g2, if_pos g2]
            exact Or.inl ⟨5, by decide, rfl, rfl⟩
          · rw [if_neg g2, if_neg g2]
            refine Or.inr ⟨_, rfl, rfl, ?_⟩
            rw [List.map_append, List.map_append, List.map_take, List.map_take, hp]
            rfl
      · rw [if_neg h9, if_neg h9]
        by_cases g1 : q.length < 2
        · rw [if_pos g1, if_pos g1]
          exact Or.inl ⟨2, by decide, rfl, rfl⟩
        · rw [if_neg g1, if_neg g1]
          simp only
          have hk := two_kind o.c (map_getD hp (q.length - 2)) (map_getD hp (q.length - 1))
          have htk : ∀ x y : V, x.k = y.k → (p.take (q.length - 2) ++ [x]).map (·.k) = (q.take (q.length - 2) ++ [y]).map (·.k) := fun x y h => by
            rw [List.map_append, List.map_append, List.map_take, List.map_take, hp]
            simp only [List.map_cons, List.map_nil, h]
          have hw : ∀ x y : V, ((two o.c x y).2 = 6 → (twoW true o.c x y).2 = 0 ∧ (twoW true o.c x y).1.k = (two o.c x y).1.k) ∧ ((two o.c x y).2 ≠ 6 → twoW true o.c x y = two o.c x y) := fun x y => ⟨fun h => by
            unfold twoW
            rw [if_pos ⟨rfl, h⟩]
            refine ⟨rfl, ?_⟩
            rw [two_v0 (by rw [h]; decide)]
            rfl, fun h => twoW_ok h⟩
          have hw1 := hw (p.getD (q.length - 2) v0) (p.getD (q.length - 1) v0)
          have he := @two_v0 o.c (q.getD (q.length - 2) v0) (q.getD (q.length - 1) v0)
          have hz : (two o.c (q.getD (q.length - 2) v0) (q.getD (q.length - 1) v0)).2 = 6 → (two o.c (p.getD (q.length - 2) v0) (p.getD (q.length - 1) v0)).1.k = v0.k := fun h => by
            obtain ⟨g1, g2, g3, g4, g5, g6⟩ := two_6k h
            have e1 := map_getD hp (q.length - 2)
            have e2 := map_getD hp (q.length - 1)
            exact two_k0 (by omega) (by omega) g3 g4 g5 g6
          generalize twoW true o.c (p.getD (q.length - 2) v0) (p.getD (q.length - 1) v0) = s at hw1 ⊢
          generalize two o.c (p.getD (q.length - 2) v0) (p.getD (q.length - 1) v0) = r at hk hw1 hz
          generalize two o.c (q.getD (q.length - 2) v0) (q.getD (q.length - 1) v0) = t at hk he hz ⊢
          rcases hk with ⟨k1, k2⟩ | ⟨k1, k2, k3⟩ | ⟨k1, k2⟩
          · by_cases g6 : t.2 = 6
            · obtain ⟨s1, s2⟩ := hw1.1 (by omega)
              rw [if_pos (Or.inr ⟨trivial, g6⟩)]
              exact Or.inr ⟨_, s1, rfl, htk _ _ (by omega)⟩
            · have hs := hw1.2 (by omega)
              by_cases g0 : t.2 = 0
              · rw [if_pos (Or.inl g0)]
                exact Or.inr ⟨_, by rw [hs]; omega, rfl, htk _ _ (by rw [hs]; exact k2)⟩
              · rw [if_neg (fun h => by rcases h with h | ⟨_, h⟩ <;> omega)]
                exact Or.inl ⟨_, g0, by rw [hs]; omega, rfl⟩
          · obtain ⟨s1, s2⟩ := hw1.1 k1
            rw [if_pos (Or.inl k2)]
            exact Or.inr ⟨_, s1, rfl, htk _ _ (by omega)⟩
          · have hs := hw1.2 (by omega)
            rw [if_pos (Or.inr ⟨trivial, k2⟩)]
            exact Or.inr ⟨_, by rw [hs]; omega, rfl, htk _ _ (by
              rw [hs, he (by omega)]
              exact hz k2)⟩

theorem runW_kind (vs : List V) : ∀ (l : List O) (p q : List V), p.map (·.k) = q.map (·.k) → (runW vs true l p).2 = (fin (run vs true l q)).2 ∧ (runW vs true l p).1.k = (fin (run vs true l q)).1.k
  | [], p, q, h => by
    simp only [runW, run, fin, map_len h]
    by_cases g : q.length = 1
    · rw [if_pos g, if_pos g]
      exact ⟨rfl, map_getD h 0⟩
    · rw [if_neg g, if_neg g]
      exact ⟨rfl, rfl⟩
  | o :: l, p, q, h => by
    rw [runW, run]
    rcases goes_kind (vs := vs) o h with ⟨e, he, h1, h2⟩ | ⟨q', h1, h2, h3⟩
    · rw [if_neg (by omega), h2, h1]
      exact ⟨rfl, rfl⟩
    · rw [if_pos h1, h2]
      exact runW_kind vs l _ _ h3

theorem through_is (vs : List V) (l : List O) : runW vs false l [] = through vs l false := runW_is vs l []
theorem through_kind (vs : List V) (l : List O) : (runW vs true l []).2 = (through vs l true).2 ∧ (runW vs true l []).1.k = (through vs l true).1.k := runW_kind vs l [] [] rfl

/-- An error's value is none. -/
theorem runW_err (vs : List V) (wr : Bool) : ∀ (l : List O) (p : List V), (runW vs wr l p).2 ≠ 0 → (runW vs wr l p).1 = v0
  | [], p, h => by
    rw [runW] at h ⊢
    split
    · rename_i g
      rw [if_pos g] at h
      exact absurd rfl h
    · rfl
  | o :: l, p, h => by
    rw [runW] at h ⊢
    split
    · rename_i g
      rw [if_pos g] at h
      exact runW_err vs wr l _ h
    · rfl
end Go.Proofs.Ytochpomddfjkoaa.ExM
