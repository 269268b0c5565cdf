/- The reader of package event by plain lists: part by part, and whether one was not there; no program, nothing is asked. -/
import Derived.Test.YtbakhodijhacoaaSchemaRd
import Derived.Test.YtbakhodijhacoaaEventMath
namespace Go.Proofs.Ytbakhodijhacoaa.EvM
open Go.RowKit Go.Proofs.Ytbakhodijhacoaa.LeM Go.Proofs.Ytbakhodijhacoaa.VaM Go.Proofs.Ytbakhodijhacoaa.BM
open Go.Proofs.Ytbakhodijhacoaa.ScM (Rs rNum rName rNum_short rName_short rName_iff rNum_iff rNum_le rName_left rNum_left rName_size gN bytes_drop)

def rVal (r : Rs) : V × Rs := ((gotP (getP r.1)).1, (r.1.drop (gotP (getP r.1)).2.1, r.2 || !(gotP (getP r.1)).2.2))
def rVals : Nat → Rs → List V × Rs
  | 0, r => ([], r)
  | n + 1, r => ((rVals n r).1 ++ [(rVal (rVals n r).2).1], (rVal (rVals n r).2).2)
def rAll (xs : List Int) : Ev × Rs :=
  (⟨(rName (xs, false)).1, (rNum 1125899906842624 (rName (xs, false)).2).1, (rVals (rNum 6 (rNum 1125899906842624 (rName (xs, false)).2).2).1 (rNum 6 (rNum 1125899906842624 (rName (xs, false)).2).2).2).1⟩,
    (rVals (rNum 6 (rNum 1125899906842624 (rName (xs, false)).2).2).1 (rNum 6 (rNum 1125899906842624 (rName (xs, false)).2).2).2).2)

theorem rVal_short {r : Rs} (h : r.2 = true) : (rVal r).2.2 = true := by
  unfold rVal
  simp [h]
theorem rVals_short : ∀ {n : Nat} {r : Rs} (_ : r.2 = true), (rVals n r).2.2 = true
  | 0, _, h => h
  | _ + 1, _, h => rVal_short (rVals_short h)

theorem rVal_iff (xs : List Int) : match getP xs with
    | some (x, m) => rVal (xs, false) = (x, (xs.drop m, false))
    | none => (rVal (xs, false)).2.2 = true := by
  unfold rVal
  cases hg : getP xs with
  | none => simp [gotP]
  | some p => simp [gotP]

theorem rVals_cons : ∀ (n : Nat) (r : Rs), rVals (n + 1) r = ((rVal r).1 :: (rVals n (rVal r).2).1, (rVals n (rVal r).2).2)
  | 0, r => rfl
  | n + 1, r => by
    have h := rVals_cons n r
    show ((rVals (n + 1) r).1 ++ [(rVal (rVals (n + 1) r).2).1], (rVal (rVals (n + 1) r).2).2) = _
    rw [h]
    rfl

theorem rVals_iff : ∀ (n : Nat) (xs : List Int), match gVs n xs with
    | some (l, m) => rVals n (xs, false) = (l, (xs.drop m, false))
    | none => (rVals n (xs, false)).2.2 = true
  | 0, xs => rfl
  | n + 1, xs => by
    have h := rVal_iff xs
    rw [rVals_cons]
    simp only [gVs]
    cases hg : getP xs with
    | none =>
      rw [hg] at h
      exact rVals_short h
    | some p =>
      obtain ⟨x, m⟩ := p
      rw [hg] at h
      simp only at h ⊢
      rw [h]
      have h2 := rVals_iff n (xs.drop m)
      cases hr : gVs n (xs.drop m) with
      | none =>
        rw [hr] at h2
        exact h2
      | some q =>
        obtain ⟨l, k⟩ := q
        rw [hr] at h2
        simp only at h2 ⊢
        rw [h2, List.drop_drop]

theorem rAll_iff (xs : List Int) : match gA xs with
    | some (s, m) => rAll xs = (s, (xs.drop m, false))
    | none => (rAll xs).2.2 = true := by
  have h1 := rName_iff xs
  unfold gA rAll
  cases e1 : gN xs with
  | none =>
    rw [e1] at h1
    exact rVals_short (rNum_short (rNum_short h1))
  | some p =>
    obtain ⟨t, a⟩ := p
    rw [e1] at h1
    simp only at h1 ⊢
    rw [h1]
    have h2 := rNum_iff 1125899906842624 (xs.drop a)
    cases e2 : getS (xs.drop a) with
    | none =>
      rw [e2] at h2
      exact rVals_short (rNum_short h2)
    | some p =>
      obtain ⟨v, u⟩ := p
      rw [e2] at h2
      simp only at h2 ⊢
      by_cases hv : v ≤ 1125899906842624
      · rw [if_pos hv] at h2 ⊢
        rw [h2, List.drop_drop]
        have h3 := rNum_iff 6 (xs.drop (a + u))
        cases e3 : getS (xs.drop (a + u)) with
        | none =>
          rw [e3] at h3
          exact rVals_short h3
        | some p =>
          obtain ⟨n, m⟩ := p
          rw [e3] at h3
          simp only at h3 ⊢
          by_cases hn : n ≤ 6
          · rw [if_pos hn] at h3 ⊢
            rw [h3, List.drop_drop]
            have h4 := rVals_iff n (xs.drop (a + u + m))
            cases e4 : gVs n (xs.drop (a + u + m)) with
            | none =>
              rw [e4] at h4
              exact h4
            | some p =>
              obtain ⟨l, k⟩ := p
              rw [e4] at h4
              simp only at h4 ⊢
              rw [h4, List.drop_drop]
          · rw [if_neg hn] at h3 ⊢
            exact rVals_short h3
      · rw [if_neg hv] at h2 ⊢
        exact rVals_short (rNum_short h2)

/-- What Get answers, by the reader. -/
theorem gE_read {xs : List Int} (hb : ∀ x ∈ xs, (0 : Int) ≤ x ∧ x < 256) :
    gotE (gE xs) = if (rAll xs).2.2 = false ∧ May (rAll xs).1 then ((rAll xs).1, xs.length - (rAll xs).2.1.length, true) else (⟨e0, 0, []⟩, 0, false) := by
  have h := rAll_iff xs
  cases hg : gE xs with
  | none =>
    rw [if_neg]
    · rfl
    · rintro ⟨h1, h2⟩
      unfold gE at hg
      cases ha : gA xs with
      | none =>
        rw [ha] at h
        simp only at h
        rw [h1] at h
        cases h
      | some p =>
        obtain ⟨s, m⟩ := p
        rw [ha] at h hg
        simp only at h hg
        rw [h] at h2
        rw [if_pos h2] at hg
        cases hg
  | some p =>
    obtain ⟨s, m⟩ := p
    obtain ⟨k1, k1', k2, k3⟩ := gE_some hb hg
    unfold gE at hg
    cases ha : gA xs with
    | none =>
      rw [ha] at hg
      cases hg
    | some q =>
      obtain ⟨s', m'⟩ := q
      rw [ha] at h hg
      simp only at h hg
      by_cases hm : May s'
      · rw [if_pos hm] at hg
        simp only [Option.some.injEq, Prod.mk.injEq] at hg
        obtain ⟨rfl, rfl⟩ := hg
        rw [h, if_pos ⟨rfl, hm⟩]
        simp only [gotE, List.length_drop]
        congr 2
        omega
      · rw [if_neg hm] at hg
        cases hg

/-- What a reader's value is: no long string, and a number. -/
def Sm (x : V) : Prop := x.s.size ≤ maxLen ∧ Rng x

theorem sm_v0 : Sm v0 := ⟨by unfold maxLen; decide, by decide, by decide⟩

theorem gotP_sm {xs : List Int} (hb : ∀ x ∈ xs, (0 : Int) ≤ x ∧ x < 256) : Sm (gotP (getP xs)).1 ∧ (gotP (getP xs)).2.1 ≤ xs.length := by
  cases hg : getP xs with
  | none => exact ⟨sm_v0, Nat.zero_le _⟩
  | some p =>
    obtain ⟨v, m⟩ := p
    obtain ⟨h1, h2, h3, _⟩ := getP_some hb hg
    refine ⟨⟨?_, h1⟩, h3⟩
    have := may_size h2
    unfold maxLen
    simp only [gotP]
    omega

theorem rNum_bytes {m : Nat} {r : Rs} (hb : ∀ x ∈ r.1, (0 : Int) ≤ x ∧ x < 256) : ∀ x ∈ (rNum m r).2.1, (0 : Int) ≤ x ∧ x < 256 := by
  unfold rNum
  split
  · split
    · exact bytes_drop hb _
    · exact hb
  · exact hb

theorem rVals_good : ∀ (n : Nat) {r : Rs} (_ : ∀ x ∈ r.1, (0 : Int) ≤ x ∧ x < 256), (rVals n r).1.length = n ∧ (∀ x ∈ (rVals n r).1, Sm x) ∧ (∀ x ∈ (rVals n r).2.1, (0 : Int) ≤ x ∧ x < 256) ∧ (rVals n r).2.1.length ≤ r.1.length
  | 0, _, hb => ⟨rfl, (fun f hf => by cases hf), hb, Nat.le_refl _⟩
  | n + 1, r, hb => by
    obtain ⟨h1, h2, h3, h4⟩ := rVals_good n hb
    have h5 := gotP_sm h3
    refine ⟨by show ((rVals n r).1 ++ [_]).length = n + 1; rw [List.length_append, h1]; rfl, fun f hf => ?_, bytes_drop h3 _, ?_⟩
    · rcases List.mem_append.1 hf with h | h
      · exact h2 f h
      · obtain rfl := List.mem_singleton.1 h
        exact h5.1
    · show (List.drop _ (rVals n r).2.1).length ≤ _
      rw [List.length_drop]
      omega

theorem rVals_left : ∀ (n : Nat) (r : Rs), (rVals n r).2.1.length ≤ r.1.length
  | 0, _ => Nat.le_refl _
  | n + 1, r => by
    have h := rVals_left n r
    show (List.drop _ (rVals n r).2.1).length ≤ _
    rw [List.length_drop]
    omega
theorem rAll_left (xs : List Int) : (rAll xs).2.1.length ≤ xs.length :=
  Nat.le_trans (rVals_left _ _) (Nat.le_trans (rNum_left _ _) (Nat.le_trans (rNum_left _ _) (rName_left (xs, false))))
end Go.Proofs.Ytbakhodijhacoaa.EvM
