/- The reader of package schema by plain lists: part by part, and whether one was not there; no program, nothing is asked. -/
import Derived.Test.YtbmdkibmfkmjoaaGreatSchemaMath
namespace Go.Proofs.YtbmdkibmfkmjoaaGreat.ScM
open Go.RowKit Go.Proofs.YtbmdkibmfkmjoaaGreat.LeM Go.Proofs.YtbmdkibmfkmjoaaGreat.VaM Go.Proofs.YtbmdkibmfkmjoaaGreat.BM

/-- What is left, and whether it is short. -/
abbrev Rs := List Int × Bool

def rTake (n : Nat) (r : Rs) : List Int × Rs := if r.1.length < n then ([], (r.1, true)) else (r.1.take n, (r.1.drop n, r.2))
def rNum (most : Nat) (r : Rs) : Nat × Rs :=
  match getS r.1 with
  | some (n, u) => if n ≤ most then (n, (r.1.drop u, r.2)) else (0, (r.1, true))
  | none => (0, (r.1, true))
def rName (r : Rs) : ByteArray × Rs := (strOfNums (rTake (rNum 12 r).1 (rNum 12 r).2).1, (rTake (rNum 12 r).1 (rNum 12 r).2).2)
def rKind (r : Rs) : Int × Rs := (if (rTake 1 r).2.2 = true then 0 else (rTake 1 r).1.getD 0 0, (rTake 1 r).2)
def rField (r : Rs) : F × Rs := (⟨(rName r).1, (rKind (rName r).2).1⟩, (rKind (rName r).2).2)
def rFields : Nat → Rs → List F × Rs
  | 0, r => ([], r)
  | n + 1, r => ((rFields n r).1 ++ [(rField (rFields n r).2).1], (rField (rFields n r).2).2)
def rAll (xs : List Int) : Sc × Rs :=
  (⟨(rName (xs, false)).1, (rNum 1000 (rName (xs, false)).2).1, (rFields (rNum 6 (rNum 1000 (rName (xs, false)).2).2).1 (rNum 6 (rNum 1000 (rName (xs, false)).2).2).2).1⟩,
    (rFields (rNum 6 (rNum 1000 (rName (xs, false)).2).2).1 (rNum 6 (rNum 1000 (rName (xs, false)).2).2).2).2)

theorem rTake_short {n : Nat} {r : Rs} (h : r.2 = true) : (rTake n r).2.2 = true := by unfold rTake; split <;> first | rfl | exact h
theorem rNum_short {m : Nat} {r : Rs} (h : r.2 = true) : (rNum m r).2.2 = true := by
  unfold rNum
  split
  · split <;> first | rfl | exact h
  · rfl
theorem rName_short {r : Rs} (h : r.2 = true) : (rName r).2.2 = true := rTake_short (rNum_short h)
theorem rKind_short {r : Rs} (h : r.2 = true) : (rKind r).2.2 = true := rTake_short h
theorem rField_short {r : Rs} (h : r.2 = true) : (rField r).2.2 = true := rKind_short (rName_short h)
theorem rFields_short : ∀ {n : Nat} {r : Rs} (_ : r.2 = true), (rFields n r).2.2 = true
  | 0, _, h => h
  | _ + 1, _, h => rField_short (rFields_short h)

theorem rNum_le (m : Nat) (r : Rs) : (rNum m r).1 ≤ m := by
  unfold rNum
  split
  · split <;> simp [*]
  · exact Nat.zero_le _

theorem rName_iff (xs : List Int) : match gN xs with
    | some (t, m) => rName (xs, false) = (t, (xs.drop m, false))
    | none => (rName (xs, false)).2.2 = true := by
  unfold gN rName rNum
  cases hg : getS xs with
  | none => exact rTake_short rfl
  | some p =>
    obtain ⟨n, u⟩ := p
    simp only
    by_cases h12 : n ≤ 12
    · rw [if_pos h12]
      unfold rTake
      simp only [List.length_drop]
      by_cases hn : n ≤ xs.length - u
      · rw [if_pos ⟨h12, hn⟩]
        rw [if_neg (show ¬ xs.length - u < n from by omega)]
        simp only [List.drop_drop]
      · rw [if_neg (show ¬ (n ≤ 12 ∧ n ≤ xs.length - u) from fun h => hn h.2)]
        rw [if_pos (show xs.length - u < n from by omega)]
    · rw [if_neg h12, if_neg (show ¬ (n ≤ 12 ∧ n ≤ xs.length - u) from fun h => h12 h.1)]
      exact rTake_short rfl

theorem rField_iff (xs : List Int) : match gF xs with
    | some (f, m) => rField (xs, false) = (f, (xs.drop m, false))
    | none => (rField (xs, false)).2.2 = true := by
  have h := rName_iff xs
  unfold gF rField
  cases hg : gN xs with
  | none =>
    rw [hg] at h
    exact rKind_short h
  | some p =>
    obtain ⟨t, m⟩ := p
    rw [hg] at h
    simp only at h ⊢
    rw [h]
    unfold rKind rTake
    simp only [List.length_drop]
    by_cases hm : m < xs.length
    · rw [if_pos hm]
      have e : (List.take 1 (List.drop m xs)).getD 0 0 = xs.getD m 0 := by
        rw [drop_consB xs m hm]
        simp
      simp only [if_neg (show ¬ xs.length - m < 1 from by omega), List.drop_drop, e]
      rfl
    · rw [if_neg hm]
      simp only [if_pos (show xs.length - m < 1 from by omega)]

theorem rFields_cons : ∀ (n : Nat) (r : Rs), rFields (n + 1) r = ((rField r).1 :: (rFields n (rField r).2).1, (rFields n (rField r).2).2)
  | 0, r => rfl
  | n + 1, r => by
    have h := rFields_cons n r
    show ((rFields (n + 1) r).1 ++ [(rField (rFields (n + 1) r).2).1], (rField (rFields (n + 1) r).2).2) = _
    rw [h]
    rfl

theorem rFields_iff : ∀ (n : Nat) (xs : List Int), match gFs n xs with
    | some (l, m) => rFields n (xs, false) = (l, (xs.drop m, false))
    | none => (rFields n (xs, false)).2.2 = true
  | 0, xs => rfl
  | n + 1, xs => by
    have h := rField_iff xs
    rw [rFields_cons]
    simp only [gFs]
    cases hg : gF xs with
    | none =>
      rw [hg] at h
      exact rFields_short h
    | some p =>
      obtain ⟨f, m⟩ := p
      rw [hg] at h
      simp only at h ⊢
      rw [h]
      have h2 := rFields_iff n (xs.drop m)
      cases hr : gFs n (xs.drop m) with
      | none =>
        rw [hr] at h2
        exact h2
      | some q =>
        obtain ⟨l, k⟩ := q
        rw [hr] at h2
        simp only at h2 ⊢
        rw [h2, List.drop_drop]

theorem rNum_iff (m : Nat) (xs : List Int) : match getS xs with
    | some (n, u) => if n ≤ m then rNum m (xs, false) = (n, (xs.drop u, false)) else (rNum m (xs, false)).2.2 = true
    | none => (rNum m (xs, false)).2.2 = true := by
  unfold rNum
  cases hg : getS xs with
  | none => rfl
  | some p =>
    obtain ⟨n, u⟩ := p
    simp only
    split <;> rfl

theorem rAll_iff (xs : List Int) : match gA xs with
    | some (s, m) => rAll xs = (s, (xs.drop m, false))
    | none => (rAll xs).2.2 = true := by
  have h1 := rName_iff xs
  unfold gA rAll
  cases e1 : gN xs with
  | none =>
    rw [e1] at h1
    exact rFields_short (rNum_short (rNum_short h1))
  | some p =>
    obtain ⟨t, a⟩ := p
    rw [e1] at h1
    simp only at h1 ⊢
    rw [h1]
    have h2 := rNum_iff 1000 (xs.drop a)
    cases e2 : getS (xs.drop a) with
    | none =>
      rw [e2] at h2
      exact rFields_short (rNum_short h2)
    | some p =>
      obtain ⟨v, u⟩ := p
      rw [e2] at h2
      simp only at h2 ⊢
      by_cases hv : v ≤ 1000
      · rw [if_pos hv] at h2 ⊢
        rw [h2, List.drop_drop]
        have h3 := rNum_iff 6 (xs.drop (a + u))
        cases e3 : getS (xs.drop (a + u)) with
        | none =>
          rw [e3] at h3
          exact rFields_short h3
        | some p =>
          obtain ⟨n, m⟩ := p
          rw [e3] at h3
          simp only at h3 ⊢
          by_cases hn : n ≤ 6
          · rw [if_pos hn] at h3 ⊢
            rw [h3, List.drop_drop]
            have h4 := rFields_iff n (xs.drop (a + u + m))
            cases e4 : gFs n (xs.drop (a + u + m)) with
            | none =>
              rw [e4] at h4
              exact h4
            | some p =>
              obtain ⟨l, k⟩ := p
              rw [e4] at h4
              simp only at h4 ⊢
              rw [h4, List.drop_drop]
          · rw [if_neg hn] at h3 ⊢
            exact rFields_short h3
      · rw [if_neg hv] at h2 ⊢
        exact rFields_short (rNum_short h2)

/-- What Get answers, by the reader. -/
theorem gS_read {xs : List Int} (hb : ∀ x ∈ xs, (0 : Int) ≤ x ∧ x < 256) :
    gotS (gS xs) = if (rAll xs).2.2 = false ∧ May (rAll xs).1 then ((rAll xs).1, xs.length - (rAll xs).2.1.length, true) else (⟨e0, 0, []⟩, 0, false) := by
  have h := rAll_iff xs
  cases hg : gS xs with
  | none =>
    rw [if_neg]
    · rfl
    · rintro ⟨h1, h2⟩
      unfold gS at hg
      cases ha : gA xs with
      | none =>
        rw [ha] at h
        simp only at h
        rw [h1] at h
        cases h
      | some p =>
        obtain ⟨s, m⟩ := p
        rw [ha] at h hg
        simp only at h hg
        rw [h] at h2
        rw [if_pos h2] at hg
        cases hg
  | some p =>
    obtain ⟨s, m⟩ := p
    obtain ⟨k1, k2, k3⟩ := gS_some hb hg
    unfold gS at hg
    cases ha : gA xs with
    | none =>
      rw [ha] at hg
      cases hg
    | some q =>
      obtain ⟨s', m'⟩ := q
      rw [ha] at h hg
      simp only at h hg
      by_cases hm : May s'
      · rw [if_pos hm] at hg
        simp only [Option.some.injEq, Prod.mk.injEq] at hg
        obtain ⟨rfl, rfl⟩ := hg
        rw [h, if_pos ⟨rfl, hm⟩]
        simp only [gotS, List.length_drop]
        congr 2
        omega
      · rw [if_neg hm] at hg
        cases hg

theorem rTake_len (n : Nat) (r : Rs) : (rTake n r).1.length ≤ n := by
  unfold rTake
  split
  · exact Nat.zero_le _
  · simp only [List.length_take]; omega

theorem rName_size (r : Rs) : (rName r).1.size ≤ 12 := by
  have h1 := rTake_len (rNum 12 r).1 (rNum 12 r).2
  have h2 := rNum_le 12 r
  show (strOfNums (rTake (rNum 12 r).1 (rNum 12 r).2).1).size ≤ 12
  rw [size_str]
  omega

theorem rFields_size : ∀ (n : Nat) (r : Rs), (rFields n r).1.length = n ∧ ∀ f ∈ (rFields n r).1, f.s.size ≤ 12
  | 0, _ => ⟨rfl, fun f hf => by cases hf⟩
  | n + 1, r => by
    obtain ⟨h1, h2⟩ := rFields_size n r
    refine ⟨by show ((rFields n r).1 ++ [_]).length = n + 1; rw [List.length_append, h1]; rfl, fun f hf => ?_⟩
    rcases List.mem_append.1 hf with h | h
    · exact h2 f h
    · obtain rfl := List.mem_singleton.1 h
      exact rName_size _

theorem rTake_left (n : Nat) (r : Rs) : (rTake n r).2.1.length ≤ r.1.length := by
  unfold rTake
  split
  · exact Nat.le_refl _
  · simp only [List.length_drop]; omega
theorem rNum_left (n : Nat) (r : Rs) : (rNum n r).2.1.length ≤ r.1.length := by
  unfold rNum
  split
  · split
    · simp only [List.length_drop]; omega
    · exact Nat.le_refl _
  · exact Nat.le_refl _
theorem rName_left (r : Rs) : (rName r).2.1.length ≤ r.1.length := Nat.le_trans (rTake_left _ _) (rNum_left _ _)
theorem rField_left (r : Rs) : (rField r).2.1.length ≤ r.1.length := Nat.le_trans (rTake_left _ _) (rName_left _)
theorem rFields_left : ∀ (n : Nat) (r : Rs), (rFields n r).2.1.length ≤ r.1.length
  | 0, _ => Nat.le_refl _
  | n + 1, r => Nat.le_trans (rField_left _) (rFields_left n r)
theorem rAll_left (xs : List Int) : (rAll xs).2.1.length ≤ xs.length :=
  Nat.le_trans (rFields_left _ _) (Nat.le_trans (rNum_left _ _) (Nat.le_trans (rNum_left _ _) (rName_left (xs, false))))
end Go.Proofs.YtbmdkibmfkmjoaaGreat.ScM
