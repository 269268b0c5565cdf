/- Plain facts on numbers as lists of bytes (no program): putL, vs, getD, getS; nothing is asked. -/
import Derived.Laws.BytesArg
namespace Go.Proofs.Ytochpomddfjkoaa.LeM

/-- The bytes of a number, groups of seven bits, the lowest first. -/
def putL (n : Nat) : List Int := if h : n < 128 then [(n : Int)] else ((n % 128 + 128 : Nat) : Int) :: putL (n / 128)
termination_by n
decreasing_by omega

theorem putL_lt {n : Nat} (h : n < 128) : putL n = [(n : Int)] := by rw [putL, dif_pos h]
theorem putL_ge {n : Nat} (h : 128 ≤ n) : putL n = ((n % 128 + 128 : Nat) : Int) :: putL (n / 128) := by rw [putL, dif_neg (by omega)]

/-- Induction along the bytes. -/
theorem put_ind {P : Nat → Prop} (h0 : ∀ n, n < 128 → P n) (h1 : ∀ n, 128 ≤ n → P (n / 128) → P n) : ∀ n, P n := by
  intro n
  induction n using Nat.strongRecOn with
  | _ n ih =>
    by_cases h : n < 128
    · exact h0 n h
    · exact h1 n (by omega) (ih (n / 128) (by omega))

theorem putL_ne (n : Nat) : putL n ≠ [] := by
  by_cases h : n < 128
  · rw [putL_lt h]; simp
  · rw [putL_ge (by omega)]; simp

theorem putL_pos (n : Nat) : 0 < (putL n).length := List.length_pos_iff.2 (putL_ne n)

theorem putL_bytes : ∀ n, ∀ x ∈ putL n, (0 : Int) ≤ x ∧ x < 256 := by
  refine put_ind ?_ ?_
  · intro n h x hx
    rw [putL_lt h] at hx
    simp at hx
    omega
  · intro n h ih x hx
    rw [putL_ge h] at hx
    rcases List.mem_cons.1 hx with rfl | hx
    · omega
    · exact ih x hx

/-- Each seven bits more are one byte more. -/
theorem putL_len_le : ∀ n k, n < 128 ^ (k + 1) → (putL n).length ≤ k + 1 := by
  refine put_ind ?_ ?_
  · intro n h k _
    rw [putL_lt h]
    simp
  · intro n h ih k hk
    rw [putL_ge h, List.length_cons]
    match k with
    | 0 => simp at hk; omega
    | k + 1 =>
      have h1 : n / 128 < 128 ^ (k + 1) := by
        rw [Nat.div_lt_iff_lt_mul (by decide)]
        calc n < 128 ^ (k + 1 + 1) := hk
          _ = 128 ^ (k + 1) * 128 := by rw [Nat.pow_succ]
      have := ih k h1
      omega

theorem putL_len64 {n : Nat} (h : n < 18446744073709551616) : (putL n).length ≤ 10 :=
  putL_len_le n 9 (Nat.lt_of_lt_of_le h (by decide))

/-- The value that bytes tell, whatever their marks. -/
def vs : List Int → Nat
  | [] => 0
  | x :: r => (x % 128).toNat + 128 * vs r

theorem vs_append (a b : List Int) : vs (a ++ b) = vs a + 128 ^ a.length * vs b := by
  induction a with
  | nil => simp [vs]
  | cons x r ih =>
    simp only [List.cons_append, vs, ih, List.length_cons, Nat.pow_succ]
    rw [Nat.mul_add, ← Nat.mul_assoc, Nat.mul_comm 128 (128 ^ r.length)]
    omega

theorem vs_lt : ∀ a : List Int, vs a < 128 ^ a.length
  | [] => by simp [vs]
  | x :: r => by
    have h := vs_lt r
    simp only [vs, List.length_cons, Nat.pow_succ]
    have : (x % 128).toNat < 128 := by omega
    omega

/-- A number out of the head of bytes: at most f of them. -/
def getD : Nat → List Int → Option (Nat × Nat)
  | 0, _ => none
  | _ + 1, [] => none
  | f + 1, x :: r =>
    if x < 128 then some (x.toNat, 1)
    else match getD f r with
      | some (v, k) => if v = 0 then none else some ((x % 128).toNat + 128 * v, k + 1)
      | none => none

/-- What Get answers: the number and how many bytes it has. -/
def getS (xs : List Int) : Option (Nat × Nat) :=
  match getD 10 xs with
  | some (v, k) => if v < 18446744073709551616 then some (v, k) else none
  | none => none

theorem getD_iff : ∀ (f : Nat) (xs : List Int) (_ : ∀ x ∈ xs, (0 : Int) ≤ x ∧ x < 256) (v k : Nat),
    getD f xs = some (v, k) ↔ (k ≤ f ∧ k ≤ xs.length ∧ putL v = xs.take k) := by
  intro f
  induction f with
  | zero =>
    intro xs _ v k
    simp only [getD]
    constructor
    · intro h; cases h
    · rintro ⟨h, _, h2⟩
      have : k = 0 := by omega
      subst this
      simp at h2
      exact absurd h2 (putL_ne v)
  | succ f ih =>
    intro xs hb v k
    match xs with
    | [] =>
      simp only [getD]
      constructor
      · intro h; cases h
      · rintro ⟨_, _, h2⟩
        simp at h2
        exact absurd h2 (putL_ne v)
    | x :: r =>
      have hx := hb x (by simp)
      have hr : ∀ y ∈ r, (0 : Int) ≤ y ∧ y < 256 := fun y hy => hb y (by simp [hy])
      simp only [getD]
      by_cases hlt : x < 128
      · rw [if_pos hlt]
        constructor
        · intro h
          simp only [Option.some.injEq, Prod.mk.injEq] at h
          obtain ⟨rfl, rfl⟩ := h
          refine ⟨by omega, by simp, ?_⟩
          rw [putL_lt (by omega)]
          simp
          omega
        · rintro ⟨h1, h2, h3⟩
          match k, h3 with
          | 0, h3 => simp at h3; exact absurd h3 (putL_ne v)
          | k + 1, h3 =>
            rw [List.take_succ_cons] at h3
            by_cases hv : v < 128
            · rw [putL_lt hv] at h3
              simp only [List.cons.injEq] at h3
              obtain ⟨rfl, h4⟩ := h3
              have hk : (r.take k).length = 0 := by rw [← h4]; rfl
              simp only [List.length_take, List.length_cons] at hk h2
              have : k = 0 := by omega
              subst this
              simp
            · rw [putL_ge (by omega)] at h3
              simp only [List.cons.injEq] at h3
              omega
      · rw [if_neg hlt]
        constructor
        · intro h
          cases hg : getD f r with
          | none => rw [hg] at h; cases h
          | some p =>
            obtain ⟨v', k'⟩ := p
            rw [hg] at h
            simp only at h
            by_cases hv : v' = 0
            · rw [if_pos hv] at h; cases h
            · rw [if_neg hv] at h
              simp only [Option.some.injEq, Prod.mk.injEq] at h
              obtain ⟨rfl, rfl⟩ := h
              obtain ⟨q1, q2, q3⟩ := (ih r hr v' k').1 hg
              refine ⟨by omega, by simp; omega, ?_⟩
              rw [putL_ge (by omega), List.take_succ_cons]
              have e1 : ((x % 128).toNat + 128 * v') % 128 = (x % 128).toNat := by omega
              have e2 : ((x % 128).toNat + 128 * v') / 128 = v' := by omega
              rw [e1, e2, q3]
              congr 1
              omega
        · rintro ⟨h1, h2, h3⟩
          match k, h3 with
          | 0, h3 => simp at h3; exact absurd h3 (putL_ne v)
          | k + 1, h3 =>
            rw [List.take_succ_cons] at h3
            by_cases hv : v < 128
            · rw [putL_lt hv] at h3
              simp only [List.cons.injEq] at h3
              omega
            · rw [putL_ge (by omega)] at h3
              simp only [List.cons.injEq] at h3
              have hg := (ih r hr (v / 128) k).2 ⟨by omega, by simpa using h2, h3.2⟩
              rw [hg]
              simp only
              rw [if_neg (by omega)]
              simp only [Option.some.injEq, Prod.mk.injEq, and_true]
              omega

theorem getS_iff (xs : List Int) (hb : ∀ x ∈ xs, (0 : Int) ≤ x ∧ x < 256) (v k : Nat) :
    getS xs = some (v, k) ↔ (v < 18446744073709551616 ∧ k ≤ xs.length ∧ putL v = xs.take k) := by
  unfold getS
  constructor
  · intro h
    cases hg : getD 10 xs with
    | none => rw [hg] at h; cases h
    | some p =>
      obtain ⟨v', k'⟩ := p
      rw [hg] at h
      simp only at h
      by_cases hv : v' < 18446744073709551616
      · rw [if_pos hv] at h
        simp only [Option.some.injEq, Prod.mk.injEq] at h
        obtain ⟨rfl, rfl⟩ := h
        obtain ⟨_, q2, q3⟩ := (getD_iff 10 xs hb v' k').1 hg
        exact ⟨hv, q2, q3⟩
      · rw [if_neg hv] at h; cases h
  · rintro ⟨h1, h2, h3⟩
    have hk : k ≤ 10 := by
      have := putL_len64 h1
      rw [h3, List.length_take] at this
      omega
    rw [(getD_iff 10 xs hb v k).2 ⟨hk, h2, h3⟩]
    simp only
    rw [if_pos h1]

/-- What was put is got, with whatever stands behind. -/
theorem getS_put {n : Nat} (hn : n < 18446744073709551616) (b : List Int) (hb : ∀ x ∈ b, (0 : Int) ≤ x ∧ x < 256) :
    getS (putL n ++ b) = some (n, (putL n).length) := by
  refine (getS_iff _ ?_ _ _).2 ⟨hn, by simp, by simp⟩
  intro x hx
  rcases List.mem_append.1 hx with h | h
  · exact putL_bytes n x h
  · exact hb x h

theorem putL_inj {n m : Nat} (hn : n < 18446744073709551616) (hm : m < 18446744073709551616) (h : putL n = putL m) : n = m := by
  have h1 := getS_put hn [] (by simp)
  have h2 := getS_put hm [] (by simp)
  rw [h] at h1
  rw [h1] at h2
  simp only [Option.some.injEq, Prod.mk.injEq] at h2
  exact h2.1

/-- Some bytes that go on, then the rest. -/
theorem getD_go : ∀ (a b : List Int) (f : Nat), (∀ x ∈ a, (128 : Int) ≤ x) → a ≠ [] →
    getD (a.length + f) (a ++ b) = match getD f b with | some (v, k) => if v = 0 then none else some (vs a + 128 ^ a.length * v, a.length + k) | none => none := by
  intro a
  induction a with
  | nil => intro b f _ h; exact absurd rfl h
  | cons x r ih =>
    intro b f hx _
    have h0 : ¬ x < 128 := by have := hx x (by simp); omega
    have e : (x :: r).length + f = (r.length + f) + 1 := by simp; omega
    rw [e, List.cons_append]
    simp only [getD]
    rw [if_neg h0]
    by_cases hr : r = []
    · subst hr
      simp only [List.length_nil, Nat.zero_add, List.nil_append]
      cases getD f b with
      | none => rfl
      | some p =>
        obtain ⟨v, k⟩ := p
        simp only [vs, List.length_cons, List.length_nil]
        by_cases hv : v = 0
        · rw [if_pos hv, if_pos hv]
        · rw [if_neg hv, if_neg hv]
          simp
          omega
    · rw [ih b f (fun y hy => hx y (by simp [hy])) hr]
      cases getD f b with
      | none => rfl
      | some p =>
        obtain ⟨v, k⟩ := p
        simp only
        by_cases hv : v = 0
        · simp only [if_pos hv]
        · rw [if_neg hv, if_neg hv]
          simp only
          have hp : 0 < 128 ^ r.length * v := Nat.mul_pos (Nat.pow_pos (by decide)) (by omega)
          rw [if_neg (by omega)]
          simp only [vs, List.length_cons, Nat.pow_succ, Option.some.injEq, Prod.mk.injEq]
          refine ⟨?_, by omega⟩
          rw [Nat.mul_add, ← Nat.mul_assoc, Nat.mul_comm 128 (128 ^ r.length)]
          omega


theorem drop_cons (xs : List Int) (k : Nat) (hk : k < xs.length) : xs.drop k = xs.getD k 0 :: xs.drop (k + 1) := by
  rw [List.drop_eq_getElem_cons hk, List.getD_eq_getElem?_getD, List.getElem?_eq_getElem hk]
  rfl

theorem take_snoc (xs : List Int) (k : Nat) (hk : k < xs.length) : xs.take (k + 1) = xs.take k ++ [xs.getD k 0] := by
  rw [List.take_succ_eq_append_getElem hk, List.getD_eq_getElem?_getD, List.getElem?_eq_getElem hk]
  rfl

theorem vs_snoc (xs : List Int) (k : Nat) (hk : k < xs.length) : vs (xs.take (k + 1)) = vs (xs.take k) + 128 ^ k * (xs.getD k 0 % 128).toNat := by
  rw [take_snoc xs k hk, vs_append, List.length_take, Nat.min_eq_left (by omega)]
  simp [vs]

theorem getD_at {xs : List Int} {k : Nat} (hk : k < xs.length) (h10 : k < 10) (hge : ∀ x ∈ xs.take k, (128 : Int) ≤ x) (hx : xs.getD k 0 < 128) :
    getD 10 xs = if 0 < k ∧ xs.getD k 0 ≤ 0 then none else some (vs (xs.take k) + 128 ^ k * (xs.getD k 0).toNat, k + 1) := by
  have hd := drop_cons xs k hk
  by_cases h0 : k = 0
  · subst h0
    simp only [List.drop_zero] at hd
    rw [hd]
    simp only [getD, List.getD_cons_zero]
    rw [if_pos hx, if_neg (by omega)]
    simp [vs]
  · have hlen : (xs.take k).length = k := by rw [List.length_take]; omega
    have h := getD_go (xs.take k) (xs.drop k) (10 - k) hge (by intro h; rw [h] at hlen; simp at hlen; omega)
    rw [List.take_append_drop, hlen, show k + (10 - k) = 10 from by omega, hd, show 10 - k = (9 - k) + 1 from by omega] at h
    simp only [getD] at h
    rw [if_pos hx] at h
    rw [h]
    simp only
    by_cases h1 : xs.getD k 0 ≤ 0
    · rw [if_pos (by omega), if_pos ⟨by omega, h1⟩]
    · rw [if_neg (by omega), if_neg (by omega)]

theorem getS_some {xs : List Int} {k : Nat} (hk : k < xs.length) (h10 : k < 10) (hge : ∀ x ∈ xs.take k, (128 : Int) ≤ x) (hx : xs.getD k 0 < 128)
    (h0 : k = 0 ∨ 0 < xs.getD k 0) (hlt : vs (xs.take k) + 128 ^ k * (xs.getD k 0).toNat < 18446744073709551616) :
    getS xs = some (vs (xs.take k) + 128 ^ k * (xs.getD k 0).toNat, k + 1) := by
  unfold getS
  rw [getD_at hk h10 hge hx, if_neg (by omega)]
  simp only
  rw [if_pos hlt]

theorem getS_zero {xs : List Int} {k : Nat} (hk : k < xs.length) (h10 : k < 10) (hge : ∀ x ∈ xs.take k, (128 : Int) ≤ x) (hx : xs.getD k 0 < 128)
    (h0 : 0 < k) (h1 : xs.getD k 0 ≤ 0) : getS xs = none := by
  unfold getS
  rw [getD_at hk h10 hge hx, if_pos ⟨h0, h1⟩]

theorem getS_over {xs : List Int} {k : Nat} (hk : k < xs.length) (h10 : k < 10) (hge : ∀ x ∈ xs.take k, (128 : Int) ≤ x) (hx : xs.getD k 0 < 128)
    (hlt : 18446744073709551616 ≤ vs (xs.take k) + 128 ^ k * (xs.getD k 0).toNat) : getS xs = none := by
  unfold getS
  rw [getD_at hk h10 hge hx]
  by_cases h : 0 < k ∧ xs.getD k 0 ≤ 0
  · rw [if_pos h]
  · rw [if_neg h]
    simp only
    rw [if_neg (by omega)]

theorem getD_all : ∀ (f : Nat) (xs : List Int), (∀ x ∈ xs.take f, (128 : Int) ≤ x) → getD f xs = none := by
  intro f
  induction f with
  | zero => intro xs _; rfl
  | succ f ih =>
    intro xs h
    match xs with
    | [] => rfl
    | x :: r =>
      simp only [List.take_succ_cons] at h
      have h1 := ih r (fun y hy => h y (by simp [hy]))
      have h2 := h x (by simp)
      simp only [getD]
      rw [if_neg (by omega), h1]

theorem getS_all {xs : List Int} {k : Nat} (hk : k = xs.length ∨ k = 10) (h10 : k ≤ 10) (hge : ∀ x ∈ xs.take k, (128 : Int) ≤ x) : getS xs = none := by
  unfold getS
  rw [getD_all 10 xs ?_]
  intro x hx
  rcases hk with h | h
  · subst h
    rw [List.take_length] at hge
    exact hge x (List.mem_of_mem_take hx)
  · subst h
    exact hge x hx

end Go.Proofs.Ytochpomddfjkoaa.LeM
