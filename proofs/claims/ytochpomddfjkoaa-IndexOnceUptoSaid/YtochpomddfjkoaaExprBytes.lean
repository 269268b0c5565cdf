/- Expressions' bytes by plain lists, and what bytes begin by; no program, nothing is asked. -/
import Derived.Test.YtochpomddfjkoaaExprMath
namespace Go.Proofs.Ytochpomddfjkoaa.ExM
open Go.RowKit Go.Proofs.Ytochpomddfjkoaa.BM Go.Proofs.Ytochpomddfjkoaa.LeM Go.Proofs.Ytochpomddfjkoaa.VaM Go.Proofs.Ytochpomddfjkoaa.EvM Go.Proofs.Ytochpomddfjkoaa.ScM

def pO (o : O) : List Int := o.c :: (if o.c = 0 then putV o.v else if o.c = 1 then [o.a] else [])
def pOs : List O → List Int
  | [] => []
  | o :: l => pO o ++ pOs l
def pL (l : List O) : List Int := putL l.length ++ pOs l

/-- Numbers that are ints. -/
def Rngs (l : List O) : Prop := ∀ x ∈ l, Rng x.v

theorem pOs_app (l m : List O) : pOs (l ++ m) = pOs l ++ pOs m := by
  induction l with
  | nil => rfl
  | cons o l ih => simp only [List.cons_append, pOs, ih, List.append_assoc]

theorem pOs_snoc (l : List O) (o : O) : pOs (l ++ [o]) = pOs l ++ pO o := by rw [pOs_app, pOs, pOs, List.append_nil]

theorem pO_bytes {o : O} (h : Ok o) : ∀ x ∈ pO o, (0 : Int) ≤ x ∧ x < 256 := by
  intro x hx
  unfold pO at hx
  rcases List.mem_cons.1 hx with rfl | hx
  · have h1 := h.1
    have h2 := h.2.1
    omega
  · split at hx
    · exact putV_bytes h.2.2.2.2.2.1 x hx
    · split at hx
      · obtain rfl : x = o.a := by simpa using hx
        have h1 := h.2.2.1
        have h2 := h.2.2.2.1
        omega
      · cases hx

theorem pO_len {o : O} (h : Ok o) (hr : Rng o.v) : 1 ≤ (pO o).length ∧ (pO o).length ≤ 52 := by
  unfold pO
  rw [List.length_cons]
  split
  · have := putV_len h.2.2.2.2.2.1 hr
    omega
  · split
    · simp
    · simp

theorem pOs_bytes : ∀ {l : List O}, (∀ x ∈ l, Ok x) → ∀ y ∈ pOs l, (0 : Int) ≤ y ∧ y < 256
  | [], _, y, hy => by cases hy
  | o :: l, h, y, hy => by
    rw [pOs] at hy
    rcases List.mem_append.1 hy with hy | hy
    · exact pO_bytes (h o (by simp)) y hy
    · exact pOs_bytes (fun x hx => h x (by simp [hx])) y hy

theorem pOs_len : ∀ {l : List O}, (∀ x ∈ l, Ok x) → Rngs l → (pOs l).length ≤ 52 * l.length
  | [], _, _ => by simp [pOs]
  | o :: l, h, hr => by
    have h1 := (pO_len (h o (by simp)) (hr o (by simp))).2
    have h2 := pOs_len (l := l) (fun x hx => h x (by simp [hx])) (fun x hx => hr x (by simp [hx]))
    rw [pOs, List.length_append, List.length_cons]
    omega

theorem pL_bytes {l : List O} (h : May l) : ∀ x ∈ pL l, (0 : Int) ≤ x ∧ x < 256 := bytes_app (putL_bytes _) (pOs_bytes fun _ hx => h.ok hx)

theorem pL_len {l : List O} (h : May l) (hr : Rngs l) : 1 ≤ (pL l).length ∧ (pL l).length ≤ 634 := by
  have h1 := pOs_len (fun _ hx => h.ok hx) hr
  have h2 := h.2
  have h3 := putL_len64 (n := l.length) (by omega)
  have h4 := putL_pos l.length
  rw [pL, List.length_append]
  omega

/-- A part. -/
def gO : List Int → Option (O × Nat)
  | [] => none
  | c :: r => if c = 0 then match getP r with
      | some (v, m) => some (⟨0, 0, v⟩, 1 + m)
      | none => none
    else if c = 1 then match r with
      | a :: _ => some (⟨1, a, v0⟩, 2)
      | [] => none
    else some (⟨c, 0, v0⟩, 1)

theorem gO_push (r : List Int) : gO (0 :: r) = match getP r with
    | some (v, m) => some (⟨0, 0, v⟩, 1 + m)
    | none => none := by
  simp only [gO, if_true]
theorem gO_other {c : Int} (r : List Int) (h0 : c ≠ 0) (h1 : c ≠ 1) : gO (c :: r) = some (⟨c, 0, v0⟩, 1) := by
  simp only [gO, if_neg h0, if_neg h1]

/-- So many parts. -/
def gOs : Nat → List Int → Option (List O × Nat)
  | 0, _ => some ([], 0)
  | n + 1, xs =>
    match gO xs with
    | some (x, m) => match gOs n (xs.drop m) with
      | some (l, k) => some (x :: l, m + k)
      | none => none
    | none => none

/-- An expression. -/
def gL (xs : List Int) : Option (List O × Nat) :=
  match getS xs with
  | none => none
  | some (n, u) =>
    if n ≤ 12 then
      match gOs n (xs.drop u) with
      | none => none
      | some (l, k) => if May l then some (l, u + k) else none
    else none

theorem rng_v0 : Rng v0 := ⟨by decide, by decide⟩

theorem gO_some {xs : List Int} (hb : ∀ x ∈ xs, (0 : Int) ≤ x ∧ x < 256) {o : O} {m : Nat} (h : gO xs = some (o, m)) : Rng o.v ∧ 1 ≤ m ∧ m ≤ xs.length ∧ pO o = xs.take m := by
  cases xs with
  | nil => cases h
  | cons c r =>
    have hr : ∀ x ∈ r, (0 : Int) ≤ x ∧ x < 256 := fun x hx => hb x (List.mem_cons_of_mem _ hx)
    simp only [gO] at h
    by_cases h0 : c = 0
    · rw [if_pos h0] at h
      cases hg : getP r with
      | none => rw [hg] at h; cases h
      | some p =>
        obtain ⟨v, a⟩ := p
        rw [hg] at h
        simp only [Option.some.injEq, Prod.mk.injEq] at h
        obtain ⟨rfl, rfl⟩ := h
        obtain ⟨h1, h2, h3, h4⟩ := getP_some hr hg
        refine ⟨h1, by omega, by rw [List.length_cons]; omega, ?_⟩
        rw [pO, if_pos rfl, h4, h0, Nat.add_comm, List.take_succ_cons]
    · rw [if_neg h0] at h
      by_cases h1 : c = 1
      · rw [if_pos h1] at h
        cases r with
        | nil => cases h
        | cons a r =>
          simp only [Option.some.injEq, Prod.mk.injEq] at h
          obtain ⟨rfl, rfl⟩ := h
          refine ⟨rng_v0, by omega, by simp, ?_⟩
          rw [h1]
          rfl
      · rw [if_neg h1] at h
        simp only [Option.some.injEq, Prod.mk.injEq] at h
        obtain ⟨rfl, rfl⟩ := h
        refine ⟨rng_v0, by omega, by simp, ?_⟩
        rw [pO, if_neg h0, if_neg h1]
        rfl

theorem gO_app {o : O} (hm : Ok o) (hr : Rng o.v) {ys : List Int} (hb : ∀ x ∈ ys, (0 : Int) ≤ x ∧ x < 256) : gO (pO o ++ ys) = some (o, (pO o).length) := by
  obtain ⟨c, a, v⟩ := o
  obtain ⟨h1, h2, h3, h4, h5, h6, h7⟩ := hm
  simp only at h1 h2 h3 h4 h5 h6 h7 hr
  unfold pO
  simp only
  by_cases h0 : c = 0
  · subst h0
    obtain rfl : a = 0 := by omega
    rw [if_pos rfl, List.cons_append, gO_push, getP_app hr h6 ys hb]
    simp only [List.length_cons]
    rw [Nat.add_comm]
  · rw [if_neg h0]
    obtain rfl : v = v0 := by
      rcases h7 with h | h
      · exact absurd h h0
      · exact h
    by_cases g1 : c = 1
    · subst g1
      rfl
    · obtain rfl : a = 0 := by omega
      rw [if_neg g1, List.cons_append, gO_other _ h0 g1]
      rfl

theorem gOs_some : ∀ (n : Nat) {xs : List Int} (_ : ∀ x ∈ xs, (0 : Int) ≤ x ∧ x < 256) {l : List O} {m : Nat} (_ : gOs n xs = some (l, m)),
    l.length = n ∧ Rngs l ∧ m ≤ xs.length ∧ pOs l = xs.take m
  | 0, xs, hb, l, m, h => by
    simp only [gOs, Option.some.injEq, Prod.mk.injEq] at h
    obtain ⟨rfl, rfl⟩ := h
    exact ⟨rfl, (fun f hf => by cases hf), Nat.zero_le _, rfl⟩
  | n + 1, xs, hb, l, m, h => by
    simp only [gOs] at h
    cases hg : gO xs with
    | none => rw [hg] at h; cases h
    | some p =>
      obtain ⟨x, a⟩ := p
      rw [hg] at h
      simp only at h
      obtain ⟨h1, h2, h3, h4⟩ := gO_some hb hg
      cases hr : gOs n (xs.drop a) with
      | none => rw [hr] at h; cases h
      | some q =>
        obtain ⟨r, k⟩ := q
        rw [hr] at h
        simp only [Option.some.injEq, Prod.mk.injEq] at h
        obtain ⟨rfl, rfl⟩ := h
        obtain ⟨g1, g2, g3, g4⟩ := gOs_some n (bytes_drop hb a) hr
        rw [List.length_drop] at g3
        refine ⟨by rw [List.length_cons, g1], ?_, by omega, ?_⟩
        · intro y hy
          rcases List.mem_cons.1 hy with rfl | hy
          · exact h1
          · exact g2 y hy
        · rw [pOs, h4, g4, List.take_add]

theorem gOs_app : ∀ (l : List O) (_ : ∀ x ∈ l, Rng x.v ∧ Ok x) {ys : List Int} (_ : ∀ x ∈ ys, (0 : Int) ≤ x ∧ x < 256), gOs l.length (pOs l ++ ys) = some (l, (pOs l).length)
  | [], _, ys, _ => rfl
  | x :: l, h, ys, hb => by
    have hx := h x (by simp)
    have hl : ∀ g ∈ l, Rng g.v ∧ Ok g := fun g hg => h g (by simp [hg])
    have hb' := bytes_app (pOs_bytes (fun g hg => (hl g hg).2)) hb
    simp only [List.length_cons, gOs, pOs]
    rw [List.append_assoc, gO_app hx.2 hx.1 hb']
    simp only
    rw [List.drop_left, gOs_app l hl hb]
    simp only [List.length_append]

theorem gL_some {xs : List Int} (hb : ∀ x ∈ xs, (0 : Int) ≤ x ∧ x < 256) {l : List O} {m : Nat} (h : gL xs = some (l, m)) : May l ∧ Rngs l ∧ m ≤ xs.length ∧ pL l = xs.take m := by
  unfold gL at h
  cases h2 : getS xs with
  | none => rw [h2] at h; cases h
  | some p =>
    obtain ⟨n, u⟩ := p
    rw [h2] at h
    simp only at h
    obtain ⟨b1, b2, b3⟩ := (getS_iff _ hb n u).1 h2
    by_cases hn : n ≤ 12
    · rw [if_pos hn] at h
      cases h4 : gOs n (xs.drop u) with
      | none => rw [h4] at h; cases h
      | some p =>
        obtain ⟨r, j⟩ := p
        rw [h4] at h
        simp only at h
        by_cases hm : May r
        · rw [if_pos hm] at h
          simp only [Option.some.injEq, Prod.mk.injEq] at h
          obtain ⟨rfl, rfl⟩ := h
          obtain ⟨d1, d2, d3, d4⟩ := gOs_some n (bytes_drop hb u) h4
          rw [List.length_drop] at d3
          refine ⟨hm, d2, by omega, ?_⟩
          rw [pL, d1, b3, d4, List.take_add]
        · rw [if_neg hm] at h
          cases h
    · rw [if_neg hn] at h
      cases h

/-- What is put is got, whatever stands behind. -/
theorem gL_app {l : List O} (hm : May l) (hr : Rngs l) {ys : List Int} (hb : ∀ x ∈ ys, (0 : Int) ≤ x ∧ x < 256) : gL (pL l ++ ys) = some (l, (pL l).length) := by
  have hf : ∀ x ∈ l, Ok x := fun f hf => hm.ok hf
  have b4 := bytes_app (pOs_bytes hf) hb
  have hl := hm.2
  unfold gL pL
  rw [List.append_assoc, getS_put (by omega) _ b4]
  simp only
  rw [if_pos hl, List.drop_left, gOs_app l (fun x hx => ⟨hr x hx, hf x hx⟩) hb]
  simp only
  rw [if_pos hm, List.length_append]

theorem gL_put {xs : List Int} (hb : ∀ x ∈ xs, (0 : Int) ≤ x ∧ x < 256) {l : List O} {m : Nat} (hs : May l) (hr : Rngs l) (hm : m ≤ xs.length) (hp : pL l = xs.take m) : gL xs = some (l, m) := by
  have h := gL_app hs hr (bytes_drop hb m)
  have hl := congrArg List.length hp
  rw [List.length_take, Nat.min_eq_left hm] at hl
  rw [hl, hp, List.take_append_drop] at h
  exact h

theorem pL_inj {a b : List O} (ma : May a) (mb : May b) (ra : Rngs a) (rb : Rngs b) (h : pL a = pL b) : a = b := by
  have h1 := gL_put (pL_bytes ma) (m := (pL a).length) ma ra (Nat.le_refl _) (by rw [List.take_length])
  have h2 := gL_put (pL_bytes mb) (m := (pL b).length) mb rb (Nat.le_refl _) (by rw [List.take_length])
  rw [h, h2] at h1
  simp only [Option.some.injEq, Prod.mk.injEq] at h1
  exact h1.1.symm

/-- What Put answers: the bytes. -/
def pv (l : List O) : List Int := if May l then pL l else []

theorem pv_bytes (l : List O) : ∀ x ∈ pv l, (0 : Int) ≤ x ∧ x < 256 := by
  unfold pv
  split
  · exact pL_bytes (by assumption)
  · simp

theorem pv_len {l : List O} (hr : Rngs l) : (pv l).length ≤ 634 := by
  unfold pv
  split
  · exact (pL_len (by assumption) hr).2
  · simp

/-- What Get answers. -/
def gotL : Option (List O × Nat) → List O × Nat × Bool
  | some (l, m) => (l, m, true)
  | none => ([], 0, false)
end Go.Proofs.Ytochpomddfjkoaa.ExM
