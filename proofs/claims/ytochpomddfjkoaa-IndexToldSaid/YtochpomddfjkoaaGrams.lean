/- Bytes that are put and got, part by part: what a part's law is, and how laws join; no program, nothing is asked. -/
import Derived.Test.YtochpomddfjkoaaExprBytes
namespace Go.Proofs.Ytochpomddfjkoaa.Gr
open Go.RowKit Go.Proofs.Ytochpomddfjkoaa.BM Go.Proofs.Ytochpomddfjkoaa.LeM Go.Proofs.Ytochpomddfjkoaa.ScM

/-- Bytes. -/
def By (xs : List Int) : Prop := ∀ x ∈ xs, (0 : Int) ≤ x ∧ x < 256
theorem By.drop {xs : List Int} (h : By xs) (k : Nat) : By (xs.drop k) := bytes_drop h k
theorem By.app {xs ys : List Int} (h : By xs) (k : By ys) : By (xs ++ ys) := bytes_app h k

/-- How a part is put, and got: what is got is put as the same bytes, and what is put is got, whatever stands behind. -/
structure Law {α : Type} (g : List Int → Option (α × Nat)) (p : α → List Int) (ok : α → Prop) : Prop where
  some : ∀ {xs : List Int} {a : α} {m : Nat}, By xs → g xs = some (a, m) → ok a ∧ m ≤ xs.length ∧ p a = xs.take m
  app : ∀ {a : α} {ys : List Int}, ok a → By ys → g (p a ++ ys) = Option.some (a, (p a).length)
  bytes : ∀ {a : α}, ok a → By (p a)

section
variable {α β : Type} {g : List Int → Option (α × Nat)} {p : α → List Int} {ok : α → Prop}

/-- Bytes that begin by a part's are got as it. -/
theorem Law.put (h : Law g p ok) {xs : List Int} (hb : By xs) {a : α} {m : Nat} (ha : ok a) (hp : p a = xs.take m) (hm : m ≤ xs.length) : g xs = Option.some (a, m) := by
  have h1 := h.app (ys := xs.drop m) ha (hb.drop m)
  rw [hp, List.take_append_drop, List.length_take, Nat.min_eq_left hm] at h1
  exact h1

/-- A beginning is none. -/
theorem Law.cut (h : Law g p ok) {a : α} (ha : ok a) (k : Nat) (hk : k < (p a).length) : g ((p a).take k) = none := by
  cases hg : g ((p a).take k) with
  | none => rfl
  | some q =>
    obtain ⟨b, m⟩ := q
    obtain ⟨h1, h2, h3⟩ := h.some (fun x hx => h.bytes ha x (List.mem_of_mem_take hx)) hg
    rw [List.length_take] at h2
    rw [List.take_take, Nat.min_eq_left (by omega)] at h3
    have h4 := h.app (ys := (p a).drop m) h1 ((h.bytes ha).drop m)
    have h5 := h.app (ys := []) ha (fun x hx => by cases hx)
    rw [List.append_nil] at h5
    rw [h3, List.take_append_drop, h5] at h4
    injection h4 with h4
    injection h4 with h4 h6
    rw [List.length_take] at h6
    omega

/-- What is put of two is the same just if they are. -/
theorem Law.inj (h : Law g p ok) {a b : α} (ha : ok a) (hb : ok b) (e : p a = p b) : a = b := by
  have h1 := h.app (ys := []) ha (fun x hx => by cases hx)
  have h2 := h.app (ys := []) hb (fun x hx => by cases hx)
  rw [List.append_nil] at h1 h2
  rw [e, h2] at h1
  injection h1 with h1
  injection h1 with h1
  exact h1.symm

/-- One part, and then another one, that hangs on it. -/
def bind (g : List Int → Option (α × Nat)) (k : α → List Int → Option (β × Nat)) (xs : List Int) : Option ((α × β) × Nat) :=
  match g xs with
  | none => none
  | some (a, m) => match k a (xs.drop m) with
    | none => none
    | some (b, n) => some ((a, b), m + n)

theorem bind_none {k : α → List Int → Option (β × Nat)} {xs : List Int} (h : g xs = none) : bind g k xs = none := by rw [bind, h]
theorem bind_some {k : α → List Int → Option (β × Nat)} {xs : List Int} {a : α} {m : Nat} (h : g xs = some (a, m)) : bind g k xs = match k a (xs.drop m) with
    | none => none
    | some (b, n) => some ((a, b), m + n) := by rw [bind, h]

theorem Law.bind (h : Law g p ok) {k : α → List Int → Option (β × Nat)} {q : α → β → List Int} {ok2 : α → β → Prop} (h2 : ∀ a, ok a → Law (k a) (q a) (ok2 a)) :
    Law (Gr.bind g k) (fun x => p x.1 ++ q x.1 x.2) (fun x => ok x.1 ∧ ok2 x.1 x.2) where
  some := by
    intro xs x m hb hg
    unfold Gr.bind at hg
    cases h1 : g xs with
    | none => rw [h1] at hg; cases hg
    | some y =>
      obtain ⟨a, n⟩ := y
      rw [h1] at hg
      simp only at hg
      obtain ⟨a1, a2, a3⟩ := h.some hb h1
      cases h3 : k a (xs.drop n) with
      | none => rw [h3] at hg; cases hg
      | some z =>
        obtain ⟨b, j⟩ := z
        rw [h3] at hg
        simp only [Option.some.injEq, Prod.mk.injEq] at hg
        obtain ⟨rfl, rfl⟩ := hg
        obtain ⟨b1, b2, b3⟩ := (h2 a a1).some (hb.drop n) h3
        rw [List.length_drop] at b2
        refine ⟨⟨a1, b1⟩, by omega, ?_⟩
        simp only
        rw [a3, b3, ← List.take_add]
  app := by
    intro x ys hx hb
    obtain ⟨a, b⟩ := x
    simp only at hx ⊢
    have h3 := (h2 a hx.1).bytes hx.2
    rw [List.append_assoc, bind_some (h.app hx.1 (h3.app hb)), List.drop_left, (h2 a hx.1).app hx.2 hb]
    simp only [List.length_append]
  bytes := by
    intro x hx
    exact (h.bytes hx.1).app ((h2 _ hx.1).bytes hx.2)

/-- Nothing. -/
def unit (b : β) (_ : List Int) : Option (β × Nat) := some (b, 0)
theorem Law.unit (b : β) : Law (Gr.unit b) (fun _ => []) (fun x => x = b) where
  some := by
    intro xs a m _ h
    simp only [Gr.unit, Option.some.injEq, Prod.mk.injEq] at h
    obtain ⟨rfl, rfl⟩ := h
    exact ⟨rfl, Nat.zero_le _, rfl⟩
  app := by
    intro a ys ha _
    rw [ha]
    rfl
  bytes := by
    intro a _ x hx
    cases hx

/-- The same under another name. -/
def map (f : α → β) (g : List Int → Option (α × Nat)) (xs : List Int) : Option (β × Nat) :=
  match g xs with
  | none => none
  | some (a, m) => some (f a, m)

theorem Law.map (h : Law g p ok) (f : α → β) (i : β → α) {q : β → List Int} {ok2 : β → Prop} (hi : ∀ a, ok a → i (f a) = a) (hf : ∀ b, ok2 b → f (i b) = b ∧ ok (i b)) (hok : ∀ a, ok a → ok2 (f a)) (hq : ∀ b, ok2 b → q b = p (i b)) :
    Law (Gr.map f g) q ok2 where
  some := by
    intro xs b m hb hg
    unfold Gr.map at hg
    cases h1 : g xs with
    | none => rw [h1] at hg; cases hg
    | some y =>
      obtain ⟨a, n⟩ := y
      rw [h1] at hg
      simp only [Option.some.injEq, Prod.mk.injEq] at hg
      obtain ⟨rfl, rfl⟩ := hg
      obtain ⟨a1, a2, a3⟩ := h.some hb h1
      exact ⟨hok a a1, a2, by rw [hq _ (hok a a1), hi a a1, a3]⟩
  app := by
    intro b ys hb hy
    obtain ⟨h1, h2⟩ := hf b hb
    unfold Gr.map
    rw [hq b hb, h.app h2 hy]
    simp only [h1]
  bytes := by
    intro b hb
    rw [hq b hb]
    exact h.bytes (hf b hb).2

/-- Only what may be. -/
def only (ok : α → Prop) [DecidablePred ok] (g : List Int → Option (α × Nat)) (xs : List Int) : Option (α × Nat) :=
  match g xs with
  | none => none
  | some (a, m) => if ok a then some (a, m) else none

theorem Law.only (h : Law g p ok) (ok2 : α → Prop) [DecidablePred ok2] : Law (Gr.only ok2 g) p (fun a => ok a ∧ ok2 a) where
  some := by
    intro xs a m hb hg
    unfold Gr.only at hg
    cases h1 : g xs with
    | none => rw [h1] at hg; cases hg
    | some y =>
      obtain ⟨b, n⟩ := y
      rw [h1] at hg
      simp only at hg
      split at hg
      · rename_i h2
        simp only [Option.some.injEq, Prod.mk.injEq] at hg
        obtain ⟨rfl, rfl⟩ := hg
        obtain ⟨a1, a2, a3⟩ := h.some hb h1
        exact ⟨⟨a1, h2⟩, a2, a3⟩
      · cases hg
  app := by
    intro a ys ha hb
    unfold Gr.only
    rw [h.app ha.1 hb]
    simp only [if_pos ha.2]
  bytes := fun ha => h.bytes ha.1

/-- So many of them. -/
def many (g : List Int → Option (α × Nat)) : Nat → List Int → Option (List α × Nat)
  | 0, _ => some ([], 0)
  | n + 1, xs => match g xs with
    | none => none
    | some (a, m) => match many g n (xs.drop m) with
      | none => none
      | some (l, k) => some (a :: l, m + k)

def puts (p : α → List Int) : List α → List Int
  | [] => []
  | a :: l => p a ++ puts p l

theorem puts_app (l m : List α) : puts p (l ++ m) = puts p l ++ puts p m := by
  induction l with
  | nil => rfl
  | cons a l ih => simp only [List.cons_append, puts, ih, List.append_assoc]
theorem puts_snoc (l : List α) (a : α) : puts p (l ++ [a]) = puts p l ++ p a := by rw [puts_app, puts, puts, List.append_nil]

theorem Law.many (h : Law g p ok) : ∀ n : Nat, Law (Gr.many g n) (puts p) (fun l => l.length = n ∧ ∀ a ∈ l, ok a)
  | 0 => {
      some := by
        intro xs l m _ hg
        simp only [Gr.many, Option.some.injEq, Prod.mk.injEq] at hg
        obtain ⟨rfl, rfl⟩ := hg
        exact ⟨⟨rfl, fun a ha => by cases ha⟩, Nat.zero_le _, rfl⟩
      app := by
        intro l ys hl _
        obtain rfl := List.length_eq_zero_iff.1 hl.1
        rfl
      bytes := by
        intro l hl x hx
        obtain rfl := List.length_eq_zero_iff.1 hl.1
        cases hx }
  | n + 1 => {
      some := by
        intro xs l m hb hg
        simp only [Gr.many] at hg
        cases h1 : g xs with
        | none => rw [h1] at hg; cases hg
        | some y =>
          obtain ⟨a, j⟩ := y
          rw [h1] at hg
          simp only at hg
          obtain ⟨a1, a2, a3⟩ := h.some hb h1
          cases h3 : Gr.many g n (xs.drop j) with
          | none => rw [h3] at hg; cases hg
          | some z =>
            obtain ⟨r, k⟩ := z
            rw [h3] at hg
            simp only [Option.some.injEq, Prod.mk.injEq] at hg
            obtain ⟨rfl, rfl⟩ := hg
            obtain ⟨⟨b1, b1'⟩, b2, b3⟩ := (Law.many h n).some (hb.drop j) h3
            rw [List.length_drop] at b2
            refine ⟨⟨by rw [List.length_cons, b1], fun x hx => ?_⟩, by omega, ?_⟩
            · rcases List.mem_cons.1 hx with rfl | hx
              · exact a1
              · exact b1' x hx
            · rw [puts, a3, b3, ← List.take_add]
      app := by
        intro l ys hl hb
        obtain ⟨h1, h2⟩ := hl
        match l, h1 with
        | a :: r, h1 =>
          have ha := h2 a (List.mem_cons_self ..)
          have hr : r.length = n ∧ ∀ x ∈ r, ok x := ⟨by simpa using h1, fun x hx => h2 x (List.mem_cons_of_mem _ hx)⟩
          have hm := Law.many h n
          simp only [puts, Gr.many]
          rw [List.append_assoc, h.app ha ((hm.bytes hr).app hb)]
          simp only
          rw [List.drop_left, hm.app hr hb]
          simp only [List.length_append]
      bytes := by
        intro l hl
        obtain ⟨h1, h2⟩ := hl
        match l, h1 with
        | a :: r, h1 =>
          exact (h.bytes (h2 a (List.mem_cons_self ..))).app ((Law.many h n).bytes ⟨by simpa using h1, fun x hx => h2 x (List.mem_cons_of_mem _ hx)⟩) }
end

/-- A number that is at most another one. -/
def num (most : Nat) (xs : List Int) : Option (Nat × Nat) :=
  match getS xs with
  | none => none
  | some (n, u) => if n ≤ most then some (n, u) else none

theorem law_num {most : Nat} (hm : most < 18446744073709551616) : Law (num most) putL (fun n => n ≤ most) where
  some := by
    intro xs n m hb hg
    unfold num at hg
    cases h1 : getS xs with
    | none => rw [h1] at hg; cases hg
    | some y =>
      obtain ⟨v, u⟩ := y
      rw [h1] at hg
      simp only at hg
      split at hg
      · rename_i h2
        simp only [Option.some.injEq, Prod.mk.injEq] at hg
        obtain ⟨rfl, rfl⟩ := hg
        obtain ⟨b1, b2, b3⟩ := (getS_iff _ hb v u).1 h1
        exact ⟨h2, b2, b3.symm ▸ rfl⟩
      · cases hg
  app := by
    intro n ys hn hb
    unfold num
    rw [getS_put (by omega) ys hb]
    simp only [if_pos hn]
  bytes := fun _ => putL_bytes _

/-- A name's text. -/
theorem law_name : Law gN pn (fun s => s.size ≤ 12) where
  some := fun hb h => gN_some hb h
  app := fun h hb => gN_app h hb
  bytes := fun _ => pn_bytes _

/-- An expression. -/
theorem law_expr : Law ExM.gL ExM.pL (fun l => ExM.May l ∧ ExM.Rngs l) where
  some := fun hb h => by
    obtain ⟨h1, h2, h3, h4⟩ := ExM.gL_some hb h
    exact ⟨⟨h1, h2⟩, h3, h4⟩
  app := fun h hb => ExM.gL_app h.1 h.2 hb
  bytes := fun h => ExM.pL_bytes h.1
end Go.Proofs.Ytochpomddfjkoaa.Gr
