/- Slices of slices of bytes in memory: what they hold, what is kept, an append; no function of the program; nothing is asked. -/
import Derived.Test.YtjbpacciaeifaaaSlB
import Derived.Maps.AppendAt
import Derived.WalkSmall
namespace Go.Proofs.Ytjbpacciaeifaaa.LM
open Go.RowKit Go.Proofs.Ytjbpacciaeifaaa.BM

theorem info_sl : (Try.prog.info? 25).map (fun i => (i.zero, i.size, i.bytes)) = some (some (.slice none 0 0), 1, 24) := by kernel_rfl

/-- An element: a slice of bytes; p tells of the block in which its bytes lie. -/
def El (p : Nat → Prop) (w : World) (v : Value) (xs : List Int) : Prop :=
  ∃ A c, v = .slice A xs.length c ∧ SlB w A xs c ∧ (0 < xs.length → ∃ b o, A = some ⟨b, o, none⟩ ∧ p b ∧ b < w.heap.size)

theorem El.mono {p q : Nat → Prop} {w : World} {v : Value} {xs : List Int} (h : El p w v xs) (k : ∀ b, b < w.heap.size → p b → q b) : El q w v xs := by
  obtain ⟨A, c, h1, h2, h3⟩ := h
  refine ⟨A, c, h1, h2, fun hx => ?_⟩
  obtain ⟨b, o, e, hp, hb⟩ := h3 hx
  exact ⟨b, o, e, k b hb hp, hb⟩

theorem El.kept {p : Nat → Prop} {w w' : World} {v : Value} {xs : List Int} (h : El p w v xs) (hb : Below w.heap.size w w') : El p w' v xs := by
  obtain ⟨A, c, h1, h2, h3⟩ := h
  refine ⟨A, c, h1, h2.kept hb, fun hx => ?_⟩
  obtain ⟨b, o, e, hp, hlt⟩ := h3 hx
  exact ⟨b, o, e, hp, Nat.lt_of_lt_of_le hlt hb.size⟩

theorem El.grown {p : Nat → Prop} {w w' : World} {r : Option Nat} {v : Value} {xs : List Int} (h : El p w v xs) (hg : w.grownBy w' r) (hp : ∀ b, p b → some b ≠ r) : El p w' v xs := by
  obtain ⟨A, c, h1, h2, h3⟩ := h
  refine ⟨A, c, h1, ⟨⟨h2.1.1, fun hx => ?_⟩, h2.2⟩, fun hx => ?_⟩
  · obtain ⟨b, o, e, hpb, hlt⟩ := h3 hx
    obtain ⟨b', o', e', hc⟩ := h2.1.2 hx
    refine ⟨b', o', e', fun j hj => ?_⟩
    have hbb : b' = b := by
      rw [e] at e'
      injection e' with e'
      injection e' with e1 _
      exact e1.symm
    subst hbb
    exact hg.cell (hc j hj) (hp _ hpb)
  · obtain ⟨b, o, e, hpb, hlt⟩ := h3 hx
    exact ⟨b, o, e, hpb, Nat.lt_of_lt_of_le hlt hg.size⟩

/-- A list of them. -/
def Els (p : Nat → Prop) (w : World) : List Value → List (List Int) → Prop
  | [], [] => True
  | v :: vs, x :: xs => El p w v x ∧ Els p w vs xs
  | [], _ :: _ => False
  | _ :: _, [] => False

theorem Els.len {p : Nat → Prop} {w : World} : ∀ {vs : List Value} {ls : List (List Int)}, Els p w vs ls → vs.length = ls.length
  | [], [], _ => rfl
  | _ :: vs, _ :: ls, h => by rw [List.length_cons, List.length_cons, Els.len h.2]
  | [], _ :: _, h => h.elim
  | _ :: _, [], h => h.elim

theorem Els.map {p q : Nat → Prop} {w w' : World} (k : ∀ v xs, El p w v xs → El q w' v xs) : ∀ {vs : List Value} {ls : List (List Int)}, Els p w vs ls → Els q w' vs ls
  | [], [], _ => trivial
  | _ :: _, _ :: _, h => ⟨k _ _ h.1, Els.map k h.2⟩
  | [], _ :: _, h => h.elim
  | _ :: _, [], h => h.elim

theorem Els.app {p : Nat → Prop} {w : World} {us : List Value} {ms : List (List Int)} (k : Els p w us ms) : ∀ {vs : List Value} {ls : List (List Int)}, Els p w vs ls → Els p w (vs ++ us) (ls ++ ms)
  | [], [], _ => k
  | _ :: _, _ :: _, h => ⟨h.1, Els.app k h.2⟩
  | [], _ :: _, h => h.elim
  | _ :: _, [], h => h.elim

theorem Els.at {p : Nat → Prop} {w : World} : ∀ {vs : List Value} {ls : List (List Int)}, Els p w vs ls → ∀ j, j < ls.length → ∃ v, vs[j]? = some v ∧ El p w v (ls.getD j [])
  | [], [], _, j, hj => by simp at hj
  | v :: vs, x :: ls, h, 0, _ => ⟨v, rfl, h.1⟩
  | v :: vs, x :: ls, h, j + 1, hj => by
    obtain ⟨u, h1, h2⟩ := Els.at h.2 j (by simpa using hj)
    exact ⟨u, by simpa using h1, by simpa using h2⟩
  | [], _ :: _, h, _, _ => h.elim
  | _ :: _, [], h, _, _ => h.elim

theorem Els.one {p : Nat → Prop} {w : World} {vs : List Value} {ls : List (List Int)} (h : Els p w vs ls) : ∀ u ∈ vs, u.oneCell' = true := by
  intro u hu
  obtain ⟨j, hj, rfl⟩ := List.getElem_of_mem hu
  obtain ⟨v, h1, h2⟩ := h.at j (by rw [← h.len]; exact hj)
  rw [List.getElem?_eq_getElem hj] at h1
  injection h1 with h1
  obtain ⟨A, c, e, _⟩ := h2
  rw [h1, e]
  rfl

/-- A row of values lies at an address. -/
def IsRow (w : World) (A : Option Addr) (vs : List Value) : Prop := 0 < vs.length → ∃ b o, A = some ⟨b, o, none⟩ ∧ ∀ j u, vs[j]? = some u → w.cell? ⟨b, o + j, none⟩ = some u

theorem IsRow.kept {w w' : World} {A : Option Addr} {vs : List Value} (h : IsRow w A vs) (hb : Below w.heap.size w w') : IsRow w' A vs := by
  intro hx
  obtain ⟨b, o, e, hc⟩ := h hx
  refine ⟨b, o, e, fun j u hj => ?_⟩
  have hcell := hc j u hj
  rw [hb.cell (p := ⟨b, o + j, none⟩) (World.block_lt_of_cell? w _ hcell)]
  exact hcell

theorem own_isRow {w : World} {base n : Nat} {A : Option Addr} {m c : Nat} {vs : List Value} (h : w.ownsRow base 25 1 (.slice A m c) n vs) : IsRow w A vs := by
  intro hx
  rcases h.2 with ⟨hv, h0⟩ | ⟨g, cap, cur, hv, hg, hh, hcap, hmx, hrest⟩
  · have h1 := h.1
    omega
  · injection hv with e1 e2 e3
    subst e1
    refine ⟨g, 0, rfl, fun j u hj => ?_⟩
    have hc := h.cells (g := g) rfl j u hj
    rwa [Addr.add_lit] at hc

/-- A slice of slices of bytes. -/
def IsL (p : Nat → Prop) (w : World) (A : Option Addr) (c : Nat) (ls : List (List Int)) : Prop := (∃ vs, IsRow w A vs ∧ Els p w vs ls) ∧ ls.length ≤ c ∧ (A = none → c = 0) ∧ c ≤ maxLen

theorem IsL.kept {p : Nat → Prop} {w w' : World} {A : Option Addr} {c : Nat} {ls : List (List Int)} (h : IsL p w A c ls) (hb : Below w.heap.size w w') : IsL p w' A c ls := by
  obtain ⟨⟨vs, h1, h2⟩, h3⟩ := h
  exact ⟨⟨vs, h1.kept hb, h2.map fun _ _ h => h.kept hb⟩, h3⟩

theorem IsL.mono {p q : Nat → Prop} {w : World} {A : Option Addr} {c : Nat} {ls : List (List Int)} (h : IsL p w A c ls) (k : ∀ b, b < w.heap.size → p b → q b) : IsL q w A c ls := by
  obtain ⟨⟨vs, h1, h2⟩, h3⟩ := h
  exact ⟨⟨vs, h1, h2.map fun _ _ h => h.mono k⟩, h3⟩

theorem isL_none (p : Nat → Prop) (w : World) : IsL p w none 0 [] := ⟨⟨[], (fun h => by simp at h), trivial⟩, Nat.le_refl _, (fun _ => rfl), Nat.zero_le _⟩

/-- The j-th of them. -/
theorem IsL.at {p : Nat → Prop} {w : World} {A : Option Addr} {c : Nat} {ls : List (List Int)} (h : IsL p w A c ls) (j : Nat) (hj : j < ls.length) :
    ∃ b o A' c', A = some ⟨b, o, none⟩ ∧ w.cell? ⟨b, o + j, none⟩ = some (.slice A' (ls.getD j []).length c') ∧ SlB w A' (ls.getD j []) c' := by
  obtain ⟨⟨vs, h1, h2⟩, h3⟩ := h
  obtain ⟨b, o, e, hc⟩ := h1 (by rw [h2.len]; omega)
  obtain ⟨v, hv, A', c', he, hs, _⟩ := h2.at j hj
  rw [he] at hv
  exact ⟨b, o, A', c', e, hc j _ hv, hs⟩

/-- The block of a row of the call's own is none of these. -/
def ne (v : Value) (b : Nat) : Prop := some b ≠ v.ownBlock

theorem ne_fresh {w : World} {v v' : Value} (h : v'.ownBlock = v.ownBlock ∨ v'.ownBlock = some w.heap.size) (b : Nat) (hb : b < w.heap.size) (hn : ne v b) : ne v' b := by
  unfold ne at hn ⊢
  rcases h with h | h
  · rw [h]
    exact hn
  · rw [h]
    intro e
    injection e with e
    omega

/-- append onto slices of bytes that are owned, whatever the source. -/
theorem wp_append_l {w : World} {ops : Array Oper} {rest : List Oper} {o : Oper} {a : Act} {Q : Exit → Act → World → Prop} (hgd : o.guard = none) (s x : Operand)
    (ho : o.op = .call { callee := .builtin .append, args := #[s, x], argTypes := #[59, 59] })
    (base : Nat) (v : Value) (n : Nat) (vs : List Value) (ls : List (List Int)) (hs : a.eval s = v) (hown : w.ownsRow base 25 1 v n vs) (hE : Els (ne v) w vs ls)
    (A : Option Addr) (m c : Nat) (us : List Value) (ms : List (List Int)) (hx : a.eval x = .slice A m c) (hm : us.length = m) (hR : IsRow w A us) (hF : Els (ne v) w us ms) (hnil : A = none → c = 0)
    (hsz : n + m ≤ 1000000000) (hbase : base ≤ w.heap.size)
    (h : ∀ v' w', w'.ownsRow base 25 1 v' (n + m) (vs ++ us) → Els (ne v') w' (vs ++ us) (ls ++ ms) → w.grownBy w' v.ownBlock → (v'.ownBlock = v.ownBlock ∨ v'.ownBlock = some w.heap.size) → wpList Try.prog ops Q rest (a.put o.dst v') w') : wpList Try.prog ops Q (o :: rest) a w := by
  obtain ⟨i0, hi, hz0, hz1, hz2⟩ := info_parts info_sl
  match A, hx, hR, hnil with
  | none, hx, hR, hnil =>
    have hy : us = [] := by
      rcases Nat.eq_zero_or_pos us.length with h0 | h0
      · exact List.eq_nil_of_length_eq_zero h0
      · obtain ⟨b, q, he, _⟩ := hR h0
        cases he
    subst hy
    simp only [List.length_nil] at hm
    subst hm
    obtain rfl := hnil rfl
    have hms : ms = [] := by
      have := hF.len
      exact List.eq_nil_of_length_eq_zero this.symm
    subst hms
    refine wpList_append_own_none hgd s x 59 ho base 25 i0 1 Try.underlying59 hi v n vs hs hown hx (h v w ?_ ?_ (World.grownBy.refl _ _) (Or.inl rfl))
    · simpa using hown
    · simpa using hE
  | some ad, hx, hR, _ =>
    refine wpList_append_own_at w hgd s x 59 ho base 25 i0 (.slice none 0 0) 1 24 Try.underlying59 hi hz0 hz1 hz2 rfl (by decide) v n vs hs hown ad m c us hx (by rw [hm, Nat.mul_one]) ?_ hF.one (by unfold maxLen; omega) (by omega) hbase ?_
    · intro j u hj
      have hjl : j < us.length := (List.getElem?_eq_some_iff.1 hj).1
      obtain ⟨b, q, he, hc⟩ := hR (by omega)
      injection he with he
      subst he
      rw [Addr.add_lit]
      exact hc j u hj
    · intro v' w' h1 h2 _ h4
      refine h v' w' h1 ?_ h2 h4
      have hall := Els.app hF hE
      exact (hall.map fun _ _ e => e.mono fun b hb hn => (⟨hn, hb⟩ : ne v b ∧ b < w.heap.size)).map fun _ _ e => (e.grown h2 fun b hb => hb.1).mono fun b _ hb => ne_fresh h4 b hb.2 hb.1

/-- append onto slices of bytes that are owned, whatever the source; p0 tells more of the blocks. -/
theorem wp_append_lp (p0 : Nat → Prop) {w : World} {ops : Array Oper} {rest : List Oper} {o : Oper} {a : Act} {Q : Exit → Act → World → Prop} (hgd : o.guard = none) (s x : Operand)
    (ho : o.op = .call { callee := .builtin .append, args := #[s, x], argTypes := #[59, 59] })
    (base : Nat) (v : Value) (n : Nat) (vs : List Value) (ls : List (List Int)) (hs : a.eval s = v) (hown : w.ownsRow base 25 1 v n vs) (hE : Els (fun b => p0 b ∧ ne v b) w vs ls)
    (A : Option Addr) (m c : Nat) (us : List Value) (ms : List (List Int)) (hx : a.eval x = .slice A m c) (hm : us.length = m) (hR : IsRow w A us) (hF : Els (fun b => p0 b ∧ ne v b) w us ms) (hnil : A = none → c = 0)
    (hsz : n + m ≤ 1000000000) (hbase : base ≤ w.heap.size)
    (h : ∀ v' w', w'.ownsRow base 25 1 v' (n + m) (vs ++ us) → Els (fun b => p0 b ∧ ne v' b) w' (vs ++ us) (ls ++ ms) → w.grownBy w' v.ownBlock → (v'.ownBlock = v.ownBlock ∨ v'.ownBlock = some w.heap.size) → wpList Try.prog ops Q rest (a.put o.dst v') w') : wpList Try.prog ops Q (o :: rest) a w := by
  obtain ⟨i0, hi, hz0, hz1, hz2⟩ := info_parts info_sl
  match A, hx, hR, hnil with
  | none, hx, hR, hnil =>
    have hy : us = [] := by
      rcases Nat.eq_zero_or_pos us.length with h0 | h0
      · exact List.eq_nil_of_length_eq_zero h0
      · obtain ⟨b, q, he, _⟩ := hR h0
        cases he
    subst hy
    simp only [List.length_nil] at hm
    subst hm
    obtain rfl := hnil rfl
    have hms : ms = [] := by
      have := hF.len
      exact List.eq_nil_of_length_eq_zero this.symm
    subst hms
    refine wpList_append_own_none hgd s x 59 ho base 25 i0 1 Try.underlying59 hi v n vs hs hown hx (h v w ?_ ?_ (World.grownBy.refl _ _) (Or.inl rfl))
    · simpa using hown
    · simpa using hE
  | some ad, hx, hR, _ =>
    refine wpList_append_own_at w hgd s x 59 ho base 25 i0 (.slice none 0 0) 1 24 Try.underlying59 hi hz0 hz1 hz2 rfl (by decide) v n vs hs hown ad m c us hx (by rw [hm, Nat.mul_one]) ?_ hF.one (by unfold maxLen; omega) (by omega) hbase ?_
    · intro j u hj
      have hjl : j < us.length := (List.getElem?_eq_some_iff.1 hj).1
      obtain ⟨b, q, he, hc⟩ := hR (by omega)
      injection he with he
      subst he
      rw [Addr.add_lit]
      exact hc j u hj
    · intro v' w' h1 h2 _ h4
      refine h v' w' h1 ?_ h2 h4
      have hall := Els.app hF hE
      exact (hall.map fun _ _ e => e.mono fun b hb hn => (⟨hn, hb⟩ : (p0 b ∧ ne v b) ∧ b < w.heap.size)).map fun _ _ e => (e.grown h2 fun b hb => hb.1.2).mono fun b _ hb => ⟨hb.1.1, ne_fresh h4 b hb.2 hb.1.2⟩
end Go.Proofs.Ytjbpacciaeifaaa.LM
