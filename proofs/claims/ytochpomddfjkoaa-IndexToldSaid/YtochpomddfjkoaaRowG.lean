/- Slices of structs of whatever element, in memory: what they hold, what is kept, an element, cuts, an append; blocks of several cells. No function of the program; nothing is asked. -/
import Derived.Test.YtochpomddfjkoaaIsRow
import Derived.Maps.AppendAt
import Derived.WalkSmall
namespace Go.Proofs.Ytochpomddfjkoaa.RG
open Go.RowKit Go.Proofs.Ytochpomddfjkoaa.BM Go.Proofs.Ytochpomddfjkoaa.LM

/-- How an element lies: how many cells it has, and which ones, in a world; p tells of the blocks to which these lead. -/
structure Kind (α : Type) where
  size : Nat
  rel : (Nat → Prop) → World → α → List Value → Prop
  len : ∀ {p : Nat → Prop} {w : World} {a : α} {cs : List Value}, rel p w a cs → cs.length = size
  one : ∀ {p : Nat → Prop} {w : World} {a : α} {cs : List Value}, rel p w a cs → ∀ u ∈ cs, u.oneCell' = true
  mono : ∀ {p q : Nat → Prop} {w : World} {a : α} {cs : List Value}, rel p w a cs → (∀ b, b < w.heap.size → p b → q b) → rel q w a cs
  kept : ∀ {p : Nat → Prop} {w w' : World} {a : α} {cs : List Value}, rel p w a cs → Below w.heap.size w w' → rel p w' a cs
  grown : ∀ {p : Nat → Prop} {w w' : World} {r : Option Nat} {a : α} {cs : List Value}, rel p w a cs → w.grownBy w' r → (∀ b, p b → some b ≠ r) → rel p w' a cs

/-- An element that leads nowhere. -/
def flat {α : Type} (size : Nat) (enc : α → List Value) (hl : ∀ a, (enc a).length = size) (h1 : ∀ a, ∀ u ∈ enc a, u.oneCell' = true) : Kind α where
  size := size
  rel := fun _ _ a cs => cs = enc a
  len := fun h => h ▸ hl _
  one := fun h => h ▸ h1 _
  mono := fun h _ => h
  kept := fun h _ => h
  grown := fun h _ _ => h

/-- Elements' cells, one behind the other. -/
def Elems {α : Type} (K : Kind α) (p : Nat → Prop) (w : World) : List α → List Value → Prop
  | [], vs => vs = []
  | a :: l, vs => ∃ cs rest, vs = cs ++ rest ∧ K.rel p w a cs ∧ Elems K p w l rest

section
variable {α : Type} {K : Kind α} {p q : Nat → Prop} {w w' : World}

theorem Elems.map (k : ∀ a cs, K.rel p w a cs → K.rel q w' a cs) : ∀ {l : List α} {vs : List Value}, Elems K p w l vs → Elems K q w' l vs
  | [], _, h => h
  | _ :: _, _, ⟨cs, rest, e, h1, h2⟩ => ⟨cs, rest, e, k _ _ h1, Elems.map k h2⟩

theorem Elems.len : ∀ {l : List α} {vs : List Value}, Elems K p w l vs → vs.length = l.length * K.size
  | [], vs, h => by rw [show vs = [] from h]; simp
  | a :: l, vs, ⟨cs, rest, e, h1, h2⟩ => by rw [e, List.length_append, K.len h1, h2.len, List.length_cons, Nat.add_mul, Nat.one_mul, Nat.add_comm]

theorem Elems.one : ∀ {l : List α} {vs : List Value}, Elems K p w l vs → ∀ u ∈ vs, u.oneCell' = true
  | [], vs, h, u, hu => by rw [show vs = [] from h] at hu; cases hu
  | a :: l, vs, ⟨cs, rest, e, h1, h2⟩, u, hu => by
    rw [e] at hu
    rcases List.mem_append.1 hu with hu | hu
    · exact K.one h1 u hu
    · exact h2.one u hu

theorem Elems.app {m : List α} {us : List Value} (k : Elems K p w m us) : ∀ {l : List α} {vs : List Value}, Elems K p w l vs → Elems K p w (l ++ m) (vs ++ us)
  | [], vs, h => by rw [show vs = [] from h]; exact k
  | a :: l, vs, ⟨cs, rest, e, h1, h2⟩ => ⟨cs, rest ++ us, by rw [e, List.append_assoc], h1, Elems.app k h2⟩

theorem Elems.take : ∀ (i : Nat) {l : List α} {vs : List Value}, Elems K p w l vs → Elems K p w (l.take i) (vs.take (i * K.size))
  | 0, l, vs, _ => by simp [Elems]
  | i + 1, [], vs, h => by rw [show vs = [] from h]; simp [Elems]
  | i + 1, a :: l, vs, ⟨cs, rest, e, h1, h2⟩ => by
    have hl := K.len h1
    refine ⟨cs, rest.take (i * K.size), ?_, h1, h2.take i⟩
    rw [e, Nat.add_mul, Nat.one_mul, List.take_append, hl, Nat.add_sub_cancel]
    rw [List.take_of_length_le (by omega)]

theorem Elems.drop : ∀ (i : Nat) {l : List α} {vs : List Value}, Elems K p w l vs → Elems K p w (l.drop i) (vs.drop (i * K.size))
  | 0, l, vs, h => by simpa using h
  | i + 1, [], vs, h => by rw [show vs = [] from h]; simp [Elems]
  | i + 1, a :: l, vs, ⟨cs, rest, e, h1, h2⟩ => by
    have hl := K.len h1
    have h3 := h2.drop i
    rw [List.drop_succ_cons, e, Nat.add_mul, Nat.one_mul, List.drop_append, hl, Nat.add_sub_cancel, List.drop_of_length_le (l := cs) (i := i * K.size + K.size) (by omega), List.nil_append]
    exact h3

/-- The j-th element's cells. -/
theorem Elems.at : ∀ (j : Nat) {l : List α} {vs : List Value}, Elems K p w l vs → ∀ a, l[j]? = some a → ∃ cs, K.rel p w a cs ∧ ∀ i u, cs[i]? = some u → vs[j * K.size + i]? = some u
  | j, [], vs, _, a, ha => by simp at ha
  | 0, b :: l, vs, ⟨cs, rest, e, h1, _⟩, a, ha => by
    obtain rfl : b = a := by simpa using ha
    refine ⟨cs, h1, fun i u hu => ?_⟩
    rw [e, Nat.zero_mul, Nat.zero_add, List.getElem?_append_left (List.getElem?_eq_some_iff.1 hu).1]
    exact hu
  | j + 1, b :: l, vs, ⟨cs, rest, e, h1, h2⟩, a, ha => by
    obtain ⟨ds, g1, g2⟩ := h2.at j a (by simpa using ha)
    refine ⟨ds, g1, fun i u hu => ?_⟩
    have hl := K.len h1
    rw [e, List.getElem?_append_right (by rw [Nat.add_mul]; omega), show (j + 1) * K.size + i - cs.length = j * K.size + i from by rw [Nat.add_mul, hl]; omega]
    exact g2 i u hu
end

/-- A slice of elements: where it lies, its length and its capacity. -/
def SlG {α : Type} (K : Kind α) (p : Nat → Prop) (w : World) (A : Option Addr) (l : List α) (c : Nat) : Prop := (∃ vs, IsRow w A vs ∧ Elems K p w l vs) ∧ l.length ≤ c ∧ (A = none → c = 0) ∧ c ≤ maxLen

section
variable {α : Type} {K : Kind α} {p q : Nat → Prop} {w w' : World} {A : Option Addr} {l : List α} {c : Nat}

theorem SlG.kept (h : SlG K p w A l c) (hb : Below w.heap.size w w') : SlG K p w' A l c := by
  obtain ⟨⟨vs, h1, h2⟩, h3⟩ := h
  exact ⟨⟨vs, h1.kept hb, h2.map fun _ _ h => K.kept h hb⟩, h3⟩

theorem SlG.mono (h : SlG K p w A l c) (k : ∀ b, b < w.heap.size → p b → q b) : SlG K q w A l c := by
  obtain ⟨⟨vs, h1, h2⟩, h3⟩ := h
  exact ⟨⟨vs, h1, h2.map fun _ _ h => K.mono h k⟩, h3⟩

theorem slG_none (K : Kind α) (p : Nat → Prop) (w : World) : SlG K p w none [] 0 := ⟨⟨[], (fun h => absurd h (Nat.not_lt_zero _)), rfl⟩, Nat.le_refl _, fun _ => rfl, Nat.zero_le _⟩

theorem slG_len (h : SlG K p w A l c) : l.length ≤ 9223372036854775807 := by
  have h1 := h.2.1
  have h2 := h.2.2.2
  unfold maxLen at h2
  omega

theorem SlG.take (h : SlG K p w A l c) (i : Nat) : SlG K p w A (l.take i) c := by
  obtain ⟨⟨vs, h1, h2⟩, h3, h4⟩ := h
  refine ⟨⟨vs.take (i * K.size), fun hx => ?_, h2.take i⟩, by rw [List.length_take]; omega, h4⟩
  rw [List.length_take] at hx
  obtain ⟨b, o, e, hc⟩ := h1 (by omega)
  refine ⟨b, o, e, fun j u hj => hc j u ?_⟩
  rw [List.getElem?_take] at hj
  split at hj
  · exact hj
  · cases hj

/-- The j-th of them, in whatever world comes later. -/
theorem SlG.at (h : SlG K p w A l c) (hs : 0 < K.size) (j : Nat) (a : α) (ha : l[j]? = some a) :
    ∃ b o cs, A = some ⟨b, o, none⟩ ∧ ∀ W, Below w.heap.size w W → K.rel p W a cs ∧ ∀ i u, cs[i]? = some u → W.cell? ⟨b, o + j * K.size + i, none⟩ = some u := by
  obtain ⟨⟨vs, h1, h2⟩, h3⟩ := h
  obtain ⟨cs, g1, g2⟩ := h2.at j a ha
  have hl := K.len g1
  have h0 : 0 < vs.length := by
    have hv := g2 0 (cs[0]'(by omega)) (List.getElem?_eq_getElem _)
    have := (List.getElem?_eq_some_iff.1 hv).1
    omega
  obtain ⟨b, o, e, hc⟩ := h1 h0
  refine ⟨b, o, cs, e, fun W hW => ⟨K.kept g1 hW, fun i u hu => ?_⟩⟩
  have h4 := hc _ u (g2 i u hu)
  rw [← Nat.add_assoc] at h4
  rw [hW.cell (p := ⟨b, o + j * K.size + i, none⟩) (World.block_lt_of_cell? w _ h4)]
  exact h4

/-- Elements elsewhere stay. -/
theorem SlG.grown {b : Nat} (h : SlG K p w A l c) (hg : w.grownBy w' (some b)) (hA : ∀ a, A = some a → a.block ≠ b) (hp : ∀ k, p k → k ≠ b) : SlG K p w' A l c := by
  obtain ⟨⟨vs, h1, h2⟩, h3⟩ := h
  refine ⟨⟨vs, fun hx => ?_, h2.map fun _ _ h => K.grown h hg (fun k hk e => hp k hk (by injection e))⟩, h3⟩
  obtain ⟨g, o, e, hc⟩ := h1 hx
  exact ⟨g, o, e, fun j u hj => hg.cell (hc j u hj) (fun e' => hA _ e (by injection e'))⟩
end

/-- What is owned is a slice. -/
theorem own_is {w : World} {base n size : Nat} {e : TypeId} {v : Value} {xs : List Value} (h : w.ownsRow base e size v n xs) : ∃ A c, v = .slice A n c := by
  rcases h.2 with ⟨rfl, rfl⟩ | ⟨g, cap, cur, rfl, _⟩
  · exact ⟨none, 0, rfl⟩
  · exact ⟨_, cap, rfl⟩

/-- What is owned reads as a slice of elements. -/
theorem own_slG {α : Type} {K : Kind α} {p : Nat → Prop} {w : World} {base n : Nat} {e : TypeId} {v : Value} {l : List α} {vs : List Value} (h : w.ownsRow base e K.size v n vs) (hE : Elems K p w l vs) (hs : 0 < K.size) :
    ∃ A c, v = .slice A l.length c ∧ n = l.length ∧ SlG K p w A l c ∧ (∀ a, A = some a → a.spot = none ∧ base ≤ a.block ∧ a.block < w.heap.size) := by
  have hl : l.length = n := by
    have h1 := h.1
    rw [hE.len] at h1
    exact Nat.eq_of_mul_eq_mul_right hs h1
  subst hl
  rcases h.2 with ⟨hv, h0⟩ | ⟨g, cap, cur, rfl, hg, hh, hcap, hmx, hrest⟩
  · subst hv
    have hn : vs = [] := List.eq_nil_of_length_eq_zero (by rw [h.1, h0, Nat.zero_mul])
    refine ⟨none, 0, by rw [h0], rfl, ⟨⟨vs, (fun hx => by rw [hn] at hx; exact absurd hx (Nat.not_lt_zero _)), hE⟩, by omega, fun _ => rfl, Nat.zero_le _⟩, fun a ha => by cases ha⟩
  · refine ⟨some ⟨g, 0, none⟩, cap, rfl, rfl, ⟨⟨vs, fun _ => ⟨g, 0, rfl, fun j u hj => ?_⟩, hE⟩, hcap, (fun h => by cases h), hmx⟩, fun a ha => ?_⟩
    · have hc := h.cells (g := g) rfl j u hj
      rwa [Addr.add_lit] at hc
    · injection ha with ha
      subst ha
      exact ⟨rfl, hg, (h.lt g rfl).2⟩

/-- What the program says of a slice's type. -/
structure Ty (t e : TypeId) (size bytes : Nat) (z : Value) : Prop where
  und : Try.prog.underlying t = some (.slice e)
  elem : Try.prog.elem t = e
  info : (Try.prog.info? e).map (fun i => (i.zero, i.size, i.bytes)) = some (some z, size, bytes)
  run : ∀ w, (sizeOf e).run Try.prog w = .ok size w
  zs : z.cells.size = size
  pos : 0 < size
  small : bytes ≤ 1000

theorem Ty.elem' {t e : TypeId} {size bytes : Nat} {z : Value} (h : Ty t e size bytes z) : Try.prog.underlying t = some (.slice (Try.prog.elem t)) := by rw [h.elem]; exact h.und

/-- l[j] -/
theorem Ty.index {t e : TypeId} {size bytes : Nat} {z : Value} (h : Ty t e size bytes z) (w : World) (b o len cap j : Nat) (hj : j < len) :
    (Instr.indexAt t (.slice (some ⟨b, o, none⟩) len cap) (.int .i64 (j : Int))).run Try.prog w = .ok (.pointer (some ⟨b, o + j * size, none⟩)) w := by
  rw [run_indexAt_slice w _ _ _ _ _ _ h.elem', if_pos (by omega), h.elem, h.run]
  simp only [Result.andThen, Int.toNat_natCast, Addr.add_lit]

/-- l[:k] -/
theorem Ty.cut {t e : TypeId} {size bytes : Nat} {z : Value} (h : Ty t e size bytes z) (w : World) (A : Option Addr) (len cap k : Nat) (hk : k ≤ cap) :
    (Instr.sliceAt t (.slice A len cap) none (some (.int .i64 (k : Int))) none).run Try.prog w = .ok (.slice A k cap) w := by
  rw [run_sliceAt_slice w _ _ _ _ _ h.elem', run_slice_h w _ _ _ _ h.elem' .i64 (k : Int) (by omega) (by omega), h.elem, h.run]
  simp only [Result.andThen, sliced, Int.toNat_natCast, Nat.zero_mul, Nat.sub_zero]
  congr 2
  split
  · rfl
  · cases A <;> simp [Addr.add]

set_option maxRecDepth 100000 in
/-- append onto a row of the call's own, whatever the source: the operation's run. -/
theorem Ty.append_run {α : Type} {K : Kind α} {t e : TypeId} {bytes : Nat} {z : Value} (h : Ty t e K.size bytes z) (p0 : Nat → Prop) {w : World} (ty : TypeId) (base : Nat) (v : Value) (n : Nat) (vs : List Value) (l : List α)
    (hown : w.ownsRow base e K.size v n vs) (hE : Elems K (fun b => p0 b ∧ ne v b) w l vs) (A : Option Addr) (m c : Nat) (us : List Value) (r : List α) (hm : r.length = m) (hR : IsRow w A us) (hF : Elems K (fun b => p0 b ∧ ne v b) w r us) (hnil : A = none → c = 0)
    (hsz : n + m ≤ 1000000000) (hbase : base ≤ w.heap.size) :
    ∃ v' w', (Builtin.append_ #[t, t] ty #[v, .slice A m c]).run Try.prog w = .ok v' w' ∧ w'.ownsRow base e K.size v' (n + m) (vs ++ us) ∧ Elems K (fun b => p0 b ∧ ne v' b) w' (l ++ r) (vs ++ us) ∧ w.grownBy w' v.ownBlock := by
  obtain ⟨i0, hi, hz0, hz1, hz2⟩ := info_parts h.info
  have hul : us.length = m * K.size := by rw [hF.len, hm]
  have hby : (n + m) * bytes ≤ 140737488355328 := Nat.le_trans (Nat.mul_le_mul hsz h.small) (by decide)
  have hall := Elems.app hF hE
  have after : ∀ v' w', w.grownBy w' v.ownBlock → (v'.ownBlock = v.ownBlock ∨ v'.ownBlock = some w.heap.size) → Elems K (fun b => p0 b ∧ ne v' b) w' (l ++ r) (vs ++ us) := fun v' w' hg hb =>
    (hall.map fun _ _ e => K.mono e fun b hlt hn => (⟨hn, hlt⟩ : (p0 b ∧ ne v b) ∧ b < w.heap.size)).map fun _ _ e => K.mono (K.grown e hg fun b hb => hb.1.2) fun b _ hb' => ⟨hb'.1.1, ne_fresh hb b hb'.2 hb'.1.2⟩
  match A, hR, hnil with
  | none, hR, hnil =>
    have hu : us = [] := by
      rcases Nat.eq_zero_or_pos us.length with h0 | h0
      · exact List.eq_nil_of_length_eq_zero h0
      · obtain ⟨b, q, he, _⟩ := hR h0
        cases he
    have hm0 : m = 0 := by
      rw [hu] at hul
      have hp := h.pos
      rcases Nat.eq_zero_or_pos m with h0 | h0
      · exact h0
      · have := Nat.mul_pos h0 hp
        simp only [List.length_nil] at hul
        omega
    obtain rfl := hnil rfl
    subst hm0
    refine ⟨v, w, run_append_owned_none (w := w) base t ty e i0 K.size h.und hi v n vs hown, ?_, after v w (World.grownBy.refl _ _) (Or.inl rfl), World.grownBy.refl _ _⟩
    rw [hu, List.append_nil]
    exact hown
  | some ad, hR, _ =>
    obtain ⟨v', w', hr, h2, h3, _, h5⟩ := run_append_own_at (P := Try.prog) w base t ty e i0 z K.size bytes h.und hi hz0 hz1 hz2 h.zs h.pos v n vs hown ad m c us hul
      (fun j u hj => by
        obtain ⟨b, q, he, hc⟩ := hR (by have := (List.getElem?_eq_some_iff.1 hj).1; omega)
        injection he with he
        subst he
        rw [Addr.add_lit]
        exact hc j u hj)
      hF.one (by unfold maxLen; omega) hby hbase
    exact ⟨v', w', hr, h2, after v' w' h3 h5, h3⟩

/-- The same, inside a region: the operation alone. -/
theorem Ty.op_append {α : Type} {K : Kind α} {t e : TypeId} {bytes : Nat} {z : Value} (h : Ty t e K.size bytes z) (p0 : Nat → Prop) {w : World} {o : Oper} {a : Act} {K' : Act → World → Prop} {Q : Exit → Act → World → Prop} (s x : Operand)
    (ho : o.op = .call { callee := .builtin .append, args := #[s, x], argTypes := #[t, t] })
    (base : Nat) (v : Value) (n : Nat) (vs : List Value) (l : List α) (hs : a.eval s = v) (hown : w.ownsRow base e K.size v n vs) (hE : Elems K (fun b => p0 b ∧ ne v b) w l vs)
    (A : Option Addr) (m c : Nat) (us : List Value) (r : List α) (hx : a.eval x = .slice A m c) (hm : r.length = m) (hR : IsRow w A us) (hF : Elems K (fun b => p0 b ∧ ne v b) w r us) (hnil : A = none → c = 0)
    (hsz : n + m ≤ 1000000000) (hbase : base ≤ w.heap.size)
    (hk : ∀ v' w', w'.ownsRow base e K.size v' (n + m) (vs ++ us) → Elems K (fun b => p0 b ∧ ne v' b) w' (l ++ r) (vs ++ us) → w.grownBy w' v.ownBlock → K' (a.put o.dst v') w') : o.wp Try.prog a w K' Q := by
  obtain ⟨v', w', hr, h2, h3, h4⟩ := h.append_run p0 o.type base v n vs l hown hE A m c us r hm hR hF hnil hsz hbase
  unfold Oper.wp execOp
  simp only [ho, resolve, invoke, builtin, Sem.run_bind, Sem.run_pure, Result.andThen_ok, List.map_toArray, List.map_cons, List.map_nil, hs, hx, hr]
  exact hk v' w' h2 h3 h4

/-- The same, in a walk. -/
theorem Ty.wp_append {α : Type} {K : Kind α} {t e : TypeId} {bytes : Nat} {z : Value} (h : Ty t e K.size bytes z) (p0 : Nat → Prop) {w : World} {ops : Array Oper} {rest : List Oper} {o : Oper} {a : Act} {Q : Exit → Act → World → Prop} (hgd : o.guard = none) (s x : Operand)
    (ho : o.op = .call { callee := .builtin .append, args := #[s, x], argTypes := #[t, t] })
    (base : Nat) (v : Value) (n : Nat) (vs : List Value) (l : List α) (hs : a.eval s = v) (hown : w.ownsRow base e K.size v n vs) (hE : Elems K (fun b => p0 b ∧ ne v b) w l vs)
    (A : Option Addr) (m c : Nat) (us : List Value) (r : List α) (hx : a.eval x = .slice A m c) (hm : r.length = m) (hR : IsRow w A us) (hF : Elems K (fun b => p0 b ∧ ne v b) w r us) (hnil : A = none → c = 0)
    (hsz : n + m ≤ 1000000000) (hbase : base ≤ w.heap.size)
    (hk : ∀ v' w', w'.ownsRow base e K.size v' (n + m) (vs ++ us) → Elems K (fun b => p0 b ∧ ne v' b) w' (l ++ r) (vs ++ us) → w.grownBy w' v.ownBlock → wpList Try.prog ops Q rest (a.put o.dst v') w') : wpList Try.prog ops Q (o :: rest) a w :=
  wpList_plain hgd fun _ hK2 => h.op_append p0 s x ho base v n vs l hs hown hE A m c us r hx hm hR hF hnil hsz hbase fun v' w' g1 g2 g3 => hK2 _ _ (hk v' w' g1 g2 g3)

/-- A new element in a block of its own. -/
theorem elem_new {α : Type} {K : Kind α} {p : Nat → Prop} (w : World) (T : TypeId) (a : α) (cs : List Value) (h : K.rel p w a cs) :
    IsRow (w.alloc (.cells cs.toArray T)) (some ⟨w.heap.size, 0, none⟩) cs ∧ Elems K p (w.alloc (.cells cs.toArray T)) [a] cs := by
  refine ⟨fun _ => ⟨w.heap.size, 0, rfl, fun j u hj => ?_⟩, cs, [], by rw [List.append_nil], K.kept h ((Below.refl _ _).alloc (Nat.le_refl _) _), rfl⟩
  rw [World.cell?_alloc_at (hn := rfl), Nat.zero_add]
  simpa using hj

/-- A block of several cells. -/
def BxN (w : World) (b : Nat) (vs : List Value) : Prop := ∀ i u, vs[i]? = some u → w.cell? ⟨b, i, none⟩ = some u ∧ w.frozen? ⟨b, i, none⟩ = false

theorem bxN_new (w : World) (T : TypeId) (vs : List Value) : BxN (w.alloc (.cells vs.toArray T)) w.heap.size vs := by
  intro i u hi
  refine ⟨?_, ?_⟩
  · rw [World.cell?_alloc_at (hn := rfl)]
    simpa using hi
  · unfold World.frozen?
    rw [heap_alloc_new]
    rfl

theorem BxN.lt {w : World} {b : Nat} {vs : List Value} (h : BxN w b vs) (h0 : 0 < vs.length) : b < w.heap.size := World.block_lt_of_cell? w _ (h 0 _ (List.getElem?_eq_getElem h0)).1

theorem BxN.kept {w w' : World} {b : Nat} {vs : List Value} (h : BxN w b vs) (hb : Below w.heap.size w w') : BxN w' b vs := by
  intro i u hi
  obtain ⟨h1, h2⟩ := h i u hi
  have hl := World.block_lt_of_cell? w _ h1
  exact ⟨(hb.cell (p := ⟨b, i, none⟩) hl).trans h1, (hb.frozen (p := ⟨b, i, none⟩) hl).trans h2⟩

theorem BxN.grown {w w' : World} {b : Nat} {vs : List Value} {r : Option Nat} (h : BxN w b vs) (hg : w.grownBy w' r) (hne : some b ≠ r) : BxN w' b vs := by
  intro i u hi
  obtain ⟨h1, h2⟩ := h i u hi
  have hk := hg.block b (World.block_lt_of_cell? w _ h1) hne
  exact ⟨(World.cell?_of_block (a := ⟨b, i, none⟩) hk).trans h1, (World.frozen?_of_block (a := ⟨b, i, none⟩) hk).trans h2⟩

theorem BxN.off {w : World} {b : Nat} {vs : List Value} (h : BxN w b vs) {p : Addr} (hp : p.block ≠ b) (u : Value) : BxN (w.setCell p u) b vs := by
  intro i v hi
  obtain ⟨h1, h2⟩ := h i v hi
  have n : (⟨b, i, none⟩ : Addr) ≠ p := fun e => hp (by rw [← e])
  exact ⟨by rw [World.cell?_setCell_other (h := n.symm)]; exact h1, by rw [World.frozen?_setCell]; exact h2⟩

theorem BxN.set {w : World} {b : Nat} {vs : List Value} (h : BxN w b vs) (k : Nat) (hk : k < vs.length) (u : Value) : BxN (w.setCell ⟨b, k, none⟩ u) b (vs.set k u) := by
  intro i v hi
  by_cases e : i = k
  · subst e
    rw [List.getElem?_set_self hk] at hi
    injection hi with hi
    subst hi
    obtain ⟨h1, h2⟩ := h i _ (List.getElem?_eq_getElem hk)
    exact ⟨World.cell?_setCell_same _ _ _ h1, by rw [World.frozen?_setCell]; exact h2⟩
  · rw [List.getElem?_set_ne (Ne.symm e)] at hi
    obtain ⟨h1, h2⟩ := h i v hi
    have n : (⟨b, i, none⟩ : Addr) ≠ ⟨b, k, none⟩ := fun h => e (by injection h)
    exact ⟨by rw [World.cell?_setCell_other (h := n.symm)]; exact h1, by rw [World.frozen?_setCell]; exact h2⟩
end Go.Proofs.Ytochpomddfjkoaa.RG
