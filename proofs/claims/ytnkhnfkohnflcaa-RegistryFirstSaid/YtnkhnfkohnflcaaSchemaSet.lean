/- Rows of schemas of the call's own: what comes in, one more, one in another's place; no function of the program; nothing is asked. -/
import Derived.Test.YtnkhnfkohnflcaaSchemaList
namespace Go.Proofs.Ytnkhnfkohnflcaa.Sc
open Go.RowKit Go.Proofs.Ytnkhnfkohnflcaa.BM Go.Proofs.Ytnkhnfkohnflcaa.LM Go.Proofs.Ytnkhnfkohnflcaa.VaM Go.Proofs.Ytnkhnfkohnflcaa.Va Go.Proofs.Ytnkhnfkohnflcaa.ScM Go.Proofs.Ytnkhnfkohnflcaa.RgM

/-- Of which blocks the fields of a row's schemas are: of those that were there at first, and none is the row's own. -/
def PS (H : Nat) (v : Value) (b : Nat) : Prop := b < H ∧ ne v b

/-- What came in, in whatever world comes later. -/
theorem slS_elems {w : World} {A : Option Addr} {l : List Sc} {c : Nat} (h : SlS w A l c) : ∃ us, ∀ W, Below w.heap.size w W → IsRow W A us ∧ RG.Elems KS (fun b => b < w.heap.size ∧ ne (.slice none 0 0) b) W l us := by
  obtain ⟨⟨us, h1, h2⟩, _⟩ := h
  exact ⟨us, fun W hW => ⟨h1.kept hW, (h2.map fun _ _ e => KS.mono e fun b hb _ => ⟨hb, fun e => by cases e⟩).map fun _ _ e => KS.kept e hW⟩⟩

/-- A schema that came in, as an element. -/
theorem relS_of {w : World} {A : Option Addr} {s : Sc} {c : Nat} (h : SlF w A s.f c) (hf : Fine s) {v : Value} {base : Nat} (hv : ∀ b, v.ownBlock = some b → base ≤ b) (hb : w.heap.size ≤ base) : RelS (fun b => b < w.heap.size ∧ ne v b) w s [.string s.s, .int .i64 s.v, .slice A s.f.length c] := by
  refine ⟨A, c, rfl, h, hf, fun h0 a ha => ?_⟩
  have h1 := relS_lt h h0 ha
  refine ⟨h1, fun e => ?_⟩
  have := hv _ e.symm
  omega

/-- Where a row of the call's own lies. -/
theorem own_base {w : World} {base n size : Nat} {e : TypeId} {v : Value} {xs : List Value} (h : w.ownsRow base e size v n xs) : ∀ b, v.ownBlock = some b → base ≤ b := by
  intro b hb
  rcases h.2 with ⟨rfl, _⟩ | ⟨g, cap, cur, rfl, hg, _⟩
  · cases hb
  · have e : some g = some b := hb
    injection e with e
    omega

theorem own_later {w w' : World} {base n : Nat} {e : TypeId} {size : Nat} {v : Value} {xs : List Value} (h : w.ownsRow base e size v n xs) (hb : Below w.heap.size w w') : w'.ownsRow base e size v n xs :=
  h.kept (row := none) ⟨hb.os, hb.tape, hb.output, hb.size, fun k hk _ => hb.block k hk⟩ (by cases v.ownBlock <;> simp)

theorem slS_mono {w : World} {p : Nat → Prop} {A : Option Addr} {l : List Sc} {c : Nat} (h : RG.SlG KS p w A l c) : SlS w A l c := h.mono fun _ _ _ => True.intro

/-- Three places of a row. -/
def set3 (vs : List Value) (k : Nat) (u0 u1 u2 : Value) : List Value := ((vs.set k u0).set (k + 1) u1).set (k + 2) u2

theorem elems_set {p : Nat → Prop} {w w' : World} {s : Sc} {u0 u1 u2 : Value} (hs : KS.rel p w' s [u0, u1, u2]) (hk : ∀ t cs, KS.rel p w t cs → KS.rel p w' t cs) : ∀ (l : List Sc) (vs : List Value) (i : Nat), i < l.length → RG.Elems KS p w l vs → RG.Elems KS p w' (l.set i s) (set3 vs (i * 3) u0 u1 u2)
  | [], _, i, h, _ => absurd h (Nat.not_lt_zero _)
  | t :: l, vs, 0, _, ⟨cs, rest, e, h1, h2⟩ => by
    obtain ⟨A, c, rfl, _⟩ := h1
    refine ⟨[u0, u1, u2], rest, ?_, hs, h2.map hk⟩
    rw [e]
    rfl
  | t :: l, vs, i + 1, h, ⟨cs, rest, e, h1, h2⟩ => by
    have h3 := elems_set hs hk l rest i (by simpa using h) h2
    have h1' := hk _ _ h1
    obtain ⟨A, c, rfl, _⟩ := h1
    refine ⟨_, set3 rest (i * 3) u0 u1 u2, ?_, h1', h3⟩
    rw [e, show (i + 1) * 3 = i * 3 + 1 + 1 + 1 from by omega]
    rfl

/-- Three places of a row of the call's own are stored. -/
theorem own_set3 {w : World} {base g n cap : Nat} {e : TypeId} {vs : List Value} (h : w.ownsRow base e 3 (.slice (some ⟨g, 0, none⟩) n cap) n vs) (k : Nat) (u0 u1 u2 : Value) :
    (((w.setCell ⟨g, k, none⟩ u0).setCell ⟨g, k + 1, none⟩ u1).setCell ⟨g, k + 2, none⟩ u2).ownsRow base e 3 (.slice (some ⟨g, 0, none⟩) n cap) n (set3 vs k u0 u1 u2) ∧ w.grownBy (((w.setCell ⟨g, k, none⟩ u0).setCell ⟨g, k + 1, none⟩ u1).setCell ⟨g, k + 2, none⟩ u2) (some g) := by
  obtain ⟨h1, g1⟩ := h.stored k u0
  obtain ⟨h2, g2⟩ := h1.stored (k + 1) u1
  obtain ⟨h3, g3⟩ := h2.stored (k + 2) u2
  have tr : ∀ {a b c : World}, a.grownBy b (some g) → b.grownBy c (some g) → a.grownBy c (some g) := fun h k =>
    ⟨k.os.trans h.os, k.tape.trans h.tape, k.output.trans h.output, Nat.le_trans h.size k.size, fun i hi hne => (k.block i (Nat.lt_of_lt_of_le hi h.size) hne).trans (h.block i hi hne)⟩
  exact ⟨h3, tr (tr g1 g2) g3⟩

/-- What a store at an element's place wants. -/
theorem own_at {w : World} {base n : Nat} {v : Value} {l : List Sc} {vs : List Value} {p : Nat → Prop} (h : w.ownsRow base 25 3 v n vs) (hE : RG.Elems KS p w l vs) (i : Nat) (hi : i < l.length) :
    ∃ g c q, v = .slice (some ⟨g, 0, none⟩) n c ∧ q = i * 3 ∧ base ≤ g ∧ (∀ W, (Instr.indexAt 22 (.slice (some ⟨g, 0, none⟩) n c) (.int .i64 (i : Int))).run Try.prog W = .ok (.pointer (some ⟨g, q, none⟩)) W) ∧
      (∃ u0 u1 u2, w.cell? ⟨g, q, none⟩ = some u0 ∧ w.cell? ⟨g, q + 1, none⟩ = some u1 ∧ w.cell? ⟨g, q + 2, none⟩ = some u2) ∧ w.frozen? ⟨g, q, none⟩ = false ∧ w.frozen? ⟨g, q + 1, none⟩ = false ∧ w.frozen? ⟨g, q + 2, none⟩ = false := by
  have hlen := hE.len
  have hn := h.1
  have hl3 : l.length * KS.size = l.length * 3 := rfl
  rw [hlen, hl3] at hn
  have hnl : l.length = n := by omega
  obtain ⟨A, c, rfl⟩ := RG.own_is h
  rcases h.2 with ⟨_, h0⟩ | ⟨g, cap, cur, hv, hg, _⟩
  · omega
  · injection hv with hv _ hc
    subst hv
    subst hc
    refine ⟨g, c, i * 3, rfl, rfl, hg, fun W => ?_, ?_, h.frozenAt _, h.frozenAt _, h.frozenAt _⟩
    · have := tyS.index W g 0 n c i (by omega)
      rw [Nat.zero_add] at this
      exact this
    · have hc : ∀ k, k < n * 3 → ∃ u, w.cell? ⟨g, k, none⟩ = some u := fun k hk => by
        rw [h.cellAt k hk]
        exact ⟨vs[k]'(by rw [hlen, hl3, hnl]; exact hk), List.getElem?_eq_getElem _⟩
      obtain ⟨u0, e0⟩ := hc (i * 3) (by omega)
      obtain ⟨u1, e1⟩ := hc (i * 3 + 1) (by omega)
      obtain ⟨u2, e2⟩ := hc (i * 3 + 2) (by omega)
      exact ⟨u0, u1, u2, e0, e1, e2⟩
end Go.Proofs.Ytnkhnfkohnflcaa.Sc
