/- Slices of schemas in memory, by the rows of whatever element; no function of the program; nothing is asked. -/
import Derived.Test.YtnkhnfkohnflcaaRowG
import Derived.Test.YtnkhnfkohnflcaaSchemaRow
import Derived.Test.YtnkhnfkohnflcaaRegMath
namespace Go.Proofs.Ytnkhnfkohnflcaa.Sc
open Go.RowKit Go.Proofs.Ytnkhnfkohnflcaa.BM Go.Proofs.Ytnkhnfkohnflcaa.LM Go.Proofs.Ytnkhnfkohnflcaa.VaM Go.Proofs.Ytnkhnfkohnflcaa.Va Go.Proofs.Ytnkhnfkohnflcaa.ScM Go.Proofs.Ytnkhnfkohnflcaa.RgM

/-- Fields stay, where another block grows. -/
theorem slF_grown' {w w' : World} {r : Option Nat} {A : Option Addr} {l : List F} {c : Nat} (h : SlF w A l c) (hg : w.grownBy w' r) (hb : 0 < l.length → ∀ a, A = some a → some a.block ≠ r) : SlF w' A l c := by
  refine ⟨fun hx => ?_, h.2⟩
  obtain ⟨g, o, e, hc⟩ := h.1 hx
  have hne := hb hx _ e
  exact ⟨g, o, e, fun j hj => ⟨hg.cell (hc j hj).1 hne, hg.cell (hc j hj).2 hne⟩⟩

/-- A schema's own cells: its fields' slice leads to a block of which p tells. -/
def RelS (p : Nat → Prop) (w : World) (s : Sc) (cs : List Value) : Prop :=
  ∃ A c, cs = [.string s.s, .int .i64 s.v, .slice A s.f.length c] ∧ SlF w A s.f c ∧ Fine s ∧ (0 < s.f.length → ∀ a, A = some a → p a.block)

theorem relS_lt {w : World} {A : Option Addr} {l : List F} {c : Nat} (h : SlF w A l c) (h0 : 0 < l.length) {a : Addr} (ha : A = some a) : a.block < w.heap.size := by
  obtain ⟨b, o, e, hc⟩ := h.1 h0
  rw [ha] at e
  injection e with e
  subst e
  exact World.block_lt_of_cell? w _ (hc 0 h0).1

/-- How a schema lies. -/
def KS : RG.Kind Sc where
  size := 3
  rel := RelS
  len := fun ⟨_, _, h, _⟩ => by rw [h]; rfl
  one := fun ⟨_, _, h, _⟩ u hu => by
    rw [h] at hu
    simp only [List.mem_cons, List.not_mem_nil, or_false] at hu
    rcases hu with rfl | rfl | rfl <;> rfl
  mono := fun ⟨A, c, h1, h2, h3, h4⟩ k => ⟨A, c, h1, h2, h3, fun h0 a ha => k _ (relS_lt h2 h0 ha) (h4 h0 a ha)⟩
  kept := fun ⟨A, c, h1, h2, h3, h4⟩ hb => ⟨A, c, h1, h2.kept hb, h3, h4⟩
  grown := fun ⟨A, c, h1, h2, h3, h4⟩ hg hr => ⟨A, c, h1, slF_grown' h2 hg (fun h0 a ha => hr _ (h4 h0 a ha)), h3, h4⟩

theorem tyS : RG.Ty 22 25 3 48 (.agg #[.string ⟨#[]⟩, .int .i64 0, .slice none 0 0]) :=
  ⟨by kernel_rfl, by kernel_rfl, by kernel_rfl, fun _ => by kernel_rfl, rfl, by decide, by decide⟩

/-- A slice of schemas: where it lies, its length and its capacity. -/
def SlS (w : World) (A : Option Addr) (l : List Sc) (c : Nat) : Prop := RG.SlG KS (fun _ => True) w A l c

theorem SlS.kept {w w' : World} {A : Option Addr} {l : List Sc} {c : Nat} (h : SlS w A l c) (hb : Below w.heap.size w w') : SlS w' A l c := RG.SlG.kept h hb
theorem slS_none (w : World) : SlS w none [] 0 := RG.slG_none _ _ _
theorem slS_len {w : World} {A : Option Addr} {l : List Sc} {c : Nat} (h : SlS w A l c) : l.length ≤ 9223372036854775807 := RG.slG_len h
theorem SlS.take {w : World} {A : Option Addr} {l : List Sc} {c : Nat} (h : SlS w A l c) (i : Nat) : SlS w A (l.take i) c := RG.SlG.take h i

/-- A schema's three cells, wherever they lie. -/
def CellS (w : World) (b q : Nat) (s : Sc) (A : Option Addr) (c : Nat) : Prop :=
  w.cell? ⟨b, q, none⟩ = some (.string s.s) ∧ w.cell? ⟨b, q + 1, none⟩ = some (.int .i64 s.v) ∧ w.cell? ⟨b, q + 2, none⟩ = some (.slice A s.f.length c)

/-- The j-th of them. -/
theorem SlS.at {w : World} {A : Option Addr} {l : List Sc} {c : Nat} (h : SlS w A l c) (j : Nat) (hj : j < l.length) :
    ∃ b q A1 c1, (∀ W n k, j < n → (Instr.indexAt 22 (.slice A n k) (.int .i64 (j : Int))).run Try.prog W = .ok (.pointer (some ⟨b, q, none⟩)) W) ∧
      (∀ W, Below w.heap.size w W → CellS W b q (l.getD j s0) A1 c1 ∧ SlF W A1 (l.getD j s0).f c1) ∧ Fine (l.getD j s0) := by
  have hd : l[j]? = some (l.getD j s0) := by rw [List.getD_eq_getElem?_getD, List.getElem?_eq_getElem hj]; rfl
  obtain ⟨b, o, cs, rfl, hW⟩ := RG.SlG.at h (by decide) j _ hd
  obtain ⟨⟨A1, c1, h1, _, h3, _⟩, _⟩ := hW w (Below.refl _ _)
  refine ⟨b, o + j * 3, A1, c1, fun W n k hn => tyS.index W b o n k j hn, fun W hb => ?_, h3⟩
  obtain ⟨⟨A2, c2, g1, g2, _⟩, g3⟩ := hW W hb
  rw [h1] at g1 g3
  simp only [List.cons.injEq, Value.slice.injEq, and_true, true_and] at g1
  obtain ⟨rfl, rfl⟩ := g1
  exact ⟨⟨g3 0 _ rfl, g3 1 _ rfl, g3 2 _ rfl⟩, g2⟩
end Go.Proofs.Ytnkhnfkohnflcaa.Sc
