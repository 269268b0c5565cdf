/- Slices of what is asked, in memory, by the rows of whatever element; no function of the program; nothing is asked. -/
import Derived.Test.YtochpomddfjkoaaIndexMath
import Derived.Test.YtochpomddfjkoaaStepRow
namespace Go.Proofs.Ytochpomddfjkoaa.Ix
open Go.RowKit Go.Proofs.Ytochpomddfjkoaa.BM Go.Proofs.Ytochpomddfjkoaa.LM Go.Proofs.Ytochpomddfjkoaa.VaM Go.Proofs.Ytochpomddfjkoaa.ExM Go.Proofs.Ytochpomddfjkoaa.QyM Go.Proofs.Ytochpomddfjkoaa.IxM
open Go.Proofs.Ytochpomddfjkoaa.Ex (SlO slO_none)
open Go.Proofs.Ytochpomddfjkoaa.Qy (slO_grown' slO_lt)

/-- Its own cells: its expression's slice leads to a block of which p tells. -/
def encPr (x : Pr) (A : Option Addr) (c : Nat) : List Value := [.string x.s, .slice A x.f.length c]
def RelPr (p : Nat → Prop) (w : World) (x : Pr) (cs : List Value) : Prop :=
  ∃ A c, cs = encPr x A c ∧ SlO w A x.f c ∧ x.s.size ≤ maxLen ∧ (0 < x.f.length → ∀ a, A = some a → p a.block)

/-- How one lies. -/
def KPr : RG.Kind Pr where
  size := 2
  rel := RelPr
  len := fun ⟨_, _, h, _⟩ => by rw [h]; rfl
  one := fun ⟨_, _, h, _⟩ u hu => by
    rw [h] at hu
    simp only [encPr, List.mem_cons, List.not_mem_nil, or_false] at hu
    rcases hu with rfl | rfl <;> rfl
  mono := fun ⟨A, c, h1, h2, h3, h4⟩ k => ⟨A, c, h1, h2, h3, fun h0 a ha => k _ (slO_lt h2 h0 ha) (h4 h0 a ha)⟩
  kept := fun ⟨A, c, h1, h2, h3⟩ hb => ⟨A, c, h1, h2.kept hb, h3⟩
  grown := fun ⟨A, c, h1, h2, h3, h4⟩ hg hr => ⟨A, c, h1, slO_grown' h2 hg (fun h0 a ha => hr _ (h4 h0 a ha)), h3, h4⟩

theorem tyPr : RG.Ty 23 26 2 40 (.agg #[.string ⟨#[]⟩, .slice none 0 0]) :=
  ⟨by kernel_rfl, by kernel_rfl, by kernel_rfl, fun _ => by kernel_rfl, rfl, by decide, by decide⟩

/-- A slice of them: where it lies, its length and its capacity. -/
def SlPr (w : World) (A : Option Addr) (l : List Pr) (c : Nat) : Prop := RG.SlG KPr (fun _ => True) w A l c
theorem SlPr.kept {w w' : World} {A : Option Addr} {l : List Pr} {c : Nat} (h : SlPr w A l c) (hb : Below w.heap.size w w') : SlPr w' A l c := RG.SlG.kept h hb
theorem slPr_none (w : World) : SlPr w none [] 0 := RG.slG_none _ _ _
theorem slPr_len {w : World} {A : Option Addr} {l : List Pr} {c : Nat} (h : SlPr w A l c) : l.length ≤ 9223372036854775807 := RG.slG_len h

/-- Its two cells, wherever they lie. -/
def CellPr (w : World) (b q : Nat) (x : Pr) (A : Option Addr) (c : Nat) : Prop := w.cell? ⟨b, q, none⟩ = some (.string x.s) ∧ w.cell? ⟨b, q + 1, none⟩ = some (.slice A x.f.length c)

/-- The j-th of them. -/
theorem SlPr.at {w : World} {A : Option Addr} {l : List Pr} {c : Nat} (h : SlPr w A l c) (j : Nat) (hj : j < l.length) :
    ∃ b q A1 c1, (∀ W n k, j < n → (Instr.indexAt 23 (.slice A n k) (.int .i64 (j : Int))).run Try.prog W = .ok (.pointer (some ⟨b, q, none⟩)) W) ∧
      (∀ W, Below w.heap.size w W → CellPr W b q (l.getD j p0) A1 c1 ∧ SlO W A1 (l.getD j p0).f c1) ∧ (l.getD j p0).s.size ≤ maxLen := by
  have hd : l[j]? = some (l.getD j p0) := by rw [List.getD_eq_getElem?_getD, List.getElem?_eq_getElem hj]; rfl
  obtain ⟨b, o, cs, rfl, hW⟩ := RG.SlG.at h (by decide) j _ hd
  obtain ⟨⟨A1, c1, h1, h2, h3, _⟩, hc⟩ := hW w (Below.refl _ _)
  refine ⟨b, o + j * 2, A1, c1, fun W n k hn => tyPr.index W b o n k j hn, fun W hb => ?_, h3⟩
  have hcell := fun i u (hu : cs[i]? = some u) => by
    have h5 := hc i u hu
    have h6 := hb.cell (p := ⟨b, o + j * KPr.size + i, none⟩) (World.block_lt_of_cell? w _ h5)
    rw [← h6] at h5
    exact h5
  rw [h1] at hcell
  exact ⟨⟨hcell 0 _ rfl, hcell 1 _ rfl⟩, h2.kept hb⟩

/-- One, as a value of the program. -/
def agPr (x : Pr) (A : Option Addr) (c : Nat) : Value := .agg #[.string x.s, .slice A x.f.length c]
/-- A block of its cells. -/
def BxPr (w : World) (b : Nat) (s : ByteArray) (A : Option Addr) (n c : Nat) : Prop := RG.BxN w b [.string s, .slice A n c]
theorem bxPr_new (w : World) (s : ByteArray) (A : Option Addr) (n c : Nat) : BxPr (w.alloc (.cells #[.string s, .slice A n c] 26)) w.heap.size s A n c := RG.bxN_new w 26 [.string s, .slice A n c]
theorem BxPr.kept {w w' : World} {b : Nat} {s : ByteArray} {A : Option Addr} {n c : Nat} (h : BxPr w b s A n c) (hb : Below w.heap.size w w') : BxPr w' b s A n c := RG.BxN.kept h hb
theorem BxPr.cells {w : World} {b : Nat} {s : ByteArray} {A : Option Addr} {n c : Nat} (h : BxPr w b s A n c) : w.cell? ⟨b, 0, none⟩ = some (.string s) ∧ w.cell? ⟨b, 1, none⟩ = some (.slice A n c) := ⟨(h 0 _ rfl).1, (h 1 _ rfl).1⟩
theorem BxPr.lt {w : World} {b : Nat} {s : ByteArray} {A : Option Addr} {n c : Nat} (h : BxPr w b s A n c) : b < w.heap.size := RG.BxN.lt h (show 0 < 2 by decide)
theorem below_pr (w : World) (s : ByteArray) (A : Option Addr) (n c : Nat) : Below w.heap.size w (w.alloc (.cells #[.string s, .slice A n c] 26)) := (Below.refl w.heap.size w).alloc (Nat.le_refl _) _
end Go.Proofs.Ytochpomddfjkoaa.Ix
