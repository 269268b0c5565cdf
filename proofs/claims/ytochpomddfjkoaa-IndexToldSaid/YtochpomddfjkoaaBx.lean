/- Blocks of two and of three cells: what a load or a store of it wants; no function of the program; nothing is asked. -/
import Derived.Test.YtochpomddfjkoaaCore
namespace Go.Proofs.Ytochpomddfjkoaa.Va
open Go.RowKit Go.Proofs.Ytochpomddfjkoaa.BM

/-- Three cells. -/
def Bx (w : World) (b : Nat) (v0 v1 v2 : Value) : Prop :=
  (w.cell? ⟨b, 0, none⟩ = some v0 ∧ w.cell? ⟨b, 1, none⟩ = some v1 ∧ w.cell? ⟨b, 2, none⟩ = some v2) ∧ w.frozen? ⟨b, 0, none⟩ = false ∧ w.frozen? ⟨b, 1, none⟩ = false ∧ w.frozen? ⟨b, 2, none⟩ = false

theorem bx_new_t (w : World) (T : TypeId) (v0 v1 v2 : Value) : Bx (w.alloc (.cells #[v0, v1, v2] T)) w.heap.size v0 v1 v2 := by
  refine ⟨⟨?_, ?_, ?_⟩, ?_, ?_, ?_⟩ <;> first | (rw [World.cell?_alloc_at (hn := rfl)]; rfl) | (unfold World.frozen?; rw [heap_alloc_new]; rfl)

theorem Bx.lt {w : World} {b : Nat} {v0 v1 v2 : Value} (h : Bx w b v0 v1 v2) : b < w.heap.size := World.block_lt_of_cell? w _ h.1.1

theorem Bx.below {w w' : World} {B b : Nat} {v0 v1 v2 : Value} (h : Bx w b v0 v1 v2) (hb : Below B w w') (hB : b < B) : Bx w' b v0 v1 v2 := by
  obtain ⟨⟨h1, h2, h3⟩, h4, h5, h6⟩ := h
  exact ⟨⟨(hb.cell (p := ⟨b, 0, none⟩) hB).trans h1, (hb.cell (p := ⟨b, 1, none⟩) hB).trans h2, (hb.cell (p := ⟨b, 2, none⟩) hB).trans h3⟩,
    (hb.frozen (p := ⟨b, 0, none⟩) hB).trans h4, (hb.frozen (p := ⟨b, 1, none⟩) hB).trans h5, (hb.frozen (p := ⟨b, 2, none⟩) hB).trans h6⟩

theorem Bx.kept {w w' : World} {b : Nat} {v0 v1 v2 : Value} (h : Bx w b v0 v1 v2) (hb : Below w.heap.size w w') : Bx w' b v0 v1 v2 := h.below hb h.lt

/-- One cell is stored. -/
theorem bx_set0 {w : World} {b : Nat} {v0 v1 v2 : Value} (h : Bx w b v0 v1 v2) (u : Value) : Bx (w.setCell ⟨b, 0, none⟩ u) b u v1 v2 := by
  obtain ⟨⟨h1, h2, h3⟩, h4, h5, h6⟩ := h
  have n1 : (⟨b, 1, none⟩ : Addr) ≠ ⟨b, 0, none⟩ := by simp
  have n2 : (⟨b, 2, none⟩ : Addr) ≠ ⟨b, 0, none⟩ := by simp
  exact ⟨⟨World.cell?_setCell_same _ _ _ h1, by rw [World.cell?_setCell_other (h := n1.symm)]; exact h2, by rw [World.cell?_setCell_other (h := n2.symm)]; exact h3⟩,
    by rw [World.frozen?_setCell]; exact h4, by rw [World.frozen?_setCell]; exact h5, by rw [World.frozen?_setCell]; exact h6⟩
theorem bx_set1 {w : World} {b : Nat} {v0 v1 v2 : Value} (h : Bx w b v0 v1 v2) (u : Value) : Bx (w.setCell ⟨b, 1, none⟩ u) b v0 u v2 := by
  obtain ⟨⟨h1, h2, h3⟩, h4, h5, h6⟩ := h
  have n1 : (⟨b, 0, none⟩ : Addr) ≠ ⟨b, 1, none⟩ := by simp
  have n2 : (⟨b, 2, none⟩ : Addr) ≠ ⟨b, 1, none⟩ := by simp
  exact ⟨⟨by rw [World.cell?_setCell_other (h := n1.symm)]; exact h1, World.cell?_setCell_same _ _ _ h2, by rw [World.cell?_setCell_other (h := n2.symm)]; exact h3⟩,
    by rw [World.frozen?_setCell]; exact h4, by rw [World.frozen?_setCell]; exact h5, by rw [World.frozen?_setCell]; exact h6⟩
theorem bx_set2 {w : World} {b : Nat} {v0 v1 v2 : Value} (h : Bx w b v0 v1 v2) (u : Value) : Bx (w.setCell ⟨b, 2, none⟩ u) b v0 v1 u := by
  obtain ⟨⟨h1, h2, h3⟩, h4, h5, h6⟩ := h
  have n1 : (⟨b, 0, none⟩ : Addr) ≠ ⟨b, 2, none⟩ := by simp
  have n2 : (⟨b, 1, none⟩ : Addr) ≠ ⟨b, 2, none⟩ := by simp
  exact ⟨⟨by rw [World.cell?_setCell_other (h := n1.symm)]; exact h1, by rw [World.cell?_setCell_other (h := n2.symm)]; exact h2, World.cell?_setCell_same _ _ _ h3⟩,
    by rw [World.frozen?_setCell]; exact h4, by rw [World.frozen?_setCell]; exact h5, by rw [World.frozen?_setCell]; exact h6⟩

/-- All three are. -/
theorem bx_store {w : World} {b : Nat} {v0 v1 v2 : Value} (h : Bx w b v0 v1 v2) (u0 u1 u2 : Value) : Bx (((w.setCell ⟨b, 0, none⟩ u0).setCell ⟨b, 1, none⟩ u1).setCell ⟨b, 2, none⟩ u2) b u0 u1 u2 := bx_set2 (bx_set1 (bx_set0 h u0) u1) u2

theorem stored3 {B b : Nat} {w w' : World} (h : Below B w w') (hb : B ≤ b) (u0 u1 u2 : Value) : Below B w (((w'.setCell ⟨b, 0, none⟩ u0).setCell ⟨b, 1, none⟩ u1).setCell ⟨b, 2, none⟩ u2) := ((h.setCell hb _).setCell hb _).setCell hb _

/-- Two cells. -/
def Bx2 (w : World) (b : Nat) (v0 v1 : Value) : Prop :=
  (w.cell? ⟨b, 0, none⟩ = some v0 ∧ w.cell? ⟨b, 1, none⟩ = some v1) ∧ w.frozen? ⟨b, 0, none⟩ = false ∧ w.frozen? ⟨b, 1, none⟩ = false

theorem bx2_new (w : World) (T : TypeId) (v0 v1 : Value) : Bx2 (w.alloc (.cells #[v0, v1] T)) w.heap.size v0 v1 := by
  refine ⟨⟨?_, ?_⟩, ?_, ?_⟩ <;> first | (rw [World.cell?_alloc_at (hn := rfl)]; rfl) | (unfold World.frozen?; rw [heap_alloc_new]; rfl)

theorem Bx2.lt {w : World} {b : Nat} {v0 v1 : Value} (h : Bx2 w b v0 v1) : b < w.heap.size := World.block_lt_of_cell? w _ h.1.1

theorem Bx2.below {w w' : World} {B b : Nat} {v0 v1 : Value} (h : Bx2 w b v0 v1) (hb : Below B w w') (hB : b < B) : Bx2 w' b v0 v1 := by
  obtain ⟨⟨h1, h2⟩, h4, h5⟩ := h
  exact ⟨⟨(hb.cell (p := ⟨b, 0, none⟩) hB).trans h1, (hb.cell (p := ⟨b, 1, none⟩) hB).trans h2⟩, (hb.frozen (p := ⟨b, 0, none⟩) hB).trans h4, (hb.frozen (p := ⟨b, 1, none⟩) hB).trans h5⟩

theorem Bx2.kept {w w' : World} {b : Nat} {v0 v1 : Value} (h : Bx2 w b v0 v1) (hb : Below w.heap.size w w') : Bx2 w' b v0 v1 := h.below hb h.lt

theorem bx2_set0 {w : World} {b : Nat} {v0 v1 : Value} (h : Bx2 w b v0 v1) (u : Value) : Bx2 (w.setCell ⟨b, 0, none⟩ u) b u v1 := by
  obtain ⟨⟨h1, h2⟩, h4, h5⟩ := h
  have n1 : (⟨b, 1, none⟩ : Addr) ≠ ⟨b, 0, none⟩ := by simp
  exact ⟨⟨World.cell?_setCell_same _ _ _ h1, by rw [World.cell?_setCell_other (h := n1.symm)]; exact h2⟩, by rw [World.frozen?_setCell]; exact h4, by rw [World.frozen?_setCell]; exact h5⟩

theorem bx2_set1 {w : World} {b : Nat} {v0 v1 : Value} (h : Bx2 w b v0 v1) (u : Value) : Bx2 (w.setCell ⟨b, 1, none⟩ u) b v0 u := by
  obtain ⟨⟨h1, h2⟩, h4, h5⟩ := h
  have n1 : (⟨b, 0, none⟩ : Addr) ≠ ⟨b, 1, none⟩ := by simp
  exact ⟨⟨by rw [World.cell?_setCell_other (h := n1.symm)]; exact h1, World.cell?_setCell_same _ _ _ h2⟩, by rw [World.frozen?_setCell]; exact h4, by rw [World.frozen?_setCell]; exact h5⟩

/-- A store elsewhere. -/
theorem Bx2.off {w : World} {b : Nat} {v0 v1 : Value} (h : Bx2 w b v0 v1) {p : Addr} (hp : p.block ≠ b) (u : Value) : Bx2 (w.setCell p u) b v0 v1 := by
  obtain ⟨⟨h1, h2⟩, h4, h5⟩ := h
  have n : ∀ i, (⟨b, i, none⟩ : Addr) ≠ p := fun i e => hp (by rw [← e])
  exact ⟨⟨by rw [World.cell?_setCell_other (h := (n 0).symm)]; exact h1, by rw [World.cell?_setCell_other (h := (n 1).symm)]; exact h2⟩, by rw [World.frozen?_setCell]; exact h4, by rw [World.frozen?_setCell]; exact h5⟩

theorem Bx.off {w : World} {b : Nat} {v0 v1 v2 : Value} (h : Bx w b v0 v1 v2) {p : Addr} (hp : p.block ≠ b) (u : Value) : Bx (w.setCell p u) b v0 v1 v2 := by
  obtain ⟨⟨h1, h2, h3⟩, h4, h5, h6⟩ := h
  have n : ∀ i, (⟨b, i, none⟩ : Addr) ≠ p := fun i e => hp (by rw [← e])
  exact ⟨⟨by rw [World.cell?_setCell_other (h := (n 0).symm)]; exact h1, by rw [World.cell?_setCell_other (h := (n 1).symm)]; exact h2, by rw [World.cell?_setCell_other (h := (n 2).symm)]; exact h3⟩, by rw [World.frozen?_setCell]; exact h4, by rw [World.frozen?_setCell]; exact h5, by rw [World.frozen?_setCell]; exact h6⟩

theorem Bx2.grown {w w' : World} {b : Nat} {v0 v1 : Value} {r : Option Nat} (h : Bx2 w b v0 v1) (hg : w.grownBy w' r) (hne : some b ≠ r) : Bx2 w' b v0 v1 := by
  have hb := hg.block b h.lt hne
  obtain ⟨⟨h1, h2⟩, h4, h5⟩ := h
  exact ⟨⟨(World.cell?_of_block (a := ⟨b, 0, none⟩) hb).trans h1, (World.cell?_of_block (a := ⟨b, 1, none⟩) hb).trans h2⟩, (World.frozen?_of_block (a := ⟨b, 0, none⟩) hb).trans h4, (World.frozen?_of_block (a := ⟨b, 1, none⟩) hb).trans h5⟩

theorem Bx.grown {w w' : World} {b : Nat} {v0 v1 v2 : Value} {r : Option Nat} (h : Bx w b v0 v1 v2) (hg : w.grownBy w' r) (hne : some b ≠ r) : Bx w' b v0 v1 v2 := by
  have hb := hg.block b h.lt hne
  obtain ⟨⟨h1, h2, h3⟩, h4, h5, h6⟩ := h
  exact ⟨⟨(World.cell?_of_block (a := ⟨b, 0, none⟩) hb).trans h1, (World.cell?_of_block (a := ⟨b, 1, none⟩) hb).trans h2, (World.cell?_of_block (a := ⟨b, 2, none⟩) hb).trans h3⟩,
    (World.frozen?_of_block (a := ⟨b, 0, none⟩) hb).trans h4, (World.frozen?_of_block (a := ⟨b, 1, none⟩) hb).trans h5, (World.frozen?_of_block (a := ⟨b, 2, none⟩) hb).trans h6⟩
end Go.Proofs.Ytochpomddfjkoaa.Va
