/- A value's three cells; le's Put as a slice of bytes; append of a string; no function of package value; nothing is asked. -/
import Derived.Test.YtkjfofljjgifdaaValueMath
import Derived.Test.YtkjfofljjgifdaaSlB
import Derived.Test.YtkjfofljjgifdaaLeMem
import Derived.Lib.AppendStr
namespace Go.Proofs.Ytkjfofljjgifdaa.Va
open Go.RowKit Go.Proofs.Ytkjfofljjgifdaa.BM Go.Proofs.Ytkjfofljjgifdaa.LM Go.Proofs.Ytkjfofljjgifdaa.LeM Go.Proofs.Ytkjfofljjgifdaa.LeP Go.Proofs.Ytkjfofljjgifdaa.LeG Go.Proofs.Ytkjfofljjgifdaa.VaM

theorem ret_v {x y : Value} (h : y = x) : Ending.returned x = .returned y := by rw [h]

/-- A value's cells. -/
def Bx (w : World) (b : Nat) (v0 v1 v2 : Value) : Prop :=
  (w.cell? ⟨b, 0, none⟩ = some v0 ∧ w.cell? ⟨b, 1, none⟩ = some v1 ∧ w.cell? ⟨b, 2, none⟩ = some v2) ∧ w.frozen? ⟨b, 0, none⟩ = false ∧ w.frozen? ⟨b, 1, none⟩ = false ∧ w.frozen? ⟨b, 2, none⟩ = false

theorem bx_new (w : World) (v0 v1 v2 : Value) : Bx (w.alloc (.cells #[v0, v1, v2] 23)) w.heap.size v0 v1 v2 := by
  refine ⟨⟨?_, ?_, ?_⟩, ?_, ?_, ?_⟩ <;> first | (rw [World.cell?_alloc_at (hn := rfl)]; rfl) | (unfold World.frozen?; rw [heap_alloc_new]; rfl)

theorem Bx.lt {w : World} {b : Nat} {v0 v1 v2 : Value} (h : Bx w b v0 v1 v2) : b < w.heap.size := World.block_lt_of_cell? w _ h.1.1

theorem Bx.below {w w' : World} {B b : Nat} {v0 v1 v2 : Value} (h : Bx w b v0 v1 v2) (hb : Below B w w') (hB : b < B) : Bx w' b v0 v1 v2 := by
  obtain ⟨⟨h1, h2, h3⟩, h4, h5, h6⟩ := h
  exact ⟨⟨(hb.cell (p := ⟨b, 0, none⟩) hB).trans h1, (hb.cell (p := ⟨b, 1, none⟩) hB).trans h2, (hb.cell (p := ⟨b, 2, none⟩) hB).trans h3⟩,
    (hb.frozen (p := ⟨b, 0, none⟩) hB).trans h4, (hb.frozen (p := ⟨b, 1, none⟩) hB).trans h5, (hb.frozen (p := ⟨b, 2, none⟩) hB).trans h6⟩

theorem Bx.kept {w w' : World} {b : Nat} {v0 v1 v2 : Value} (h : Bx w b v0 v1 v2) (hb : Below w.heap.size w w') : Bx w' b v0 v1 v2 := h.below hb h.lt

/-- One cell is stored. -/
theorem bx_set0 {w : World} {b : Nat} {v0 v1 v2 : Value} (h : Bx w b v0 v1 v2) (u : Value) : Bx (w.setCell ⟨b, 0, none⟩ u) b u v1 v2 := by
  obtain ⟨⟨h1, h2, h3⟩, h4, h5, h6⟩ := h
  have n1 : (⟨b, 1, none⟩ : Addr) ≠ ⟨b, 0, none⟩ := by simp
  have n2 : (⟨b, 2, none⟩ : Addr) ≠ ⟨b, 0, none⟩ := by simp
  exact ⟨⟨World.cell?_setCell_same _ _ _ h1, by rw [World.cell?_setCell_other (h := n1.symm)]; exact h2, by rw [World.cell?_setCell_other (h := n2.symm)]; exact h3⟩,
    by rw [World.frozen?_setCell]; exact h4, by rw [World.frozen?_setCell]; exact h5, by rw [World.frozen?_setCell]; exact h6⟩
theorem bx_set1 {w : World} {b : Nat} {v0 v1 v2 : Value} (h : Bx w b v0 v1 v2) (u : Value) : Bx (w.setCell ⟨b, 1, none⟩ u) b v0 u v2 := by
  obtain ⟨⟨h1, h2, h3⟩, h4, h5, h6⟩ := h
  have n1 : (⟨b, 0, none⟩ : Addr) ≠ ⟨b, 1, none⟩ := by simp
  have n2 : (⟨b, 2, none⟩ : Addr) ≠ ⟨b, 1, none⟩ := by simp
  exact ⟨⟨by rw [World.cell?_setCell_other (h := n1.symm)]; exact h1, World.cell?_setCell_same _ _ _ h2, by rw [World.cell?_setCell_other (h := n2.symm)]; exact h3⟩,
    by rw [World.frozen?_setCell]; exact h4, by rw [World.frozen?_setCell]; exact h5, by rw [World.frozen?_setCell]; exact h6⟩
theorem bx_set2 {w : World} {b : Nat} {v0 v1 v2 : Value} (h : Bx w b v0 v1 v2) (u : Value) : Bx (w.setCell ⟨b, 2, none⟩ u) b v0 v1 u := by
  obtain ⟨⟨h1, h2, h3⟩, h4, h5, h6⟩ := h
  have n1 : (⟨b, 0, none⟩ : Addr) ≠ ⟨b, 2, none⟩ := by simp
  have n2 : (⟨b, 1, none⟩ : Addr) ≠ ⟨b, 2, none⟩ := by simp
  exact ⟨⟨by rw [World.cell?_setCell_other (h := n1.symm)]; exact h1, by rw [World.cell?_setCell_other (h := n2.symm)]; exact h2, World.cell?_setCell_same _ _ _ h3⟩,
    by rw [World.frozen?_setCell]; exact h4, by rw [World.frozen?_setCell]; exact h5, by rw [World.frozen?_setCell]; exact h6⟩

/-- All three are. -/
theorem bx_store {w : World} {b : Nat} {v0 v1 v2 : Value} (h : Bx w b v0 v1 v2) (u0 u1 u2 : Value) : Bx (((w.setCell ⟨b, 0, none⟩ u0).setCell ⟨b, 1, none⟩ u1).setCell ⟨b, 2, none⟩ u2) b u0 u1 u2 := bx_set2 (bx_set1 (bx_set0 h u0) u1) u2

theorem stored3 {B b : Nat} {w w' : World} (h : Below B w w') (hb : B ≤ b) (u0 u1 u2 : Value) : Below B w (((w'.setCell ⟨b, 0, none⟩ u0).setCell ⟨b, 1, none⟩ u1).setCell ⟨b, 2, none⟩ u2) := ((h.setCell hb _).setCell hb _).setCell hb _

/-- A store elsewhere. -/
theorem slB_off {w : World} {A : Option Addr} {xs : List Int} {c b i : Nat} {v : Value} (h : SlB w A xs c) (hb : ∀ a, A = some a → a.block ≠ b) : SlB (w.setCell ⟨b, i, none⟩ v) A xs c := by
  refine ⟨⟨h.1.1, fun hx => ?_⟩, h.2⟩
  obtain ⟨g, o, e, hc⟩ := h.1.2 hx
  refine ⟨g, o, e, fun j hj => ?_⟩
  have hne : g ≠ b := hb _ e
  rw [World.cell?_setCell_other (h := fun e' => hne (by injection e' with e1 _; exact e1.symm))]
  exact hc j hj

/-- le's Put: where the bytes lie, and that they are owned. -/
def PutSl (n : Nat) (w : World) : Ending → World → Prop := fun e w' => ∃ A c, e = .returned (.slice A (putL n).length c) ∧ SlB w' A (putL n) c ∧ w'.ownsRow w.heap.size 5 1 (.slice A (putL n).length c) (putL n).length (cs (putL n)) ∧ Below w.heap.size w w'

theorem putSl_of {n : Nat} {w w' : World} {e : Ending} (h : Puts n w e w') : PutSl n w e w' := by
  obtain ⟨v, rfl, hown, hb⟩ := h
  obtain ⟨A, c, rfl, _, h1, _⟩ := own_slB hown (putL_bytes n)
  exact ⟨A, c, rfl, h1, hown, hb⟩

theorem Put_sl (n : Nat) (w : World) (hn : n < 18446744073709551616) : Calls Try.prog 29 #[.int .u64 n] w (PutSl n w) := (Put_any n w hn).mono fun _ _ h => putSl_of h

/-- append of a string onto bytes that are owned. -/
theorem wp_append_s {w : World} {ops : Array Oper} {rest : List Oper} {o : Oper} {a : Act} {Q : Exit → Act → World → Prop} (hgd : o.guard = none) (s x : Operand) (u : TypeId) (hu : Try.prog.underlying u = some .string)
    (ho : o.op = .call { callee := .builtin .append, args := #[s, x], argTypes := #[24, u] })
    (base : Nat) (v : Value) (n : Nat) (xs : List Int) (hs : a.eval s = v) (hown : w.ownsRow base 5 1 v n (cs xs))
    (S : ByteArray) (hx : a.eval x = .string S) (hsz : n + S.size ≤ 1000000000) (hbase : base ≤ w.heap.size)
    (h : ∀ v' w', w'.ownsRow base 5 1 v' (n + S.size) (cs (xs ++ bl S)) → w.grownBy w' v.ownBlock → wpList Try.prog ops Q rest (a.put o.dst v') w') : wpList Try.prog ops Q (o :: rest) a w := by
  obtain ⟨i0, hi, hz0, hz1, hz2⟩ := info_parts info_u8
  refine Lib.wpList_append_own_string w hgd s x 24 u ho base 5 i0 Try.underlying24 hu hi hz0 hz1 hz2 v n (cs xs) hs hown S hx (by unfold maxLen; omega) (by omega) hbase ?_
  intro v' w' h1 h2 _
  refine h v' w' ?_ h2
  rw [show cs (xs ++ bl S) = cs xs ++ Lib.strCells S from by rw [strCells_bl]; simp [cs]]
  exact h1
end Go.Proofs.Ytkjfofljjgifdaa.Va
