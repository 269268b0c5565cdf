/- Slices of a query's steps in memory, by the rows of whatever element; no function of the program; nothing is asked. -/
import Derived.Test.YtochpomddfjkoaaQueryMath
import Derived.Test.YtochpomddfjkoaaOpRow
namespace Go.Proofs.Ytochpomddfjkoaa.Qy
open Go.RowKit Go.Proofs.Ytochpomddfjkoaa.BM Go.Proofs.Ytochpomddfjkoaa.LM Go.Proofs.Ytochpomddfjkoaa.VaM Go.Proofs.Ytochpomddfjkoaa.ExM Go.Proofs.Ytochpomddfjkoaa.QyM
open Go.Proofs.Ytochpomddfjkoaa.Ex (SlO slO_none slO_len encO KO)

/-- Parts stay, where another block grows. -/
theorem slO_grown' {w w' : World} {r : Option Nat} {A : Option Addr} {l : List O} {c : Nat} (h : SlO w A l c) (hg : w.grownBy w' r) (hb : 0 < l.length → ∀ a, A = some a → some a.block ≠ r) : SlO w' A l c := by
  obtain ⟨⟨⟨vs, h1, h2⟩, h3⟩, h4⟩ := h
  refine ⟨⟨⟨vs, fun hx => ?_, RG.Elems.map (w := w) (w' := w') (p := fun _ => True) (q := fun _ => True) (fun _ _ h => h) h2⟩, h3⟩, h4⟩
  obtain ⟨g, o, e, hc⟩ := h1 hx
  have hl : 0 < l.length := by
    have h5 := RG.Elems.len h2
    have h6 : l.length * KO.size = l.length * 5 := rfl
    omega
  have hne : some g ≠ r := hb hl _ e
  exact ⟨g, o, e, fun j u hj => hg.cell (hc j u hj) hne⟩

theorem slO_lt {w : World} {A : Option Addr} {l : List O} {c : Nat} (h : SlO w A l c) (h0 : 0 < l.length) {a : Addr} (ha : A = some a) : a.block < w.heap.size := by
  obtain ⟨b, q, cs, e, hW⟩ := h.1.at (by decide) 0 _ (List.getElem?_eq_getElem h0)
  rw [ha] at e
  injection e with e
  subst e
  obtain ⟨hr, hc⟩ := hW w (Below.refl _ _)
  have hl := KO.len hr
  have h5 : KO.size = 5 := rfl
  exact World.block_lt_of_cell? w _ (hc 0 _ (List.getElem?_eq_getElem (by omega)))

/-- A step's numbers are ints, its strings' sizes are some. -/
def FineSt (x : St) : Prop := (x.s.size ≤ maxLen ∧ x.t.size ≤ maxLen) ∧ (-9223372036854775808 ≤ x.lo ∧ x.lo ≤ 9223372036854775807) ∧ -9223372036854775808 ≤ x.hi ∧ x.hi ≤ 9223372036854775807

/-- A step's own cells: its expressions' slices lead to blocks of which p tells. -/
def encSt (x : St) (A : Option Addr) (c : Nat) (B : Option Addr) (d : Nat) : List Value := [.string x.s, .slice A x.f.length c, .int .i64 x.lo, .int .i64 x.hi, .bool x.g, .string x.t, .slice B x.h.length d]
def RelSt (p : Nat → Prop) (w : World) (x : St) (cs : List Value) : Prop :=
  ∃ A c B d, cs = encSt x A c B d ∧ SlO w A x.f c ∧ SlO w B x.h d ∧ FineSt x ∧ (0 < x.f.length → ∀ a, A = some a → p a.block) ∧ (0 < x.h.length → ∀ a, B = some a → p a.block)

/-- How a step lies. -/
def KSt : RG.Kind St where
  size := 7
  rel := RelSt
  len := fun ⟨_, _, _, _, h, _⟩ => by rw [h]; rfl
  one := fun ⟨_, _, _, _, h, _⟩ u hu => by
    rw [h] at hu
    simp only [encSt, List.mem_cons, List.not_mem_nil, or_false] at hu
    rcases hu with rfl | rfl | rfl | rfl | rfl | rfl | rfl <;> rfl
  mono := fun ⟨A, c, B, d, h1, h2, h3, h4, h5, h6⟩ k => ⟨A, c, B, d, h1, h2, h3, h4, fun h0 a ha => k _ (slO_lt h2 h0 ha) (h5 h0 a ha), fun h0 a ha => k _ (slO_lt h3 h0 ha) (h6 h0 a ha)⟩
  kept := fun ⟨A, c, B, d, h1, h2, h3, h4⟩ hb => ⟨A, c, B, d, h1, h2.kept hb, h3.kept hb, h4⟩
  grown := fun ⟨A, c, B, d, h1, h2, h3, h4, h5, h6⟩ hg hr => ⟨A, c, B, d, h1, slO_grown' h2 hg (fun h0 a ha => hr _ (h5 h0 a ha)), slO_grown' h3 hg (fun h0 a ha => hr _ (h6 h0 a ha)), h4, h5, h6⟩

theorem tySt : RG.Ty 43 47 7 104 (.agg #[.string ⟨#[]⟩, .slice none 0 0, .int .i64 0, .int .i64 0, .bool false, .string ⟨#[]⟩, .slice none 0 0]) :=
  ⟨by kernel_rfl, by kernel_rfl, by kernel_rfl, fun _ => by kernel_rfl, rfl, by decide, by decide⟩

/-- A slice of steps: where it lies, its length and its capacity. -/
def SlSt (w : World) (A : Option Addr) (l : List St) (c : Nat) : Prop := RG.SlG KSt (fun _ => True) w A l c
theorem SlSt.kept {w w' : World} {A : Option Addr} {l : List St} {c : Nat} (h : SlSt w A l c) (hb : Below w.heap.size w w') : SlSt w' A l c := RG.SlG.kept h hb
theorem slSt_none (w : World) : SlSt w none [] 0 := RG.slG_none _ _ _
theorem slSt_len {w : World} {A : Option Addr} {l : List St} {c : Nat} (h : SlSt w A l c) : l.length ≤ 9223372036854775807 := RG.slG_len h

/-- A step's seven cells, wherever they lie. -/
def CellSt (w : World) (b q : Nat) (x : St) (A : Option Addr) (c : Nat) (B : Option Addr) (d : Nat) : Prop :=
  w.cell? ⟨b, q, none⟩ = some (.string x.s) ∧ w.cell? ⟨b, q + 1, none⟩ = some (.slice A x.f.length c) ∧ w.cell? ⟨b, q + 2, none⟩ = some (.int .i64 x.lo) ∧ w.cell? ⟨b, q + 3, none⟩ = some (.int .i64 x.hi) ∧
    w.cell? ⟨b, q + 4, none⟩ = some (.bool x.g) ∧ w.cell? ⟨b, q + 5, none⟩ = some (.string x.t) ∧ w.cell? ⟨b, q + 6, none⟩ = some (.slice B x.h.length d)

/-- The j-th of them. -/
theorem SlSt.at {w : World} {A : Option Addr} {l : List St} {c : Nat} (h : SlSt w A l c) (j : Nat) (hj : j < l.length) :
    ∃ b q A1 c1 B1 d1, (∀ W n k, j < n → (Instr.indexAt 43 (.slice A n k) (.int .i64 (j : Int))).run Try.prog W = .ok (.pointer (some ⟨b, q, none⟩)) W) ∧
      (∀ W, Below w.heap.size w W → CellSt W b q (l.getD j t0) A1 c1 B1 d1 ∧ SlO W A1 (l.getD j t0).f c1 ∧ SlO W B1 (l.getD j t0).h d1) ∧ FineSt (l.getD j t0) := by
  have hd : l[j]? = some (l.getD j t0) := by rw [List.getD_eq_getElem?_getD, List.getElem?_eq_getElem hj]; rfl
  obtain ⟨b, o, cs, rfl, hW⟩ := RG.SlG.at h (by decide) j _ hd
  obtain ⟨⟨A1, c1, B1, d1, h1, h2, h3, h4, _⟩, hc⟩ := hW w (Below.refl _ _)
  refine ⟨b, o + j * 7, A1, c1, B1, d1, fun W n k hn => tySt.index W b o n k j hn, fun W hb => ?_, h4⟩
  have hcell := fun i u (hu : cs[i]? = some u) => by
    have h5 := hc i u hu
    have h6 := hb.cell (p := ⟨b, o + j * KSt.size + i, none⟩) (World.block_lt_of_cell? w _ h5)
    rw [← h6] at h5
    exact h5
  rw [h1] at hcell
  exact ⟨⟨hcell 0 _ rfl, hcell 1 _ rfl, hcell 2 _ rfl, hcell 3 _ rfl, hcell 4 _ rfl, hcell 5 _ rfl, hcell 6 _ rfl⟩, h2.kept hb, h3.kept hb⟩

/-- A query's numbers are ints. -/
def FineQ (q : Q) : Prop := (-9223372036854775808 ≤ q.w ∧ q.w ≤ 9223372036854775807) ∧ (-9223372036854775808 ≤ q.a ∧ q.a ≤ 9223372036854775807) ∧ (-9223372036854775808 ≤ q.i ∧ q.i ≤ 9223372036854775807) ∧ -9223372036854775808 ≤ q.f ∧ q.f ≤ 9223372036854775807

/-- A query, as a value of the program. -/
def agQ (q : Q) (A : Option Addr) (c : Nat) : Value := .agg #[.slice A q.p.length c, .int .i64 q.w, .int .i64 q.a, .int .i64 q.i, .int .i64 q.f]
/-- Its cells in a block of its own. -/
def encQ (q : Q) (A : Option Addr) (c : Nat) : List Value := [.slice A q.p.length c, .int .i64 q.w, .int .i64 q.a, .int .i64 q.i, .int .i64 q.f]
def BxQ (w : World) (b : Nat) (q : Q) (A : Option Addr) (c : Nat) : Prop := RG.BxN w b (encQ q A c)
theorem bxQ_new (w : World) (q : Q) (A : Option Addr) (c : Nat) : BxQ (w.alloc (.cells #[.slice A q.p.length c, .int .i64 q.w, .int .i64 q.a, .int .i64 q.i, .int .i64 q.f] 45)) w.heap.size q A c := RG.bxN_new w 45 (encQ q A c)
theorem BxQ.kept {w w' : World} {b : Nat} {q : Q} {A : Option Addr} {c : Nat} (h : BxQ w b q A c) (hb : Below w.heap.size w w') : BxQ w' b q A c := RG.BxN.kept h hb
theorem BxQ.cells {w : World} {b : Nat} {q : Q} {A : Option Addr} {c : Nat} (h : BxQ w b q A c) : w.cell? ⟨b, 0, none⟩ = some (.slice A q.p.length c) ∧ w.cell? ⟨b, 1, none⟩ = some (.int .i64 q.w) ∧ w.cell? ⟨b, 2, none⟩ = some (.int .i64 q.a) ∧ w.cell? ⟨b, 3, none⟩ = some (.int .i64 q.i) ∧ w.cell? ⟨b, 4, none⟩ = some (.int .i64 q.f) :=
  ⟨(h 0 _ rfl).1, (h 1 _ rfl).1, (h 2 _ rfl).1, (h 3 _ rfl).1, (h 4 _ rfl).1⟩

/-- A block of a step's cells. -/
def BxSt (w : World) (b : Nat) (x : St) (A : Option Addr) (c : Nat) (B : Option Addr) (d : Nat) : Prop := RG.BxN w b (encSt x A c B d)
theorem bxSt_new (w : World) (x : St) (A : Option Addr) (c : Nat) (B : Option Addr) (d : Nat) : BxSt (w.alloc (.cells #[.string x.s, .slice A x.f.length c, .int .i64 x.lo, .int .i64 x.hi, .bool x.g, .string x.t, .slice B x.h.length d] 47)) w.heap.size x A c B d := RG.bxN_new w 47 (encSt x A c B d)
theorem BxSt.kept {w w' : World} {b : Nat} {x : St} {A : Option Addr} {c : Nat} {B : Option Addr} {d : Nat} (h : BxSt w b x A c B d) (hb : Below w.heap.size w w') : BxSt w' b x A c B d := RG.BxN.kept h hb
theorem BxSt.cells {w : World} {b : Nat} {x : St} {A : Option Addr} {c : Nat} {B : Option Addr} {d : Nat} (h : BxSt w b x A c B d) : CellSt w b 0 x A c B d :=
  ⟨(h 0 _ rfl).1, (h 1 _ rfl).1, (h 2 _ rfl).1, (h 3 _ rfl).1, (h 4 _ rfl).1, (h 5 _ rfl).1, (h 6 _ rfl).1⟩
end Go.Proofs.Ytochpomddfjkoaa.Qy
