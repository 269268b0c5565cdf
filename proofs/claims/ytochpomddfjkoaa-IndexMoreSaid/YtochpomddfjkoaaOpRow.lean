/- Slices of an expression's parts in memory, by the rows of whatever element; two parts compared; no function of the program; nothing is asked. -/
import Derived.Test.YtochpomddfjkoaaRowG
import Derived.Test.YtochpomddfjkoaaExprMath
import Derived.Test.YtochpomddfjkoaaValueEq
namespace Go.Proofs.Ytochpomddfjkoaa.Ex
open Go.RowKit Go.Proofs.Ytochpomddfjkoaa.BM Go.Proofs.Ytochpomddfjkoaa.LM Go.Proofs.Ytochpomddfjkoaa.VaM Go.Proofs.Ytochpomddfjkoaa.Va Go.Proofs.Ytochpomddfjkoaa.ExM

/-- A part's own cells. -/
def encO (x : O) : List Value := [.int .i64 x.c, .int .i64 x.a, .int .i64 x.v.k, .int .i64 x.v.n, .string x.v.s]
/-- How a part lies. -/
def KO : RG.Kind O := RG.flat 5 encO (fun _ => rfl) (fun v u hu => by
  simp only [encO, List.mem_cons, List.not_mem_nil, or_false] at hu
  rcases hu with rfl | rfl | rfl | rfl | rfl <;> rfl)

/-- A part, as a value of the program. -/
def agO (x : O) : Value := .agg #[.int .i64 x.c, .int .i64 x.a, .int .i64 x.v.k, .int .i64 x.v.n, .string x.v.s]

theorem tyO : RG.Ty 24 57 5 48 (.agg #[.int .i64 0, .int .i64 0, .int .i64 0, .int .i64 0, .string ⟨#[]⟩]) :=
  ⟨by kernel_rfl, by kernel_rfl, by kernel_rfl, fun _ => by kernel_rfl, rfl, by decide, by decide⟩

/-- What is asked of a part: its numbers are ints, its string's size is one. -/
def Fin (x : O) : Prop := x.v.s.size ≤ maxLen ∧ Rng x.v ∧ (-9223372036854775808 ≤ x.c ∧ x.c ≤ 9223372036854775807) ∧ -9223372036854775808 ≤ x.a ∧ x.a ≤ 9223372036854775807

/-- A slice of parts: where it lies, its length and its capacity. -/
def SlO (w : World) (A : Option Addr) (l : List O) (c : Nat) : Prop := RG.SlG KO (fun _ => True) w A l c ∧ ∀ x ∈ l, Fin x

theorem SlO.kept {w w' : World} {A : Option Addr} {l : List O} {c : Nat} (h : SlO w A l c) (hb : Below w.heap.size w w') : SlO w' A l c := ⟨h.1.kept hb, h.2⟩
theorem slO_none (w : World) : SlO w none [] 0 := ⟨RG.slG_none _ _ _, fun v hv => by cases hv⟩
theorem slO_len {w : World} {A : Option Addr} {l : List O} {c : Nat} (h : SlO w A l c) : l.length ≤ 9223372036854775807 := RG.slG_len h.1
theorem SlO.rngs {w : World} {A : Option Addr} {l : List O} {c : Nat} (h : SlO w A l c) : ∀ x ∈ l, Rng x.v := fun x hx => (h.2 x hx).2.1

/-- A part's five cells, wherever they lie. -/
def CellO (w : World) (b q : Nat) (x : O) : Prop :=
  w.cell? ⟨b, q, none⟩ = some (.int .i64 x.c) ∧ w.cell? ⟨b, q + 1, none⟩ = some (.int .i64 x.a) ∧ w.cell? ⟨b, q + 2, none⟩ = some (.int .i64 x.v.k) ∧ w.cell? ⟨b, q + 3, none⟩ = some (.int .i64 x.v.n) ∧ w.cell? ⟨b, q + 4, none⟩ = some (.string x.v.s)

/-- The j-th of them. -/
theorem SlO.at {w : World} {A : Option Addr} {l : List O} {c : Nat} (h : SlO w A l c) (j : Nat) (hj : j < l.length) :
    ∃ b q, (∀ W n k, j < n → (Instr.indexAt 24 (.slice A n k) (.int .i64 (j : Int))).run Try.prog W = .ok (.pointer (some ⟨b, q, none⟩)) W) ∧ (∀ W, Below w.heap.size w W → CellO W b q (l.getD j o0)) ∧ Fin (l.getD j o0) := by
  have hd : l[j]? = some (l.getD j o0) := by rw [List.getD_eq_getElem?_getD, List.getElem?_eq_getElem hj]; rfl
  obtain ⟨b, o, cs, rfl, hW⟩ := h.1.at (by decide) j _ hd
  refine ⟨b, o + j * 5, fun W n k hn => tyO.index W b o n k j hn, fun W hb => ?_, h.2 _ (List.mem_of_getElem? hd)⟩
  obtain ⟨g1, g2⟩ := hW W hb
  obtain rfl : cs = encO (l.getD j o0) := g1
  exact ⟨g2 0 _ rfl, g2 1 _ rfl, g2 2 _ rfl, g2 3 _ rfl, g2 4 _ rfl⟩

/-- A block of a part's cells. -/
def BxO (w : World) (b : Nat) (x : O) : Prop := RG.BxN w b (encO x)
theorem bxO_new (w : World) (x : O) : BxO (w.alloc (.cells #[.int .i64 x.c, .int .i64 x.a, .int .i64 x.v.k, .int .i64 x.v.n, .string x.v.s] 57)) w.heap.size x := RG.bxN_new w 57 (encO x)
theorem BxO.kept {w w' : World} {b : Nat} {x : O} (h : BxO w b x) (hb : Below w.heap.size w w') : BxO w' b x := RG.BxN.kept h hb
theorem BxO.lt {w : World} {b : Nat} {x : O} (h : BxO w b x) : b < w.heap.size := RG.BxN.lt h (Nat.succ_pos _)
theorem BxO.cells {w : World} {b : Nat} {x : O} (h : BxO w b x) : CellO w b 0 x := ⟨(h 0 _ rfl).1, (h 1 _ rfl).1, (h 2 _ rfl).1, (h 3 _ rfl).1, (h 4 _ rfl).1⟩

theorem elems_o (p : Nat → Prop) (w : World) : ∀ l : List O, RG.Elems KO p w l (l.flatMap encO)
  | [] => rfl
  | x :: l => ⟨encO x, l.flatMap encO, rfl, rfl, elems_o p w l⟩

theorem elems_is {p : Nat → Prop} {w : World} : ∀ {l : List O} {vs : List Value}, RG.Elems KO p w l vs → vs = l.flatMap encO
  | [], _, h => h
  | x :: l, _, ⟨cs, rest, e, hc, hr⟩ => by
    rw [e, elems_is hr, show cs = encO x from hc]
    rfl

/-- What is owned reads as a slice of parts. -/
theorem own_slO {w : World} {base n : Nat} {v : Value} {l : List O} (h : w.ownsRow base 57 5 v n (l.flatMap encO)) (hs : ∀ x ∈ l, Fin x) :
    ∃ A c, v = .slice A l.length c ∧ n = l.length ∧ SlO w A l c ∧ (∀ a, A = some a → base ≤ a.block ∧ a.block < w.heap.size) := by
  obtain ⟨A, c, h1, h2, h3, h4⟩ := RG.own_slG (K := KO) h (elems_o _ w l) (by decide)
  exact ⟨A, c, h1, h2, ⟨h3, hs⟩, fun a ha => (h4 a ha).2⟩

set_option maxRecDepth 100000 in
/-- ==, of two parts. -/
theorem eql_o (x y : O) (w : World) : (binOp .eql 57 (agO x) (agO y)).run Try.prog w = .ok (.bool (decide (x = y))) w := by
  have hs : decide (x = y) = ((x.c == y.c) && ((x.a == y.a) && ((x.v.k == y.v.k) && ((x.v.n == y.v.n) && (x.v.s.toList == y.v.s.toList))))) := by
    rw [toList_beq, Bool.eq_iff_iff]
    simp only [decide_eq_true_eq, Bool.and_eq_true, beq_iff_eq]
    constructor
    · rintro rfl
      exact ⟨rfl, rfl, rfl, rfl, rfl⟩
    · rintro ⟨h1, h2, h3, h4, h5⟩
      exact O.same h1 h2 (V.same h3 h4 h5)
  rw [hs]
  unfold agO
  simp only [run_eql_struct]
  go_simp
  by_cases h1 : x.c = y.c
  · by_cases h2 : x.a = y.a
    · by_cases h3 : x.v.k = y.v.k
      · by_cases h4 : x.v.n = y.v.n
        · by_cases h5 : x.v.s.toList = y.v.s.toList
          · simp [h1, h2, h3, h4, h5]
          · simp [h1, h2, h3, h4, h5]
        · simp [h1, h2, h3, h4]
      · simp [h1, h2, h3]
    · simp [h1, h2]
  · simp [h1]

set_option maxRecDepth 100000 in
/-- !=, of two parts. -/
theorem neq_o (x y : O) (w : World) : (binOp .neq 57 (agO x) (agO y)).run Try.prog w = .ok (.bool (!decide (x = y))) w := by
  have h := eql_o x y w
  unfold agO at h ⊢
  rw [run_eql_struct] at h
  rw [run_neq_struct]
  cases hr : (Op.equalIn 10000 57 (.agg #[.int .i64 x.c, .int .i64 x.a, .int .i64 x.v.k, .int .i64 x.v.n, .string x.v.s]) (.agg #[.int .i64 y.c, .int .i64 y.a, .int .i64 y.v.k, .int .i64 y.v.n, .string y.v.s])).run Try.prog w with
  | ok b w' =>
    rw [hr] at h
    simp only [Result.andThen_ok] at h ⊢
    injection h with h1 h2
    injection h1 with h1
    rw [h1, h2]
  | halt x w' =>
    rw [hr] at h
    cases h
end Go.Proofs.Ytochpomddfjkoaa.Ex
