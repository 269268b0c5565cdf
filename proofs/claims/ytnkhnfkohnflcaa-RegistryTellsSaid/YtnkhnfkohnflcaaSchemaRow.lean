/- Slices of fields in memory: what they hold, what is kept, an element, a cut; two fields compared; no function of the program; nothing is asked. -/
import Derived.Test.YtnkhnfkohnflcaaSchemaMath
import Derived.Test.YtnkhnfkohnflcaaStrCore
import Derived.Test.YtnkhnfkohnflcaaBx
namespace Go.Proofs.Ytnkhnfkohnflcaa.Sc
open Go.RowKit Go.Proofs.Ytnkhnfkohnflcaa.BM Go.Proofs.Ytnkhnfkohnflcaa.VaM Go.Proofs.Ytnkhnfkohnflcaa.Va Go.Proofs.Ytnkhnfkohnflcaa.ScM

theorem elem_f : Try.prog.underlying 23 = some (.slice (Try.prog.elem 23)) := by kernel_rfl
theorem size_f (w : World) : (sizeOf (Try.prog.elem 23)).run Try.prog w = .ok 2 w := by kernel_rfl

/-- l[j] -/
theorem index_f (w : World) (b o len cap j : Nat) (h : j < len) : (Instr.indexAt 23 (.slice (some ⟨b, o, none⟩) len cap) (.int .i64 (j : Int))).run Try.prog w = .ok (.pointer (some ⟨b, o + j * 2, none⟩)) w := by
  rw [run_indexAt_slice w _ _ _ _ _ _ elem_f, if_pos (by omega), size_f]
  simp only [Result.andThen, Int.toNat_natCast, Addr.add_lit]

/-- l[:k] -/
theorem cut_f (w : World) (A : Option Addr) (len cap k : Nat) (hk : k ≤ cap) :
    (Instr.sliceAt 23 (.slice A len cap) none (some (.int .i64 (k : Int))) none).run Try.prog w = .ok (.slice A k cap) w := by
  rw [run_sliceAt_slice w _ _ _ _ _ elem_f, run_slice_h w _ _ _ _ elem_f .i64 (k : Int) (by omega) (by omega), size_f]
  simp only [Result.andThen, sliced, Int.toNat_natCast, Nat.zero_mul, Nat.sub_zero]
  congr 2
  split
  · rfl
  · cases A <;> simp [Addr.add]

/-- A field's two cells, wherever they lie. -/
def CellF (w : World) (b q : Nat) (f : F) : Prop := w.cell? ⟨b, q, none⟩ = some (.string f.s) ∧ w.cell? ⟨b, q + 1, none⟩ = some (.int .i64 f.k)

theorem CellF.kept {w w' : World} {b q : Nat} {f : F} (h : CellF w b q f) (hb : Below w.heap.size w w') : CellF w' b q f := by
  obtain ⟨h0, h1⟩ := h
  exact ⟨(hb.cell (p := ⟨b, q, none⟩) (World.block_lt_of_cell? w _ h0)).trans h0, (hb.cell (p := ⟨b, q + 1, none⟩) (World.block_lt_of_cell? w _ h1)).trans h1⟩

/-- Where fields lie. -/
def IsF (w : World) (A : Option Addr) (l : List F) : Prop := 0 < l.length → ∃ b o, A = some ⟨b, o, none⟩ ∧ ∀ j, j < l.length → CellF w b (o + j * 2) (l.getD j d0)

/-- A slice of fields: where it lies, its length and its capacity; each name's size is an int. -/
def SlF (w : World) (A : Option Addr) (l : List F) (c : Nat) : Prop := IsF w A l ∧ l.length ≤ c ∧ (A = none → c = 0) ∧ c ≤ maxLen ∧ ∀ f ∈ l, f.s.size ≤ maxLen

theorem IsF.kept {w w' : World} {A : Option Addr} {l : List F} (h : IsF w A l) (hb : Below w.heap.size w w') : IsF w' A l := by
  intro h0
  obtain ⟨b, o, e, hc⟩ := h h0
  exact ⟨b, o, e, fun j hj => (hc j hj).kept hb⟩

theorem SlF.kept {w w' : World} {A : Option Addr} {l : List F} {c : Nat} (h : SlF w A l c) (hb : Below w.heap.size w w') : SlF w' A l c := ⟨h.1.kept hb, h.2⟩

theorem slF_none (w : World) : SlF w none [] 0 := ⟨fun h => absurd h (Nat.not_lt_zero _), Nat.le_refl _, fun _ => rfl, Nat.zero_le _, fun f hf => by cases hf⟩

theorem SlF.take {w : World} {A : Option Addr} {l : List F} {c : Nat} (h : SlF w A l c) (i : Nat) : SlF w A (l.take i) c := by
  obtain ⟨h1, h2, h3, h4, h5⟩ := h
  refine ⟨fun h0 => ?_, by rw [List.length_take]; omega, h3, h4, fun f hf => h5 f (List.mem_of_mem_take hf)⟩
  rw [List.length_take] at h0
  obtain ⟨b, o, e, hc⟩ := h1 (by omega)
  refine ⟨b, o, e, fun j hj => ?_⟩
  rw [List.length_take] at hj
  have e2 : (l.take i).getD j d0 = l.getD j d0 := by
    rw [List.getD_eq_getElem?_getD, List.getD_eq_getElem?_getD, List.getElem?_take, if_pos (by omega)]
  rw [e2]
  exact hc j (by omega)

/-- The j-th of them. -/
theorem SlF.at {w : World} {A : Option Addr} {l : List F} {c : Nat} (h : SlF w A l c) (j : Nat) (hj : j < l.length) :
    ∃ b q, (∀ W n k, j < n → (Instr.indexAt 23 (.slice A n k) (.int .i64 (j : Int))).run Try.prog W = .ok (.pointer (some ⟨b, q, none⟩)) W) ∧ (∀ W, Below w.heap.size w W → CellF W b q (l.getD j d0)) ∧ (l.getD j d0).s.size ≤ maxLen := by
  obtain ⟨h1, h2, h3, h4, h5⟩ := h
  obtain ⟨b, o, rfl, hc⟩ := h1 (by omega)
  exact ⟨b, o + j * 2, fun W n k hn => index_f W b o n k j hn, fun W hW => (hc j hj).kept hW, h5 _ (getD_mem hj)⟩

theorem slF_len {w : World} {A : Option Addr} {l : List F} {c : Nat} (h : SlF w A l c) : l.length ≤ 9223372036854775807 := by
  have h1 := h.2.1
  have h2 := h.2.2.2.1
  unfold maxLen at h2
  omega

/-- Fields elsewhere stay. -/
theorem slF_grown {w w' : World} {A : Option Addr} {l : List F} {c b : Nat} (h : SlF w A l c) (hg : w.grownBy w' (some b)) (hb : ∀ a, A = some a → a.block ≠ b) : SlF w' A l c := by
  refine ⟨fun hx => ?_, h.2⟩
  obtain ⟨g, o, e, hc⟩ := h.1 hx
  have hne : some g ≠ some b := fun e' => hb _ e (by injection e')
  exact ⟨g, o, e, fun j hj => ⟨hg.cell (hc j hj).1 hne, hg.cell (hc j hj).2 hne⟩⟩

/-- What is asked of a schema's own parts. -/
def Fine (s : Sc) : Prop := s.s.size ≤ maxLen ∧ -9223372036854775808 ≤ s.v ∧ s.v ≤ 9223372036854775807

/-- ==, of two fields. -/
theorem eql_f (s t : ByteArray) (k j : Int) (w : World) :
    (binOp .eql 39 (.agg #[.string s, .int .i64 k]) (.agg #[.string t, .int .i64 j])).run Try.prog w = .ok (.bool (decide ((⟨s, k⟩ : F) = ⟨t, j⟩))) w := by
  have hs : decide ((⟨s, k⟩ : F) = ⟨t, j⟩) = ((s.toList == t.toList) && (k == j)) := by
    rw [toList_beq, Bool.eq_iff_iff]
    simp
  rw [hs]
  simp only [run_eql_struct]
  go_simp
  by_cases h3 : s.toList = t.toList
  · by_cases h1 : k = j
    · simp [h1, h3]
    · simp [h1, h3]
  · simp [h3]

/-- !=, of two fields. -/
theorem neq_f (s t : ByteArray) (k j : Int) (w : World) :
    (binOp .neq 39 (.agg #[.string s, .int .i64 k]) (.agg #[.string t, .int .i64 j])).run Try.prog w = .ok (.bool (!decide ((⟨s, k⟩ : F) = ⟨t, j⟩))) w := by
  have h := eql_f s t k j w
  rw [run_eql_struct] at h
  rw [run_neq_struct]
  cases hr : (Op.equalIn 10000 39 (.agg #[.string s, .int .i64 k]) (.agg #[.string t, .int .i64 j])).run Try.prog w with
  | ok b w' =>
    rw [hr] at h
    simp only [Result.andThen_ok] at h ⊢
    injection h with h1 h2
    injection h1 with h1
    rw [h1, h2]
  | halt x w' =>
    rw [hr] at h
    cases h
end Go.Proofs.Ytnkhnfkohnflcaa.Sc
