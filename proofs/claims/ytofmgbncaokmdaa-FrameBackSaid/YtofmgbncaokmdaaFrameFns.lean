/- The small functions of package frame: head, waiting, dead and Same; asked: the slices read as bytes. -/
import Derived.Test.YtofmgbncaokmdaaStdBytes
import Derived.Test.YtofmgbncaokmdaaStdConcat
import Derived.Test.YtofmgbncaokmdaaLeWord
import Derived.Test.YtofmgbncaokmdaaFrameMath
namespace Go.Proofs.Ytofmgbncaokmdaa.Fr
open Go.RowKit Go.Proofs.Ytofmgbncaokmdaa.BM Go.Proofs.Ytofmgbncaokmdaa.LM Go.Proofs.Ytofmgbncaokmdaa.Std Go.Proofs.Ytofmgbncaokmdaa.FrM

/-- b[l:h:m] -/
theorem slice_3 (w : World) (A : Option Addr) (len cap l h m : Nat) (h1 : l ≤ h) (h2 : h ≤ m) (h3 : m ≤ cap) :
    (Instr.sliceAt 22 (.slice A len cap) (some (.int .i64 (l : Int))) (some (.int .i64 (h : Int))) (some (.int .i64 (m : Int)))).run Try.prog w = .ok (.slice (dropA A l m) (h - l) (m - l)) w := by
  rw [run_sliceAt_slice w _ _ _ _ _ elem_b, run_slice_lhm w _ _ _ _ elem_b .i64 .i64 .i64 (l : Int) (h : Int) (m : Int) (by omega) (by omega) (by omega) (by omega), size_b]
  simp only [Result.andThen, sliced, Int.toNat_natCast, Nat.mul_one]
  rfl

theorem slice_03 (w : World) (A : Option Addr) (len cap h m : Nat) (h2 : h ≤ m) (h3 : m ≤ cap) :
    (Instr.sliceAt 22 (.slice A len cap) none (some (.int .i64 (h : Int))) (some (.int .i64 (m : Int)))).run Try.prog w = .ok (.slice A h m) w := by
  rw [run_sliceAt_slice w _ _ _ _ _ elem_b, run_slice_hm w _ _ _ _ elem_b .i64 .i64 (h : Int) (m : Int) (by omega) (by omega) (by omega), size_b]
  simp only [Result.andThen, sliced, Int.toNat_natCast, Nat.zero_mul, Nat.sub_zero]
  congr 2
  split
  · rfl
  · cases A <;> simp [Addr.add]

/-- b[l:h] -/
theorem slice_2 (w : World) (A : Option Addr) (len cap l h : Nat) (h1 : l ≤ h) (h3 : h ≤ cap) :
    (Instr.sliceAt 22 (.slice A len cap) (some (.int .i64 (l : Int))) (some (.int .i64 (h : Int))) none).run Try.prog w = .ok (.slice (dropA A l cap) (h - l) (cap - l)) w := by
  rw [run_sliceAt_slice w _ _ _ _ _ elem_b, run_slice_lh w _ _ _ _ elem_b .i64 .i64 (l : Int) (h : Int) (by omega) (by omega) (by omega), size_b]
  simp only [Result.andThen, sliced, Int.toNat_natCast, Nat.mul_one]
  rfl

theorem slB_cut {w : World} {A : Option Addr} {xs : List Int} {c : Nat} (hx : SlB w A xs c) (l h m : Nat) (h1 : l ≤ h) (h2 : h ≤ m) (h3 : m ≤ c) (h4 : h ≤ xs.length) : SlB w (dropA A l m) ((xs.drop l).take (h - l)) (m - l) := by
  have hlen : ((xs.drop l).take (h - l)).length = h - l := by rw [List.length_take, List.length_drop]; omega
  refine ⟨⟨fun x hx' => hx.1.1 x (List.mem_of_mem_drop (List.mem_of_mem_take hx')), fun h0 => ?_⟩, by omega, ?_, by have := hx.2.2.2; omega⟩
  · rw [hlen] at h0
    obtain ⟨b, o, rfl, hc⟩ := hx.1.2 (by omega)
    have e : dropA (some ⟨b, o, none⟩) l m = some ⟨b, o + l, none⟩ := by
      unfold dropA
      rw [if_neg (by omega)]
      simp [Addr.add_lit]
    refine ⟨b, o + l, e, fun j hj => ?_⟩
    rw [hlen] at hj
    rw [Nat.add_assoc, hc (l + j) (by omega)]
    simp [List.getD_eq_getElem?_getD, List.getElem?_drop, hj]
  · intro hn
    unfold dropA at hn
    split at hn
    · omega
    · cases A with
      | none => have := hx.2.2.1 rfl; omega
      | some a => simp at hn

theorem slB_head {w : World} {A : Option Addr} {xs : List Int} {c : Nat} (hx : SlB w A xs c) (h m : Nat) (h2 : h ≤ m) (h3 : m ≤ c) (h4 : h ≤ xs.length) : SlB w A (xs.take h) m := by
  refine ⟨isB_take hx.1 h, by rw [List.length_take]; omega, fun hn => ?_, by have := hx.2.2.2; omega⟩
  have := hx.2.2.1 hn
  omega

theorem readV_four {xs : List Int} (h : xs.length = 4) : LeG.readV xs = .tuple #[.int .u32 (rd xs), .bool true] := by rw [LeG.readV, if_pos h]; rfl

set_option maxRecDepth 100000 in
theorem head_any (A : Option Addr) (xs : List Int) (c : Nat) (w : World) (h : SlB w A xs c) (h8 : 8 ≤ xs.length) :
    Calls Try.prog 25 #[.slice A xs.length c] w fun e w' => e = .returned (.tuple #[.int .u32 (rd (xs.take 4)), .int .u32 (sm xs)]) ∧ w = w' := by
  have hc := h.2.1
  have s1 : ∀ w, (Instr.sliceAt 22 (.slice A xs.length c) none (some (.int .i64 4)) (some (.int .i64 4))).run Try.prog w = .ok (.slice A 4 4) w := fun w => slice_03 w A xs.length c 4 4 (by omega) (by omega)
  have s2 : ∀ w, (Instr.sliceAt 22 (.slice A xs.length c) (some (.int .i64 4)) (some (.int .i64 8)) (some (.int .i64 8))).run Try.prog w = .ok (.slice (dropA A 4 8) 4 4) w := fun w => slice_3 w A xs.length c 4 8 8 (by omega) (by omega) (by omega)
  have k1 := slB_head h 4 4 (by omega) (by omega) (by omega)
  have k2 := slB_cut h 4 8 8 (by omega) (by omega) (by omega) (by omega)
  have l1 : (xs.take 4).length = 4 := by rw [List.length_take]; omega
  have l2 : ((xs.drop 4).take 4).length = 4 := by rw [List.length_take, List.length_drop]; omega
  have r1 := LeG.Read_any A (xs.take 4) 4 w (by omega) k1.1
  have r2 := LeG.Read_any (dropA A 4 8) ((xs.drop 4).take 4) 4 w (by omega) k2.1
  rw [readV_four l1, l1] at r1
  rw [readV_four l2, l2] at r2
  have R1 := Lib.hid r1
  have R2 := Lib.hid r2
  clear r1 r2 k1 k2 h l1 l2 hc
  go_enter Try.func25, Try.ntmps25
  go_wp2_with fail
  refine R1.out.mono ?_
  rintro e w1 ⟨rfl, rfl⟩
  go_wp2_with fail
  refine R2.out.mono ?_
  rintro e w1 ⟨rfl, rfl⟩
  go_wp2_with fail
  go_ret2
  exact ⟨rfl, rfl⟩

/-- A framer's two cells. -/
def Box (w : World) (b : Nat) (v0 v1 : Value) : Prop :=
  w.cell? ⟨b, 0, none⟩ = some v0 ∧ w.cell? ⟨b, 1, none⟩ = some v1 ∧ w.frozen? ⟨b, 0, none⟩ = false ∧ w.frozen? ⟨b, 1, none⟩ = false

theorem box_new (w : World) (v0 v1 : Value) : Box (w.alloc (.cells #[v0, v1] 24)) w.heap.size v0 v1 := by
  refine ⟨?_, ?_, ?_, ?_⟩ <;> first | (rw [World.cell?_alloc_at (hn := rfl)]; rfl) | (unfold World.frozen?; rw [heap_alloc_new]; rfl)

theorem Box.lt {w : World} {b : Nat} {v0 v1 : Value} (h : Box w b v0 v1) : b < w.heap.size := World.block_lt_of_cell? w _ h.1

theorem Box.below {w w' : World} {B b : Nat} {v0 v1 : Value} (h : Box w b v0 v1) (hb : Below B w w') (hB : b < B) : Box w' b v0 v1 := by
  obtain ⟨h1, h2, h3, h4⟩ := h
  exact ⟨(hb.cell (p := ⟨b, 0, none⟩) hB).trans h1, (hb.cell (p := ⟨b, 1, none⟩) hB).trans h2, (hb.frozen (p := ⟨b, 0, none⟩) hB).trans h3, (hb.frozen (p := ⟨b, 1, none⟩) hB).trans h4⟩

theorem Box.kept {w w' : World} {b : Nat} {v0 v1 : Value} (h : Box w b v0 v1) (hb : Below w.heap.size w w') : Box w' b v0 v1 := h.below hb h.lt

theorem box_store {w : World} {b : Nat} {v0 v1 : Value} (h : Box w b v0 v1) (u0 u1 : Value) : Box ((w.setCell ⟨b, 0, none⟩ u0).setCell ⟨b, 1, none⟩ u1) b u0 u1 := by
  obtain ⟨h1, h2, h3, h4⟩ := h
  have n1 : (⟨b, 1, none⟩ : Addr) ≠ ⟨b, 0, none⟩ := by simp
  have n0 : (⟨b, 0, none⟩ : Addr) ≠ ⟨b, 1, none⟩ := by simp
  refine ⟨?_, ?_, ?_, ?_⟩
  · rw [World.cell?_setCell_other (h := n1)]
    exact World.cell?_setCell_same _ _ _ h1
  · exact World.cell?_setCell_same (u := v1) _ _ _ (by rw [World.cell?_setCell_other (h := n0)]; exact h2)
  · rw [World.frozen?_setCell, World.frozen?_setCell]
    exact h3
  · rw [World.frozen?_setCell, World.frozen?_setCell]
    exact h4

/-- A store elsewhere. -/
theorem SlB.off {w : World} {A : Option Addr} {xs : List Int} {c b i : Nat} {v : Value} (h : SlB w A xs c) (hb : ∀ a, A = some a → a.block ≠ b) : SlB (w.setCell ⟨b, i, none⟩ v) A xs c := by
  refine ⟨⟨h.1.1, fun hx => ?_⟩, h.2⟩
  obtain ⟨g, o, e, hc⟩ := h.1.2 hx
  refine ⟨g, o, e, fun j hj => ?_⟩
  have hne : g ≠ b := hb _ e
  rw [World.cell?_setCell_other (h := fun e' => hne (by injection e' with e1 _; exact e1.symm))]
  exact hc j hj

theorem Below.stored {B b : Nat} {w w' : World} (h : Below B w w') (hb : B ≤ b) (u0 u1 : Value) : Below B w ((w'.setCell ⟨b, 0, none⟩ u0).setCell ⟨b, 1, none⟩ u1) := (h.setCell hb _).setCell hb _

set_option maxRecDepth 100000 in
theorem waiting_any (A : Option Addr) (xs : List Int) (c : Nat) (w : World) (h : SlB w A xs c) (hm : xs.length ≤ 100000000) :
    Calls Try.prog 24 #[.slice A xs.length c] w fun e w' => ∃ A' c', e = .returned (.agg #[.slice A' xs.length c', .bool false]) ∧ SlB w' A' xs c' ∧ (∀ a, A' = some a → w.heap.size ≤ a.block) ∧ Below w.heap.size w w' := by
  have Hc := Lib.hid (fun W hW => Clone_any A xs c W (SlB.kept h hW) hm)
  go_enter Try.func24, Try.ntmps24
  go_wp2_with fail
  refine (Hc.out _ ((Below.refl _ w).alloc (Nat.le_refl _) _)).mono ?_
  rintro e w1 ⟨A', c', rfl, h1, h2, h3⟩
  have hbx := (box_new w (.slice none 0 0) (.bool false)).kept h3
  have hz := h3.size
  have ho : ∀ a, A' = some a → a.block ≠ w.heap.size := fun a ha => by
    have := (h2 a ha).2.1
    simp at this
    omega
  have HL := Lib.hid (show ∀ a, A' = some a → w.heap.size ≤ a.block from fun a ha => by
    have := (h2 a ha).2.1
    simp at this
    omega)
  have HS := Lib.hid (SlB.off (i := 1) (v := .bool false) (SlB.off (i := 0) (v := .slice A' xs.length c') h1 ho) ho)
  have HB := Lib.hid (Below.stored (((Below.refl _ w).alloc (Nat.le_refl _) _).trans (h3.mono (by simp))) (Nat.le_refl _) (.slice A' xs.length c') (.bool false))
  obtain ⟨r0, r1, _, _⟩ := box_store hbx (.slice A' xs.length c') (.bool false)
  obtain ⟨b0, b1, b2, b3⟩ := hbx
  clear h1 h2 h3 h hm Hc ho hz
  have R0 := Lib.hid r0
  have R1 := Lib.hid r1
  clear r0 r1
  go_wp2_with fail
  obtain ⟨W2, hW2⟩ : ∃ W2, W2 = (w1.setCell ⟨w.heap.size, 0, none⟩ (.slice A' xs.length c')).setCell ⟨w.heap.size, 1, none⟩ (.bool false) := ⟨_, rfl⟩
  rw [← hW2] at HS HB R0 R1 ⊢
  have r0 := R0.out
  have r1 := R1.out
  clear hW2 b0 b1 b2 b3
  exact bodyPost_ret (v := .agg #[.slice A' xs.length c', .bool false]) (by simp [results, Try.results24, go_sem, r0, r1]) rfl ⟨A', c', rfl, HS.out, HL.out, HB.out⟩

set_option maxRecDepth 100000 in
theorem dead_any (w : World) :
    Calls Try.prog 26 #[] w fun e w' => e = .returned (.agg #[.slice none 0 0, .bool true]) ∧ Below w.heap.size w w' := by
  go_enter Try.func26, Try.ntmps26
  go_wp2_with fail
  obtain ⟨r0, r1, _, _⟩ := box_new w (.slice none 0 0) (.bool true)
  exact bodyPost_ret (v := .agg #[.slice none 0 0, .bool true]) (by simp [results, Try.results26, go_sem]) rfl ⟨rfl, (Below.refl _ _).alloc (Nat.le_refl _) _⟩

/-- A framer as a value. -/
def frm (A : Option Addr) (n c : Nat) (d : Bool) : Value := .agg #[.slice A n c, .bool d]

set_option maxRecDepth 100000 in
theorem Same_any (A B : Option Addr) (xs ys : List Int) (c k : Nat) (d f : Bool) (w : World) (h : SlB w A xs c) (g : SlB w B ys k) :
    Calls Try.prog 17 #[frm A xs.length c d, frm B ys.length k f] w fun e w' => e = .returned (.bool (d == f && decide (xs = ys))) ∧ Below w.heap.size w w' := by
  unfold frm
  have He := Lib.hid (fun W (hW : Below w.heap.size w W) => Equal_run A B xs ys c k W (h.kept hW) (g.kept hW))
  clear h g
  cases d <;> cases f
  all_goals
    go_enter Try.func17, Try.ntmps17
    go_wp2_with fail
    first
      | (refine (He.out _ (((Below.refl _ w).alloc (Nat.le_refl _) _).alloc (by simp) _)).mono ?_
         rintro e w1 ⟨rfl, rfl⟩
         go_wp2_with fail
         go_ret
         exact ⟨by simp, ((Below.refl _ w).alloc (Nat.le_refl _) _).alloc (by simp) _⟩)
      | (go_ret
         exact ⟨by simp, ((Below.refl _ w).alloc (Nat.le_refl _) _).alloc (by simp) _⟩)
end Go.Proofs.Ytofmgbncaokmdaa.Fr
