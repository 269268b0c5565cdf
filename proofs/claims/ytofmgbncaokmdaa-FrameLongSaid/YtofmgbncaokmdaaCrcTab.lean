/- The closure of the program that keeps each byte's eight steps: what it answers, and what it keeps; nothing is asked but that the table holds noughts or what was worked out. -/
import Derived.Test.YtofmgbncaokmdaaCrcStep
namespace Go.Proofs.Ytofmgbncaokmdaa.Crc
open Go.RowKit Go.Proofs.Ytofmgbncaokmdaa.CrcM Go.Proofs.Ytofmgbncaokmdaa.BM

set_option maxRecDepth 100000 in
theorem zero_tab (w : World) : (zeroValue 58).run Try.prog w = .ok (.agg (Array.replicate 256 (.int .u32 0))) w := by kernel_rfl

/-- The table: each place is nought, or what its byte comes to. -/
def Tab (B : Nat) (w : World) : Prop :=
  ∃ C : Array Value, w.heap[B]? = some (.cells C 58 (0, 0)) ∧ C.size = 256 ∧ ∀ j, j < 256 → ∃ v : Nat, C[j]? = some (.int .u32 (v : Int)) ∧ (v = 0 ∨ v = s8 j)

theorem tab_cell {B : Nat} {w : World} (h : Tab B w) (j : Nat) (hj : j < 256) : ∃ v : Nat, w.cell? ⟨B, j, none⟩ = some (.int .u32 (v : Int)) ∧ (v = 0 ∨ v = s8 j) := by
  obtain ⟨C, h1, h2, h3⟩ := h
  obtain ⟨v, hv, ho⟩ := h3 j hj
  refine ⟨v, ?_, ho⟩
  simp [World.cell?, h1, hv]

theorem tab_free {B : Nat} {w : World} (h : Tab B w) (j : Nat) : w.frozen? ⟨B, j, none⟩ = false := by
  obtain ⟨C, h1, h2, h3⟩ := h
  simp [World.frozen?, h1]

theorem tab_lt {B : Nat} {w : World} (h : Tab B w) : B < w.heap.size := by
  obtain ⟨C, h1, _⟩ := h
  exact lt_of_block h1

theorem tab_set {B : Nat} {w : World} (h : Tab B w) (j : Nat) (hj : j < 256) : Tab B (w.setCell ⟨B, j, none⟩ (.int .u32 ((s8 j : Nat) : Int))) := by
  have hlt := tab_lt h
  obtain ⟨C, h1, h2, h3⟩ := h
  refine ⟨C.setIfInBounds j (.int .u32 ((s8 j : Nat) : Int)), ?_, by simp [h2], fun i hi => ?_⟩
  · have h' : w.heap[B] = .cells C 58 (0, 0) := by simpa [Array.getElem?_eq_getElem hlt] using h1
    show (w.heap.modify B _)[B]? = _
    rw [Array.getElem?_eq_getElem (by simpa using hlt), Array.getElem_modify_self, h']
    rfl
  · by_cases hij : i = j
    · subst hij
      exact ⟨s8 i, by simp [h2, hi], Or.inr rfl⟩
    · obtain ⟨v, hv, ho⟩ := h3 i hi
      refine ⟨v, ?_, ho⟩
      rw [Array.getElem?_setIfInBounds_ne (fun e => hij e.symm), hv]

theorem tab_new (w : World) : Tab w.heap.size (w.alloc (.cells (Array.replicate 256 (.int .u32 0)) 58)) :=
  ⟨_, heap_alloc_new _ _, by simp, fun j hj => ⟨0, by simp [hj], Or.inl rfl⟩⟩

set_option maxRecDepth 100000 in
theorem stepper_any (W : World) :
    Calls Try.prog 33 #[] W fun e w' => e = .returned (.func (.func 35) #[] #[.pointer (some ⟨W.heap.size, 0, none⟩)]) ∧ W.alloc (.cells (Array.replicate 256 (.int .u32 0)) 58) = w' := by
  have hmf : ∀ (fn : Fn) (first cap : Array Value) (w : World), (Instr.makeFunc fn first cap).run Try.prog w = .ok (.func fn first cap) w := fun _ _ _ _ => rfl
  have hz := zero_tab
  go_enter Try.func33, Try.ntmps33
  go_wp2_with fail
  go_ret
  exact ⟨rfl, rfl⟩

set_option maxRecDepth 100000 in
theorem clo_any (B x : Nat) (W : World) (hx : x < 256) (ht : Tab B W) :
    Calls Try.prog 35 #[.int .u8 (x : Int), .pointer (some ⟨B, 0, none⟩)] W fun e w' => e = .returned (.int .u32 ((s8 x : Nat) : Int)) ∧ Tab B w' ∧ Below B W w' := by
  obtain ⟨v, hc, ho⟩ := tab_cell ht x hx
  have hfr := tab_free ht x
  by_cases hv : v = 0 ∧ x ≠ 0
  · obtain ⟨rfl, hx0⟩ := hv
    have hd : ((x : Int) != 0) = true := by rw [bne_iff_ne]; omega
    have Hs := Lib.hid (stepEight_any x W (by omega))
    have Ht := Lib.hid (tab_set ht x hx)
    have Hb := Lib.hid (show Below B W (W.setCell ⟨B, x, none⟩ (.int .u32 ((s8 x : Nat) : Int))) from (Below.refl B W).setCell (Nat.le_refl B) _)
    clear ho
    go_enter Try.func35, Try.ntmps35
    go_wp2_with fail
    refine Hs.out.mono ?_
    rintro e w' ⟨rfl, rfl⟩
    go_wp2_with fail
    go_ret
    exact ⟨rfl, Ht.out, Hb.out⟩
  · have hvs : v = s8 x := by
      rcases ho with h | h
      · have hx0 : x = 0 := by
          rcases Nat.eq_zero_or_pos x with h0 | h0
          · exact h0
          · exact absurd ⟨h, by omega⟩ hv
        subst hx0
        rw [h]
        decide
      · exact h
    have hd : (((v : Int) == 0) && ((x : Int) != 0)) = false := by
      rw [Bool.eq_false_iff]
      intro h
      simp at h
      exact hv ⟨by omega, by omega⟩
    have HV := Lib.hid hvs
    clear hvs ho hv
    by_cases h0 : v = 0
    · have hv0 : ((v : Int) == 0) = true := by rw [beq_iff_eq]; omega
      have hx0 : ((x : Int) != 0) = false := by rw [hv0] at hd; simpa using hd
      clear hd
      go_enter Try.func35, Try.ntmps35
      go_wp2_with fail
      go_ret
      exact ⟨ret_int (by have := HV.out; omega), ht, Below.refl _ _⟩
    · have hv0 : ((v : Int) == 0) = false := by rw [beq_eq_false_iff_ne]; omega
      clear hd
      go_enter Try.func35, Try.ntmps35
      go_wp2_with fail
      go_ret
      exact ⟨ret_int (by have := HV.out; omega), ht, Below.refl _ _⟩
end Go.Proofs.Ytofmgbncaokmdaa.Crc
