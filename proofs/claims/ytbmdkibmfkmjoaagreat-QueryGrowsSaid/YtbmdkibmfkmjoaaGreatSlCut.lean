/- Cutting a slice of bytes: b[:k] by a uint64, b[l:h], b[l:h:m]; no function of the program; nothing is asked. -/
import Derived.Test.YtbmdkibmfkmjoaaGreatSlB
namespace Go.Proofs.YtbmdkibmfkmjoaaGreat.Cut
open Go.RowKit Go.Proofs.YtbmdkibmfkmjoaaGreat.BM Go.Proofs.YtbmdkibmfkmjoaaGreat.LM

/-- b[:k], k of any kind -/
theorem slice_hi_k (K : IntKind) (w : World) (A : Option Addr) (len cap k : Nat) (hk : k ≤ cap) :
    (Instr.sliceAt 26 (.slice A len cap) none (some (.int K (k : Int))) none).run Tryz.prog w = .ok (.slice A k cap) w := by
  rw [run_sliceAt_slice w _ _ _ _ _ elem_b, run_slice_h w _ _ _ _ elem_b K (k : Int) (by omega) (by omega), size_b]
  simp only [Result.andThen, sliced, Int.toNat_natCast, Nat.zero_mul, Nat.sub_zero]
  congr 2
  split
  · rfl
  · cases A <;> simp [Addr.add]

/-- b[l:h:m] -/
theorem slice_3 (w : World) (A : Option Addr) (len cap l h m : Nat) (h1 : l ≤ h) (h2 : h ≤ m) (h3 : m ≤ cap) :
    (Instr.sliceAt 26 (.slice A len cap) (some (.int .i64 (l : Int))) (some (.int .i64 (h : Int))) (some (.int .i64 (m : Int)))).run Tryz.prog w = .ok (.slice (dropA A l m) (h - l) (m - l)) w := by
  rw [run_sliceAt_slice w _ _ _ _ _ elem_b, run_slice_lhm w _ _ _ _ elem_b .i64 .i64 .i64 (l : Int) (h : Int) (m : Int) (by omega) (by omega) (by omega) (by omega), size_b]
  simp only [Result.andThen, sliced, Int.toNat_natCast, Nat.mul_one]
  rfl

/-- b[l:h] -/
theorem slice_2 (w : World) (A : Option Addr) (len cap l h : Nat) (h1 : l ≤ h) (h3 : h ≤ cap) :
    (Instr.sliceAt 26 (.slice A len cap) (some (.int .i64 (l : Int))) (some (.int .i64 (h : Int))) none).run Tryz.prog w = .ok (.slice (dropA A l cap) (h - l) (cap - l)) w := by
  rw [run_sliceAt_slice w _ _ _ _ _ elem_b, run_slice_lh w _ _ _ _ elem_b .i64 .i64 (l : Int) (h : Int) (by omega) (by omega) (by omega), size_b]
  simp only [Result.andThen, sliced, Int.toNat_natCast, Nat.mul_one]
  rfl

theorem slB_cut {w : World} {A : Option Addr} {xs : List Int} {c : Nat} (hx : SlB w A xs c) (l h m : Nat) (h1 : l ≤ h) (h2 : h ≤ m) (h3 : m ≤ c) (h4 : h ≤ xs.length) : SlB w (dropA A l m) ((xs.drop l).take (h - l)) (m - l) := by
  have hlen : ((xs.drop l).take (h - l)).length = h - l := by rw [List.length_take, List.length_drop]; omega
  refine ⟨⟨fun x hx' => hx.1.1 x (List.mem_of_mem_drop (List.mem_of_mem_take hx')), fun h0 => ?_⟩, by omega, ?_, by have := hx.2.2.2; omega⟩
  · rw [hlen] at h0
    obtain ⟨b, o, rfl, hc⟩ := hx.1.2 (by omega)
    have e : dropA (some ⟨b, o, none⟩) l m = some ⟨b, o + l, none⟩ := by
      unfold dropA
      rw [if_neg (by omega)]
      simp [Addr.add_lit]
    refine ⟨b, o + l, e, fun j hj => ?_⟩
    rw [hlen] at hj
    rw [Nat.add_assoc, hc (l + j) (by omega)]
    simp [List.getD_eq_getElem?_getD, List.getElem?_drop, hj]
  · intro hn
    unfold dropA at hn
    split at hn
    · omega
    · cases A with
      | none => have := hx.2.2.1 rfl; omega
      | some a => simp at hn

/-- b[k:] -/
theorem slB_drop {w : World} {A : Option Addr} {xs : List Int} {c : Nat} (hx : SlB w A xs c) (k : Nat) (hk : k ≤ xs.length) : SlB w (dropA A k c) (xs.drop k) (c - k) := by
  have h := slB_cut hx k xs.length c hk hx.2.1 (Nat.le_refl _) (Nat.le_refl _)
  rw [List.take_of_length_le (by rw [List.length_drop]; omega)] at h
  exact h

theorem slB_head {w : World} {A : Option Addr} {xs : List Int} {c : Nat} (hx : SlB w A xs c) (h m : Nat) (h2 : h ≤ m) (h3 : m ≤ c) (h4 : h ≤ xs.length) : SlB w A (xs.take h) m := by
  refine ⟨isB_take hx.1 h, by rw [List.length_take]; omega, fun hn => ?_, by have := hx.2.2.2; omega⟩
  have := hx.2.2.1 hn
  omega
end Go.Proofs.YtbmdkibmfkmjoaaGreat.Cut
