/- Word and Read of the program: what they answer of any number, and of any bytes; asked: a slice reads as bytes. -/
import Derived.Test.YtofmgbncaokmdaaBMem
namespace Go.Proofs.Ytofmgbncaokmdaa.LeG
open Go.RowKit Go.Proofs.Ytofmgbncaokmdaa.BM

def wordL (n : Int) : List Int := [n % 256, n / 256 % 256, n / 65536 % 256, n / 16777216]
theorem wordL_bytes {n : Int} (h0 : 0 ≤ n) (h1 : n ≤ 4294967295) : ∀ x ∈ wordL n, (0 : Int) ≤ x ∧ x < 256 := by
  intro x hx
  simp only [wordL, List.mem_cons, List.not_mem_nil, or_false] at hx
  omega

/-- The number of four bytes. -/
def readN (xs : List Int) : Int := xs.getD 0 0 + 256 * xs.getD 1 0 + 65536 * xs.getD 2 0 + 16777216 * xs.getD 3 0

/-- The answer of Read, as a value. -/
def readV (xs : List Int) : Value := if xs.length = 4 then .tuple #[.int .u32 (readN xs), .bool true] else .tuple #[.int .u32 0, .bool false]

theorem make4 (w : World) : (Instr.makeSlice 22 (.int .i64 4) (.int .i64 4)).run Try.prog w = .ok (.slice (some ⟨w.heap.size, 0, none⟩) 4 4) (w.alloc (.cells #[.int .u8 0, .int .u8 0, .int .u8 0, .int .u8 0] 5)) := by kernel_rfl

theorem Word_any (n : Int) (w : World) (h0 : 0 ≤ n) (h1 : n ≤ 4294967295) :
    Calls Try.prog 19 #[.int .u32 n] w fun e w' => e = .returned (.slice (some ⟨w.heap.size, 0, none⟩) 4 4) ∧ w.alloc (.cells (cs (wordL n)).toArray 5) = w' := by
  have hmk := make4
  go_enter Try.func19, Try.ntmps19
  go_wp2
  refine wp_loop_rounds 5 ?_
  rw [rounds_succ]; go_wp2
  rw [rounds_succ]; go_wp2
  rw [rounds_succ]; go_wp2
  rw [rounds_succ]; go_wp2
  rw [rounds_succ]; go_wp2
  go_ret
  exact ⟨rfl, rfl⟩

theorem Word_mem (n : Int) (w : World) (h0 : 0 ≤ n) (h1 : n ≤ 4294967295) :
    Calls Try.prog 19 #[.int .u32 n] w fun e w' => e = .returned (.slice (some ⟨w.heap.size, 0, none⟩) 4 4) ∧ IsB w' (some ⟨w.heap.size, 0, none⟩) (wordL n) ∧ Below w.heap.size w w' := by
  refine (Word_any n w h0 h1).mono ?_
  rintro e w' ⟨rfl, rfl⟩
  exact ⟨rfl, isB_new w _ (wordL_bytes h0 h1), (Below.refl _ _).alloc (Nat.le_refl _) _⟩

theorem Read_no (A : Option Addr) (len cap : Nat) (w : World) (h : len ≠ 4) (_hm : len ≤ 9223372036854775807) :
    Calls Try.prog 32 #[.slice A len cap] w fun e w' => e = .returned (.tuple #[.int .u32 0, .bool false]) ∧ w = w' := by
  have hd : ((len : Int) == 4) = false := by rw [beq_eq_false_iff_ne]; omega
  go_enter Try.func32, Try.ntmps32
  go_wp2
  go_ret2
  exact ⟨rfl, rfl⟩

theorem or_place (i a b : Nat) (hi : i ≤ 24) (ha : a < 2 ^ i) (hb : b < 256) : bits .or .u32 (a : Int) ((b : Int) * ((2 ^ i : Nat) : Int)) = ((a + b * 2 ^ i : Nat) : Int) ∧ a + b * 2 ^ i < 2 ^ (i + 8) := by
  have hp : 2 ^ i ≤ 2 ^ 24 := Nat.pow_le_pow_right (by decide) hi
  have hlt : b * 2 ^ i < 4294967296 := by
    have h : b * 2 ^ i ≤ 255 * 2 ^ 24 := Nat.mul_le_mul (by omega) hp
    omega
  have hj := nat_join i (b * 2 ^ i) a (by simp) ha
  have hor := u32_or_nat a (b * 2 ^ i) (by omega) hlt
  rw [Nat.or_comm, hj, Nat.add_comm] at hor
  refine ⟨by rw [← hor]; simp, ?_⟩
  have h : b * 2 ^ i ≤ 255 * 2 ^ i := Nat.mul_le_mul_right _ (by omega)
  rw [Nat.pow_add]
  omega

theorem or_all (x0 x1 x2 x3 : Int) (hb0 : 0 ≤ x0 ∧ x0 < 256) (hb1 : 0 ≤ x1 ∧ x1 < 256) (hb2 : 0 ≤ x2 ∧ x2 < 256) (hb3 : 0 ≤ x3 ∧ x3 < 256) :
    bits .or .u32 (bits .or .u32 (bits .or .u32 (bits .or .u32 0 x0) (x1 * 256)) (x2 * 65536)) (x3 * 16777216) = x0 + 256 * x1 + 65536 * x2 + 16777216 * x3 := by
  obtain ⟨n0, rfl⟩ := Int.eq_ofNat_of_zero_le hb0.1
  obtain ⟨n1, rfl⟩ := Int.eq_ofNat_of_zero_le hb1.1
  obtain ⟨n2, rfl⟩ := Int.eq_ofNat_of_zero_le hb2.1
  obtain ⟨n3, rfl⟩ := Int.eq_ofNat_of_zero_le hb3.1
  have h0 : bits .or .u32 0 (n0 : Int) = (n0 : Int) := by
    have h := u32_or_nat 0 n0 (by decide) (by omega)
    rw [Nat.zero_or] at h
    exact h
  have h1 := or_place 8 n0 n1 (by decide) (by omega) (by omega)
  have h2 := or_place 16 (n0 + n1 * 2 ^ 8) n2 (by decide) h1.2 (by omega)
  have h3 := or_place 24 (n0 + n1 * 2 ^ 8 + n2 * 2 ^ 16) n3 (by decide) h2.2 (by omega)
  have e1 := h1.1
  have e2 := h2.1
  have e3 := h3.1
  simp only [Nat.reducePow] at e1 e2 e3
  rw [h0]
  refine Eq.trans (congrArg (fun z => bits .or .u32 (bits .or .u32 z ((n2 : Int) * 65536)) ((n3 : Int) * 16777216)) e1) ?_
  refine Eq.trans (congrArg (fun z => bits .or .u32 z ((n3 : Int) * 16777216)) e2) ?_
  refine Eq.trans e3 ?_
  omega

theorem Read_yes (b o cap : Nat) (x0 x1 x2 x3 : Int) (w : World) (hb0 : 0 ≤ x0 ∧ x0 < 256) (hb1 : 0 ≤ x1 ∧ x1 < 256) (hb2 : 0 ≤ x2 ∧ x2 < 256) (hb3 : 0 ≤ x3 ∧ x3 < 256)
    (c0 : w.cell? ⟨b, o, none⟩ = some (.int .u8 x0)) (c1 : w.cell? ⟨b, o + 1, none⟩ = some (.int .u8 x1)) (c2 : w.cell? ⟨b, o + 2, none⟩ = some (.int .u8 x2)) (c3 : w.cell? ⟨b, o + 3, none⟩ = some (.int .u8 x3)) :
    Calls Try.prog 32 #[.slice (some ⟨b, o, none⟩) 4 cap] w fun e w' => e = .returned (.tuple #[.int .u32 (x0 + 256 * x1 + 65536 * x2 + 16777216 * x3), .bool true]) ∧ w = w' := by
  obtain ⟨a0, b0⟩ := hb0
  obtain ⟨a1, b1⟩ := hb1
  obtain ⟨a2, b2⟩ := hb2
  obtain ⟨a3, b3⟩ := hb3
  go_enter Try.func32, Try.ntmps32
  go_wp2
  refine wp_loop_rounds 5 ?_
  rw [rounds_succ]; go_wp2
  rw [rounds_succ]; go_wp2
  rw [rounds_succ]; go_wp2
  rw [rounds_succ]; go_wp2
  rw [rounds_succ]; go_wp2
  go_ret2
  refine ⟨?_, rfl⟩
  rw [← or_all x0 x1 x2 x3 ⟨a0, b0⟩ ⟨a1, b1⟩ ⟨a2, b2⟩ ⟨a3, b3⟩]
  rfl

theorem Read_any (A : Option Addr) (xs : List Int) (cap : Nat) (w : World) (hm : xs.length ≤ 9223372036854775807) (h : IsB w A xs) :
    Calls Try.prog 32 #[.slice A xs.length cap] w fun e w' => e = .returned (readV xs) ∧ w = w' := by
  by_cases hx : xs.length = 4
  · obtain ⟨b, o, rfl, hc⟩ := h.2 (by omega)
    match xs, hx with
    | [x0, x1, x2, x3], _ =>
      have hb := h.1
      exact Read_yes b o cap x0 x1 x2 x3 w (hb x0 (by simp)) (hb x1 (by simp)) (hb x2 (by simp)) (hb x3 (by simp)) (hc 0 (by simp)) (hc 1 (by simp)) (hc 2 (by simp)) (hc 3 (by simp))
  · refine (Read_no A xs.length cap w hx hm).mono ?_
    rintro e w' ⟨rfl, rfl⟩
    exact ⟨by rw [readV, if_neg hx], rfl⟩
end Go.Proofs.Ytofmgbncaokmdaa.LeG
