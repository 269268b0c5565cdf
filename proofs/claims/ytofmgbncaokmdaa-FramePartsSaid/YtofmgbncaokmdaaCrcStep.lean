/- step, stepEight, the closure that keeps them, of the program, and step of the document's answer; at every number of their types; nothing is asked. -/
import Derived.Test.YtofmgbncaokmdaaCrcMath
import Derived.Test.YtofmgbncaokmdaaBMem
namespace Go.Proofs.Ytofmgbncaokmdaa.Crc
open Go.RowKit Go.Proofs.Ytofmgbncaokmdaa.CrcM Go.Proofs.Ytofmgbncaokmdaa.BM

theorem xor_odd (w : Nat) (h : w < 4294967296) : bits .xor .u32 ((w : Int) / 2) 3988292384 = ((w / 2 ^^^ 3988292384 : Nat) : Int) := by
  have h1 := u32_xor_nat (w / 2) 3988292384 (by omega) (by decide)
  have e : ((w / 2 : Nat) : Int) = (w : Int) / 2 := by omega
  rw [e] at h1
  exact h1

theorem step_any (w : Nat) (W : World) (h : w < 4294967296) :
    Calls Try.prog 37 #[.int .u32 (w : Int)] W fun e w' => e = .returned (.int .u32 ((stepN w : Nat) : Int)) ∧ W = w' := by
  have hx := xor_odd w h
  have HX := Lib.hid hx
  clear hx
  by_cases hp : w % 2 = 1
  · have hd : ((w : Int) % 2 == 1) = true := by rw [beq_iff_eq]; omega
    go_enter Try.func37, Try.ntmps37
    go_wp2
    go_ret
    refine ⟨ret_int ?_, rfl⟩
    rw [stepN, if_pos hp]
    exact HX.out
  · have hd : ((w : Int) % 2 == 1) = false := by rw [beq_eq_false_iff_ne]; omega
    go_enter Try.func37, Try.ntmps37
    go_wp2
    go_ret
    refine ⟨ret_int ?_, rfl⟩
    rw [stepN, if_neg hp]
    omega

theorem stepEight_any (w : Nat) (W : World) (h : w < 4294967296) :
    Calls Try.prog 36 #[.int .u32 (w : Int)] W fun e w' => e = .returned (.int .u32 ((s8 w : Nat) : Int)) ∧ W = w' := by
  have Hs := Lib.hid (fun v hv => step_any v W hv)
  go_enter Try.func36, Try.ntmps36
  go_wp2_with fail
  go_loop [0, 3] (fun v i => ∃ k : Nat, k ≤ 8 ∧ i = .int .i64 k ∧ v = .int .u32 ((rep k w : Nat) : Int)) (fun _ i => 8 - (intOf i).toNat)
  case atStart => exact ⟨0, by omega, rfl, rfl⟩
  case round =>
    obtain ⟨k, hk, rfl, rfl⟩ := hrel
    have hlt := rep_lt h k
    by_cases hk8 : k < 8
    · go_wp2_with fail
      refine (Hs.out _ hlt).mono ?_
      rintro e w' ⟨rfl, rfl⟩
      go_wp2_with fail
      go_round
      case rel => exact ⟨k + 1, by omega, by go_num, rfl⟩
      case measure => simp [intOf]; omega
    · obtain rfl : k = 8 := by omega
      go_wp2_with fail
      go_ret
      exact ⟨rfl, rfl⟩
end Go.Proofs.Ytofmgbncaokmdaa.Crc
