/- The document's answer of layer 2: step, Next and Of; they only read; asked: a slice reads as bytes. -/
import Derived.Test.YtofmgbncaokmdaaCrcNext
namespace Go.Proofs.Ytofmgbncaokmdaa.Crc
open Go.RowKit Go.Proofs.Ytofmgbncaokmdaa.CrcM Go.Proofs.Ytofmgbncaokmdaa.BM

theorem rstep_any (w : Nat) (W : World) (h : w < 4294967296) :
    Calls Try.prog 34 #[.int .u32 (w : Int)] W fun e w' => e = .returned (.int .u32 ((stepN w : Nat) : Int)) ∧ W = w' := by
  have hx := xor_odd w h
  have HX := Lib.hid hx
  clear hx
  by_cases hp : w % 2 = 1
  · have hd : ((w : Int) % 2 == 1) = true := by rw [beq_iff_eq]; omega
    go_enter Try.func34, Try.ntmps34
    go_wp2
    go_ret
    refine ⟨ret_int ?_, rfl⟩
    rw [stepN, if_pos hp]
    exact HX.out
  · have hd : ((w : Int) % 2 == 1) = false := by rw [beq_eq_false_iff_ne]; omega
    go_enter Try.func34, Try.ntmps34
    go_wp2
    go_ret
    refine ⟨ret_int ?_, rfl⟩
    rw [stepN, if_neg hp]
    omega

theorem inv_bits2 (s : Nat) (h : s < 4294967296) : bits .xor .u32 (s : Int) 4294967295 = ((inv s : Nat) : Int) := by
  have h1 := u32_xor_nat s 4294967295 h (by decide)
  rw [inv_xor h] at h1
  exact h1

set_option maxRecDepth 100000 in
set_option maxHeartbeats 1000000 in
theorem RNext_any (s : Nat) (A : Option Addr) (xs : List Int) (cap : Nat) (W : World) (hs : s < 4294967296) (hm : xs.length ≤ 9223372036854775807) (h : IsB W A xs) :
    Calls Try.prog 31 #[.int .u32 (s : Int), .slice A xs.length cap] W fun e w' => e = .returned (.int .u32 ((next s xs : Nat) : Int)) ∧ W = w' := by
  have Hi := Lib.hid (inv_bits2 s hs)
  have hi := inv_lt s
  have Hst := Lib.hid (fun v hv => rstep_any v W hv)
  go_enter Try.func31, Try.ntmps31
  go_wp2_with fail
  go_loop [5, 6] (fun v i => ∃ k : Nat, k ≤ xs.length ∧ i = .int .i64 k ∧ v = .int .u32 ((fold (inv s) (xs.take k) : Nat) : Int)) (fun _ i => xs.length - (intOf i).toNat)
  case atStart => exact ⟨0, by omega, rfl, congrArg (Value.int .u32) Hi.out⟩
  case round =>
    obtain ⟨k, hk, rfl, rfl⟩ := hrel
    have hbt : Bytes (xs.take k) := fun y hy => h.1 y (List.mem_of_mem_take hy)
    have hf := fold_lt (xs.take k) hi hbt
    clear hbt
    by_cases hlt : k < xs.length
    · obtain ⟨b, o, rfl, hc⟩ := h.2 (by omega)
      have hcell := hc k hlt
      have hbk : 0 ≤ xs.getD k 0 ∧ xs.getD k 0 < 256 := by
        rw [List.getD_eq_getElem?_getD, List.getElem?_eq_getElem hlt]
        exact h.1 _ (List.getElem_mem hlt)
      have HS := Lib.hid (take_snocB xs k hlt)
      obtain ⟨x, hx⟩ : ∃ x, x = (xs.getD k 0).toNat := ⟨_, rfl⟩
      have hxe : xs.getD k 0 = (x : Int) := by omega
      have hx256 : x < 256 := by omega
      rw [hxe] at hcell HS
      obtain ⟨v, hv⟩ : ∃ v, v = fold (inv s) (xs.take k) := ⟨_, rfl⟩
      rw [← hv] at hf ⊢
      have HV := Lib.hid hv
      have Hx := Lib.hid (u32_xor_nat v x hf (by omega))
      have hu := xor_lt hf (show x < 4294967296 by omega)
      clear hc hbk hx hxe hv h
      go_wp2_with fail
      go_loop [5, 7] (fun u j => ∃ i : Nat, i ≤ 8 ∧ j = .int .i64 i ∧ u = .int .u32 ((rep i (v ^^^ x) : Nat) : Int)) (fun _ j => 8 - (intOf j).toNat)
      case atStart => exact ⟨0, by omega, rfl, congrArg (Value.int .u32) Hx.out⟩
      case round =>
        obtain ⟨i, hi8, rfl, rfl⟩ := hrel
        have hr := rep_lt hu i
        by_cases h8 : i < 8
        · go_wp2_with fail
          refine (Hst.out _ hr).mono ?_
          rintro e w1 ⟨rfl, rfl⟩
          go_wp2_with fail
          go_round
          case rel => exact ⟨i + 1, by omega, by go_num, rfl⟩
          case measure => simp [intOf]; omega
        · obtain rfl : i = 8 := by omega
          go_wp2_with fail
          go_round
          case rel =>
            refine ⟨k + 1, by omega, by go_num, congrArg (fun z : Nat => Value.int .u32 (z : Int)) ?_⟩
            rw [HS.out, fold_snoc, ← HV.out, Int.toNat_natCast]
            rfl
          case measure => simp [intOf]; omega
    · obtain rfl : k = xs.length := by omega
      rw [List.take_length] at hf ⊢
      have Hf := Lib.hid (inv_bits2 (fold (inv s) xs) hf)
      go_wp2_with fail
      go_ret
      exact ⟨congrArg (fun z => Ending.returned (.int .u32 z)) Hf.out, rfl⟩

theorem ROf_any (A : Option Addr) (xs : List Int) (cap : Nat) (W : World) (hm : xs.length ≤ 9223372036854775807) (h : IsB W A xs) :
    Calls Try.prog 22 #[.slice A xs.length cap] W fun e w' => e = .returned (.int .u32 ((next 0 xs : Nat) : Int)) ∧ W = w' := by
  have Hn := Lib.hid (RNext_any 0 A xs cap W (by decide) hm h)
  go_enter Try.func22, Try.ntmps22
  go_wp2_with fail
  refine Hn.out.mono ?_
  rintro e w' ⟨rfl, rfl⟩
  go_wp2_with fail
  go_ret
  exact ⟨rfl, rfl⟩
end Go.Proofs.Ytofmgbncaokmdaa.Crc
