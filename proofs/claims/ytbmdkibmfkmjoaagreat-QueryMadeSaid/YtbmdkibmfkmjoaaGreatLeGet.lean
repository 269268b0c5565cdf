/- Get of the program: what it answers of any bytes; it only reads; asked: a slice reads as bytes. -/
import Derived.Test.YtbmdkibmfkmjoaaGreatLePut
namespace Go.Proofs.YtbmdkibmfkmjoaaGreat.LeG
open Go.RowKit Go.Proofs.YtbmdkibmfkmjoaaGreat.LeM Go.Proofs.YtbmdkibmfkmjoaaGreat.LeZ Go.Proofs.YtbmdkibmfkmjoaaGreat.LeP Go.Proofs.YtbmdkibmfkmjoaaGreat.BM

/-- The answer of Get, as a value. -/
def gotV : Option (Nat × Nat) → Value
  | some (v, k) => .tuple #[.int .u64 (v : Int), .int .i64 (k : Int), .bool true]
  | none => .tuple #[.int .u64 0, .int .i64 0, .bool false]

theorem pow7 (k : Nat) : (2 : Int) ^ (7 * k) = ((128 ^ k : Nat) : Int) := by
  have h : (2 ^ (7 * k) : Nat) = 128 ^ k := by rw [Nat.pow_mul]
  rw [← h]
  simp

theorem pow_dvd (k : Nat) (hk : k < 10) : 128 ^ k ∣ 18446744073709551616 := by
  have h : ∀ k : Fin 10, 128 ^ k.val ∣ 18446744073709551616 := by decide +kernel
  exact h ⟨k, hk⟩

theorem pow_le (k : Nat) (hk : k < 10) : 128 ^ k ≤ 9223372036854775808 := by
  have h : ∀ k : Fin 10, 128 ^ k.val ≤ 9223372036854775808 := by decide +kernel
  exact h ⟨k, hk⟩

/-- One group more, as the program joins it. -/
theorem or_group (acc k : Nat) (x : Int) (hk : k < 10) (ha : acc < 128 ^ k) :
    bits .or .u64 (acc : Int) (IntKind.u64.wrap (x % 128 * 2 ^ (7 * k))) = ((acc + 128 ^ k * (x % 128).toNat % 18446744073709551616 : Nat) : Int) ∧ acc + 128 ^ k * (x % 128).toNat % 18446744073709551616 < 18446744073709551616 := by
  have hp := pow_le k hk
  have e1 : IntKind.u64.wrap (x % 128 * 2 ^ (7 * k)) = ((128 ^ k * (x % 128).toNat % 18446744073709551616 : Nat) : Int) := by
    rw [IntKind.wrap_u64, pow7]
    have : x % 128 = ((x % 128).toNat : Int) := by omega
    rw [this]
    simp [Int.mul_comm]
  have hmod : 128 ^ k * (x % 128).toNat % 18446744073709551616 % 128 ^ k = 0 := by
    rw [Nat.mod_mod_of_dvd _ (pow_dvd k hk)]
    simp
  have hj : 128 ^ k * (x % 128).toNat % 18446744073709551616 ||| acc = 128 ^ k * (x % 128).toNat % 18446744073709551616 + acc := by
    have h := nat_join (7 * k) (128 ^ k * (x % 128).toNat % 18446744073709551616) acc
    rw [Nat.pow_mul] at h
    exact h hmod ha
  have hlt : 128 ^ k * (x % 128).toNat % 18446744073709551616 < 18446744073709551616 := Nat.mod_lt _ (by decide)
  have hor := u64_or_nat acc (128 ^ k * (x % 128).toNat % 18446744073709551616) (by omega) hlt
  have hol : acc ||| 128 ^ k * (x % 128).toNat % 18446744073709551616 < 2 ^ 64 := Nat.or_lt_two_pow (by omega) (by omega)
  rw [Nat.or_comm, hj, Nat.add_comm] at hor hol
  exact ⟨by rw [e1]; exact hor, hol⟩

/-- Whether a group fits, as the program asks it. -/
theorem fits (k : Nat) (x : Int) (hk : k < 10) : (IntKind.u64.wrap (x % 128 * 2 ^ (7 * k)) / 2 ^ (7 * k) != x % 128) = decide (18446744073709551616 ≤ 128 ^ k * (x % 128).toNat) := by
  have h : k = 0 ∨ k = 1 ∨ k = 2 ∨ k = 3 ∨ k = 4 ∨ k = 5 ∨ k = 6 ∨ k = 7 ∨ k = 8 ∨ k = 9 := by omega
  rw [Bool.eq_iff_iff]
  simp only [bne_iff_ne, ne_eq, decide_eq_true_eq, IntKind.wrap_u64]
  rcases h with rfl | rfl | rfl | rfl | rfl | rfl | rfl | rfl | rfl | rfl <;> simp only [Nat.reduceMul, Int.reducePow, Nat.reducePow] <;> omega

theorem some_end {xs : List Int} {k acc : Nat} {x : Int} (hk : k < xs.length) (h10 : k < 10) (hge : ∀ x ∈ xs.take k, (128 : Int) ≤ x) (ha : acc = vs (xs.take k)) (hx : x = xs.getD k 0)
    (h128 : x < 128) (h0 : k = 0 ∨ 0 < x) (hf : (IntKind.u64.wrap (x % 128 * 2 ^ (7 * k)) / 2 ^ (7 * k) != x % 128) = decide (18446744073709551616 ≤ 128 ^ k * (x % 128).toNat))
    (h2 : (IntKind.u64.wrap (x % 128 * 2 ^ (7 * k)) / 2 ^ (7 * k) != x % 128) = false)
    (ho : bits .or .u64 (acc : Int) (IntKind.u64.wrap (x % 128 * 2 ^ (7 * k))) = ((acc + 128 ^ k * (x % 128).toNat % 18446744073709551616 : Nat) : Int)) (hb : 0 ≤ x) (hl : acc + 128 ^ k * (x % 128).toNat % 18446744073709551616 < 18446744073709551616) :
    Ending.returned (.tuple #[.int .u64 (bits .or .u64 (acc : Int) (IntKind.u64.wrap (x % 128 * 2 ^ (7 * k)))), .int .i64 ((k : Int) + 1), .bool true]) = .returned (gotV (getS xs)) := by
  have e : x % 128 = x := by omega
  rw [hf, decide_eq_false_iff_not, e] at h2
  rw [ho, e]
  rw [e, Nat.mod_eq_of_lt (by omega)] at hl
  subst ha
  subst hx
  rw [Nat.mod_eq_of_lt (by omega), getS_some hk h10 hge h128 h0 hl]
  rfl

theorem Get_none (A : Option Addr) (cap : Nat) (w : World) :
    Calls Tryz.prog 85 #[.slice A 0 cap] w fun e w' => e = .returned (gotV (getS [])) ∧ w = w' := by
  have hmin : ¬ ((0 : Int) < min 0 10) := by decide
  go_enter Tryz.func85, Tryz.ntmps85
  go_wp2
  go_step3
  go_wp2
  go_step3
  go_wp2
  refine wp_loop_rounds 1 ?_
  rw [rounds_succ]
  go_wp2
  rw [Exit.noGoto_ret]
  go_ret3
  exact ⟨rfl, rfl⟩

theorem Get_some (b o : Nat) (xs : List Int) (cap : Nat) (w : World) (hx : 0 < xs.length) (hm : xs.length ≤ 9223372036854775807) (hb : ∀ x ∈ xs, (0 : Int) ≤ x ∧ x < 256)
    (hc : ∀ j, j < xs.length → w.cell? ⟨b, o + j, none⟩ = some (.int .u8 (xs.getD j 0))) :
    Calls Tryz.prog 85 #[.slice (some ⟨b, o, none⟩) xs.length cap] w fun e w' => e = .returned (gotV (getS xs)) ∧ w = w' := by
  go_enter Tryz.func85, Tryz.ntmps85
  go_wp2
  go_step3
  go_wp2
  go_step3
  go_wp2
  go_loop [5, 12] (fun nn i => ∃ (k acc : Nat), k ≤ xs.length ∧ k ≤ 10 ∧ i = .int .i64 k ∧ nn = .int .u64 acc ∧ acc < 18446744073709551616 ∧ (k < 10 → acc = vs (xs.take k)) ∧ ∀ x ∈ xs.take k, (128 : Int) ≤ x) (fun _ i => 10 - (intOf i).toNat)
  case atStart => exact ⟨0, 0, by omega, by omega, rfl, rfl, by omega, by simp [vs], by simp⟩
  case round =>
    obtain ⟨k, acc, hk, hk10, rfl, rfl, hacc, hv, hge⟩ := hrel
    have HV := Lib.hid hv
    have HG := Lib.hid hge
    have HB := Lib.hid hb
    clear hv hge hb
    by_cases hlt : k < xs.length ∧ k < 10
    · obtain ⟨hl1, hl2⟩ := hlt
      have hcell : w.cell? ⟨b, o + k, none⟩ = some (.int .u8 (xs.getD k 0)) := hc k hl1
      have hbk : 0 ≤ xs.getD k 0 ∧ xs.getD k 0 < 256 := by
        rw [List.getD_eq_getElem?_getD, List.getElem?_eq_getElem hl1]
        exact HB.out _ (List.getElem_mem hl1)
      obtain ⟨x, hx⟩ : ∃ x, x = xs.getD k 0 := ⟨_, rfl⟩
      rw [← hx] at hcell hbk
      have HX := Lib.hid hx
      obtain ⟨hb0, hb1⟩ := hbk
      clear hx hc
      have hmin : (k : Int) < min (xs.length : Int) 10 := by omega
      have hacc2 : acc < 128 ^ k := by
        rw [HV.out hl2]
        have := vs_lt (xs.take k)
        rw [List.length_take, Nat.min_eq_left (by omega)] at this
        exact this
      have HO := Lib.hid (or_group acc k x hl2 hacc2)
      have HF := Lib.hid (fits k x hl2)
      have HS := Lib.hid (vs_snoc xs k hl1)
      have HT := Lib.hid (take_snoc xs k hl1)
      clear hacc2
      go_wp2_with fail
      case roundEnd =>
        have hx128 : 128 ≤ x := by assumption
        go_round
        case rel =>
          obtain ⟨o1, o2⟩ := HO.out
          refine ⟨k + 1, _, by omega, by omega, by go_num, congrArg (Value.int .u64) o1, o2, ?_, ?_⟩
          · intro h9
            rw [HS.out, ← HX.out, HV.out hl2]
            have h1 := pow_le (k + 1) (by omega)
            have h2 : 128 ^ k * (x % 128).toNat < 128 ^ k * 128 := Nat.mul_lt_mul_of_pos_left (by omega) (Nat.pow_pos (by decide))
            rw [← Nat.pow_succ] at h2
            rw [Nat.mod_eq_of_lt (by omega)]
          · rw [HT.out, ← HX.out]
            intro y hy
            rcases List.mem_append.1 hy with h | h
            · exact HG.out y h
            · simp at h; omega
        case measure => simp [intOf]; omega
      all_goals
        have hx128 : x < 128 := by assumption
        go_ret3
        refine ⟨?_, rfl⟩
      · have h0 : 0 < k := by assumption
        have h1 : (x % 128 == 0) = true := by assumption
        rw [beq_iff_eq] at h1
        rw [getS_zero hl1 hl2 HG.out (by rw [← HX.out]; omega) h0 (by rw [← HX.out]; omega)]
        rfl
      · have h2 : (IntKind.u64.wrap (x % 128 * 2 ^ (7 * k)) / 2 ^ (7 * k) != x % 128) = true := by assumption
        rw [HF.out, decide_eq_true_eq, show x % 128 = x from by omega] at h2
        rw [getS_over hl1 hl2 HG.out (by rw [← HX.out]; omega) (by rw [← HX.out]; omega)]
        rfl
      · have h1 : (x % 128 == 0) = false := by assumption
        rw [beq_eq_false_iff_ne] at h1
        have h2 : (IntKind.u64.wrap (x % 128 * 2 ^ (7 * k)) / 2 ^ (7 * k) != x % 128) = false := by assumption
        exact some_end hl1 hl2 HG.out (HV.out hl2) HX.out hx128 (by omega) HF.out h2 HO.out.1 (by omega) HO.out.2
      · have h2 : (IntKind.u64.wrap (x % 128 * 2 ^ (7 * k)) / 2 ^ (7 * k) != x % 128) = true := by assumption
        rw [HF.out, decide_eq_true_eq, show x % 128 = x from by omega] at h2
        rw [getS_over hl1 hl2 HG.out (by rw [← HX.out]; omega) (by rw [← HX.out]; omega)]
        rfl
      · have h0 : ¬ 0 < k := by assumption
        have h2 : (IntKind.u64.wrap (x % 128 * 2 ^ (7 * k)) / 2 ^ (7 * k) != x % 128) = false := by assumption
        exact some_end hl1 hl2 HG.out (HV.out hl2) HX.out hx128 (by omega) HF.out h2 HO.out.1 (by omega) HO.out.2
    · have hmin : ¬ ((k : Int) < min (xs.length : Int) 10) := by omega
      go_wp2_with fail
      go_ret3
      refine ⟨?_, rfl⟩
      rw [getS_all (k := k) (by omega) hk10 HG.out]
      rfl

theorem Get_any (A : Option Addr) (xs : List Int) (cap : Nat) (w : World) (hm : xs.length ≤ 9223372036854775807) (h : IsB w A xs) :
    Calls Tryz.prog 85 #[.slice A xs.length cap] w fun e w' => e = .returned (gotV (getS xs)) ∧ w = w' := by
  by_cases hx : 0 < xs.length
  · obtain ⟨b, o, rfl, hc⟩ := h.2 hx
    exact Get_some b o xs cap w hx hm h.1 hc
  · obtain rfl : xs = [] := List.eq_nil_of_length_eq_zero (by omega)
    exact Get_none A cap w
end Go.Proofs.YtbmdkibmfkmjoaaGreat.LeG
