/- The walk of LeSmall: as many bytes as groups of seven bits, the last one below 128; no condition. -/
import Derived.Test.YthkkokcghblkpaaLeAwake
import Derived.OpenShut
namespace Go.Proofs.Ythkkokcghblkpaa.LeG
open Go.RowKit Go.Proofs.Ythkkokcghblkpaa.LeM Go.Proofs.Ythkkokcghblkpaa.LeZ Go.Proofs.Ythkkokcghblkpaa.LeP

set_option maxRecDepth 100000 in
theorem small_walk (a : Int) (w : World) (w0 : (Lit.int .u64 a).wf = true) :
    Calls Try.prog 8 #[.int .u64 a] w fun e w' => e = .returned (.bool true) ∧ Below w.heap.size w w' := by
  obtain ⟨n0, n1⟩ := bounds_u64 w0
  obtain ⟨n, rfl⟩ := Int.eq_ofNat_of_zero_le n0
  clear w0 n0
  have Haw := Lib.hid (awake_any w)
  go_enter Try.func8, Try.ntmps8
  go_wp2_with fail
  refine Haw.out.mono ?_
  rintro e w1 ⟨rfl, hb1⟩
  go_wp2_with fail
  refine (Put_mem n w1 (by omega)).mono ?_
  rintro e w2 ⟨g, cap, rfl, hg1, hg2, hcap, hB, _, hb2⟩
  have hbel : Below w.heap.size w w2 := hb1.trans (hb2.mono hb1.size)
  have hl := isB_cell hB ((putL n).length - 1) (by have := putL_pos n; omega)
  obtain ⟨l0, l1⟩ := last_lt n
  obtain ⟨x, hx⟩ : ∃ x, x = (putL n).getD ((putL n).length - 1) 0 := ⟨_, rfl⟩
  have hp := putL_pos n
  have hm := putL_len64 (n := n) (by omega)
  obtain ⟨L, hL⟩ : ∃ L, L = (putL n).length := ⟨_, rfl⟩
  rw [← hx] at hl l0 l1
  rw [← hL] at hl hcap hp hm ⊢
  have HL := Lib.hid hL
  rw [Nat.zero_add] at hl
  clear hx hL hB hb1 hb2
  go_wp2_with fail
  go_loop [5, 6] (fun c mm => ∃ k m : Nat, c = .int .i64 ((k + 1 : Nat) : Int) ∧ mm = .int .u64 m ∧ m ≤ n ∧ L = k + (putL m).length) (fun _ mm => (intOf mm).toNat)
  case atStart => exact ⟨0, n, rfl, rfl, Nat.le_refl _, by rw [HL.out]; omega⟩
  case round =>
    obtain ⟨k, m, rfl, rfl, hmn, hk⟩ := hrel
    have hp2 := putL_pos m
    by_cases h : 128 ≤ m
    · rw [putL_ge h, List.length_cons] at hk
      have HK := Lib.hid hk
      have hk2 : k + 1 ≤ L := by omega
      clear hk
      go_wp2_with fail
      go_round
      case rel => exact ⟨k + 1, m / 128, by go_num, by go_num, by omega, by rw [HK.out]; omega⟩
      case measure => simp [intOf]; omega
    · rw [putL_lt (by omega)] at hk
      simp only [List.length_cons, List.length_nil] at hk
      have e : k = L - 1 := by omega
      clear hk
      subst e
      have e1 : L - 1 + 1 = L := by omega
      rw [e1]
      clear e1
      go_wp2_with fail
      go_ret
      exact ⟨rfl, hbel⟩
end Go.Proofs.Ythkkokcghblkpaa.LeG
