/- The walk of LeOrder: a greater number has no fewer bytes, no number's bytes begin by another one's; no condition. -/
import Derived.Test.YthkkokcghblkpaaLeAwake
import Derived.OpenShut
import Derived.BigQuiet
import Derived.Deep.QuietTactic
namespace Go.Proofs.Ythkkokcghblkpaa.LeG
open Go.RowKit Go.Proofs.Ythkkokcghblkpaa.LeM Go.Proofs.Ythkkokcghblkpaa.LeZ Go.Proofs.Ythkkokcghblkpaa.LeP

theorem len_mono : ∀ n m, n ≤ m → (putL n).length ≤ (putL m).length := by
  refine put_ind (P := fun n => ∀ m, n ≤ m → (putL n).length ≤ (putL m).length) ?_ ?_
  · intro n h m _
    rw [putL_lt h]
    exact putL_pos m
  · intro n h ih m hm
    have := ih (m / 128) (by omega)
    rw [putL_ge h, putL_ge (n := m) (by omega)]
    simp only [List.length_cons]
    omega

/-- No number's bytes begin by another one's. -/
theorem not_begin {n m : Nat} (hn : n < 18446744073709551616) (hm : m < 18446744073709551616) (hne : n ≠ m) : strOfNums (putL n) ≠ strOfNums ((putL m).take (putL n).length) := by
  intro h
  have h1 := str_inj (putL_bytes n) (fun x hx => putL_bytes m x (List.mem_of_mem_take hx)) h
  have h2 : getS (putL m) = some (n, (putL n).length) := by
    refine (getS_iff _ (putL_bytes m) _ _).2 ⟨hn, ?_, h1⟩
    have := congrArg List.length h1
    rw [List.length_take] at this
    omega
  have h3 := getS_put hm [] (by simp)
  rw [List.append_nil, h2] at h3
  simp only [Option.some.injEq, Prod.mk.injEq] at h3
  exact hne h3.1

set_option maxRecDepth 100000 in
theorem order_walk (a b : Int) (w : World) (w0 : (Lit.int .u64 a).wf = true) (w1 : (Lit.int .u64 b).wf = true) :
    Calls Try.prog 7 #[.int .u64 a, .int .u64 b] w fun e w' => e = .returned (.bool true) ∧ Below w.heap.size w w' := by
  obtain ⟨n0, n1⟩ := bounds_u64 w0
  obtain ⟨m0, m1⟩ := bounds_u64 w1
  obtain ⟨n, rfl⟩ := Int.eq_ofNat_of_zero_le n0
  obtain ⟨m, rfl⟩ := Int.eq_ofNat_of_zero_le m0
  have hn : n < 18446744073709551616 := by omega
  have hm : m < 18446744073709551616 := by omega
  clear w0 w1 n0 m0 n1 m1
  have Haw := Lib.hid (awake_any w)
  go_enter Try.func7, Try.ntmps7
  go_wp2_with fail
  refine Haw.out.mono ?_
  rintro e w1 ⟨rfl, hb1⟩
  go_wp2_with fail
  refine (Put_mem n w1 hn).mono ?_
  rintro e w2 ⟨g1, cap1, rfl, hg1, hg2, hcap1, hB1, _, hb2⟩
  have Hput := Lib.hid (Put_mem m w2 hm)
  have hln := len_mono n m
  have hne := @not_begin n m hn hm
  have hp1 := putL_pos n
  obtain ⟨L1, hL1⟩ : ∃ L, L = (putL n).length := ⟨_, rfl⟩
  have hm1 := putL_len64 hn
  have HL1 := Lib.hid hL1
  rw [← hL1] at hcap1 hln hp1 hne hm1 ⊢
  clear hL1
  go_wp2_with fail
  refine Hput.out.mono ?_
  rintro e w3 ⟨g2, cap2, rfl, hg3, hg4, hcap2, hB2, _, hb3⟩
  have hbel : Below w.heap.size w w3 := (hb1.trans (hb2.mono hb1.size)).trans (hb3.mono (by have := hb1.size; have := hb2.size; omega))
  have hB1' := isB_below hB1 hb3 hg2
  have hc1 := fun k => conv_any (w := w3.drewN k) hB1' cap1 9 Try.underlying9
  have hc2 := fun k => conv_any (w := w3.drewN k) (isB_take hB2 L1) cap2 9 Try.underlying9
  have hp2 := putL_pos m
  have hm2 := putL_len64 hm
  obtain ⟨L2, hL2⟩ : ∃ L, L = (putL m).length := ⟨_, rfl⟩
  rw [HL1.out.symm] at hc1
  rw [List.length_take, ← hL2] at hc2
  rw [← hL2] at hcap2 hln hp2 hm2 ⊢
  clear hL2 hB1 hB1' hB2 hb1 hb2 hb3 HL1 Haw Hput
  by_cases h1 : n = m
  · subst h1
    have hd1 : ((n : Int) == (n : Int)) = true := by simp
    clear hc1 hc2 hne hln
    go_wp2_with fail
    go_quiet (fail)
    go_wp2
    go_ret
    exact ⟨ret_bool rfl, below_drewN hbel _⟩
  · have hne := hne h1
    have hd1 : ((n : Int) == (m : Int)) = false := by rw [beq_eq_false_iff_ne]; omega
    by_cases h2 : L2 < L1
    · have h3 : ¬ n < m := fun h => by have := hln (by omega); omega
      have hd2 : decide (L2 < L1) = true := by simp; omega
      clear hc1 hc2 hne hln
      go_wp2_with fail
      go_quiet (fail)
      go_wp2
      go_ret
      exact ⟨ret_bool rfl, below_drewN hbel _⟩
    · rw [Nat.min_eq_left (by omega)] at hc2
      have hi : (L1 : Int) ≤ (cap2 : Int) := by omega
      obtain ⟨s1, hs1⟩ : ∃ s, s = strOfNums (putL n) := ⟨_, rfl⟩
      obtain ⟨s2, hs2⟩ : ∃ s, s = strOfNums ((putL m).take L1) := ⟨_, rfl⟩
      rw [← hs1] at hc1 hne
      rw [← hs2] at hc2 hne
      have hse := str_ne hne
      have hd2 : decide (L2 < L1) = false := by simp; omega
      clear hs1 hs2 hne hln
      by_cases h3 : n < m
      · go_wp2_with fail
        go_quiet (fail)
        go_wp2
        go_ret
        exact ⟨ret_bool (by first | rfl | simp [hse]), below_drewN hbel _⟩
      · go_wp2_with fail
        go_quiet (fail)
        go_wp2
        go_ret
        exact ⟨ret_bool (by first | rfl | simp [hse]), below_drewN hbel _⟩
end Go.Proofs.Ythkkokcghblkpaa.LeG
