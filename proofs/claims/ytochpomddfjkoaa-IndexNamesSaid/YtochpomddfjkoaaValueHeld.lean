/- held and May of package value, and May of the document's answers: what they answer of any value; nothing is asked. -/
import Derived.Test.YtochpomddfjkoaaValueBox
namespace Go.Proofs.Ytochpomddfjkoaa.Va
open Go.RowKit Go.Proofs.Ytochpomddfjkoaa.BM Go.Proofs.Ytochpomddfjkoaa.VaM

/-- What a value holds, as an interface value. -/
def heldV (v : V) : Value :=
  if May v then (if v.k = 2 then .iface 98 (.string v.s) else if v.k = 0 then .iface 99 (.int .i64 v.n) else if v.k = 1 then .iface 100 (.int .i64 v.n) else .iface 101 (.int .i64 v.n)) else .nilIface

theorem heldV_no {v : V} (h : ¬ May v) : heldV v = .nilIface := by rw [heldV, if_neg h]
theorem heldV_text {v : V} (h : May v) (hk : v.k = 2) : heldV v = .iface 98 (.string v.s) := by rw [heldV, if_pos h, if_pos hk]
theorem heldV_number {v : V} (h : May v) (hk : v.k = 0) : heldV v = .iface 99 (.int .i64 v.n) := by rw [heldV, if_pos h, if_neg (by omega), if_pos hk]
theorem heldV_truth {v : V} (h : May v) (hk : v.k = 1) : heldV v = .iface 100 (.int .i64 v.n) := by rw [heldV, if_pos h, if_neg (by omega), if_neg (by omega), if_pos hk]
theorem heldV_moment {v : V} (h : May v) (hk : v.k = 3) : heldV v = .iface 101 (.int .i64 v.n) := by rw [heldV, if_pos h, if_neg (by omega), if_neg (by omega), if_neg (by omega)]


/-- Which way held goes. -/
theorem heldWays (k n : Int) (s : ByteArray) :
    (k = 2 ∧ n = 0 ∧ s.size ≤ 40) ∨ ((k ≠ 2 ∨ n ≠ 0 ∨ 40 < s.size) ∧ s.size ≠ 0) ∨ (k = 2 ∧ n ≠ 0 ∧ s = e0) ∨
    (k = 0 ∧ s = e0) ∨ (k = 1 ∧ n = 0 ∧ s = e0) ∨ (k = 1 ∧ n = 1 ∧ s = e0) ∨ (k = 1 ∧ n ≠ 0 ∧ n ≠ 1 ∧ s = e0) ∨
    (k = 3 ∧ 0 ≤ n ∧ n ≤ 1125899906842624 ∧ s = e0) ∨ (k = 3 ∧ n < 0 ∧ s = e0) ∨ (k = 3 ∧ 0 ≤ n ∧ 1125899906842624 < n ∧ s = e0) ∨
    (k ≠ 0 ∧ k ≠ 1 ∧ k ≠ 2 ∧ k ≠ 3 ∧ s = e0) := by
  by_cases hs : s = e0
  · subst hs
    by_cases h2 : k = 2
    · by_cases hn : n = 0
      · exact Or.inl ⟨h2, hn, by rw [e0_size]; omega⟩
      · exact Or.inr (Or.inr (Or.inl ⟨h2, hn, rfl⟩))
    · refine Or.inr (Or.inr (Or.inr ?_))
      by_cases h0 : k = 0
      · exact Or.inl ⟨h0, rfl⟩
      · refine Or.inr ?_
        by_cases h1 : k = 1
        · by_cases n0 : n = 0
          · exact Or.inl ⟨h1, n0, rfl⟩
          · by_cases n1 : n = 1
            · exact Or.inr (Or.inl ⟨h1, n1, rfl⟩)
            · exact Or.inr (Or.inr (Or.inl ⟨h1, n0, n1, rfl⟩))
        · refine Or.inr (Or.inr (Or.inr ?_))
          by_cases h3 : k = 3
          · by_cases n0 : 0 ≤ n
            · by_cases n1 : n ≤ 1125899906842624
              · exact Or.inl ⟨h3, n0, n1, rfl⟩
              · exact Or.inr (Or.inr (Or.inl ⟨h3, n0, by omega, rfl⟩))
            · exact Or.inr (Or.inl ⟨h3, by omega, rfl⟩)
          · exact Or.inr (Or.inr (Or.inr ⟨h0, h1, h2, h3, rfl⟩))
  · have hz : s.size ≠ 0 := fun h => hs (size_e0.1 h)
    by_cases h : k = 2 ∧ n = 0 ∧ s.size ≤ 40
    · exact Or.inl h
    · refine Or.inr (Or.inl ⟨?_, hz⟩)
      by_cases h2 : k = 2
      · by_cases hn : n = 0
        · exact Or.inr (Or.inr (by have := fun h3 => h ⟨h2, hn, h3⟩; omega))
        · exact Or.inr (Or.inl hn)
      · exact Or.inl h2

set_option maxRecDepth 100000 in
set_option maxHeartbeats 1000000 in
theorem held_any (k n : Int) (s : ByteArray) (w : World) :
    Calls Try.prog 55 #[.agg #[.int .i64 k, .int .i64 n, .string s]] w fun e w' => e = .returned (heldV ⟨k, n, s⟩) ∧ Below w.heap.size w w' := by
  have HB := Lib.hid ((Below.refl w.heap.size w).alloc (Nat.le_refl _) (.cells #[.int .i64 k, .int .i64 n, .string s] 52))
  rcases heldWays k n s with ⟨rfl, rfl, hz⟩ | ⟨h, hz⟩ | ⟨rfl, hn, rfl⟩ | ⟨rfl, rfl⟩ | ⟨rfl, rfl, rfl⟩ | ⟨rfl, rfl, rfl⟩ | ⟨rfl, hn, hm, rfl⟩ | ⟨rfl, hn, hm, rfl⟩ | ⟨rfl, hn, rfl⟩ | ⟨rfl, hn, hm, rfl⟩ | ⟨h0, h1, h2, h3, rfl⟩
  · have HV := Lib.hid (heldV_text (v := ⟨2, 0, s⟩) (Or.inl ⟨rfl, rfl, hz⟩) rfl)
    go_enter Try.func55, Try.ntmps55
    go_wp2_with fail
    go_ret
    exact ⟨ret_v HV.out, HB.out⟩
  · have hm : ¬ May ⟨k, n, s⟩ := by
      intro hm
      rcases hm with ⟨h1, h2, h3⟩ | ⟨h0, _⟩
      · simp only at h1 h2 h3
        omega
      · exact hz h0
    have HV := Lib.hid (heldV_no hm)
    have hs0 := str_e0 hz
    clear hm
    by_cases hk : k = 2
    · subst hk
      by_cases hn : n = 0
      · subst hn
        have h40 : ¬ s.size ≤ 40 := by omega
        clear h hz
        go_enter Try.func55, Try.ntmps55
        go_wp2_with fail
        go_ret
        exact ⟨ret_v HV.out, HB.out⟩
      · clear h hz
        go_enter Try.func55, Try.ntmps55
        go_wp2_with fail
        go_ret
        exact ⟨ret_v HV.out, HB.out⟩
    · clear h hz
      go_enter Try.func55, Try.ntmps55
      go_wp2_with fail
      go_ret
      exact ⟨ret_v HV.out, HB.out⟩
  · have HV := Lib.hid (heldV_no (v := ⟨2, n, e0⟩) (fun hm => by
      rcases hm with ⟨h1, h2, h3⟩ | ⟨h0, h | h | h⟩ <;> simp only at * <;> omega))
    unfold e0 at *
    go_enter Try.func55, Try.ntmps55
    go_wp2_with fail
    go_ret
    exact ⟨ret_v HV.out, HB.out⟩
  · have HV := Lib.hid (heldV_number (v := ⟨0, n, e0⟩) (Or.inr ⟨rfl, Or.inl rfl⟩) rfl)
    unfold e0 at *
    go_enter Try.func55, Try.ntmps55
    go_wp2_with fail
    go_ret
    exact ⟨ret_v HV.out, HB.out⟩
  · have HV := Lib.hid (heldV_truth (v := ⟨1, 0, e0⟩) (Or.inr ⟨rfl, Or.inr (Or.inl ⟨rfl, Or.inl rfl⟩)⟩) rfl)
    unfold e0 at *
    go_enter Try.func55, Try.ntmps55
    go_wp2_with fail
    go_ret
    exact ⟨ret_v HV.out, HB.out⟩
  · have HV := Lib.hid (heldV_truth (v := ⟨1, 1, e0⟩) (Or.inr ⟨rfl, Or.inr (Or.inl ⟨rfl, Or.inr rfl⟩)⟩) rfl)
    unfold e0 at *
    go_enter Try.func55, Try.ntmps55
    go_wp2_with fail
    go_ret
    exact ⟨ret_v HV.out, HB.out⟩
  · have HV := Lib.hid (heldV_no (v := ⟨1, n, e0⟩) (fun hm => by
      rcases hm with ⟨h1, h2, h3⟩ | ⟨h0, h | h | h⟩ <;> simp only at * <;> omega))
    have b0 : (n == 0) = false := by simpa using hn
    have b1 : (n == 1) = false := by simpa using hm
    unfold e0 at *
    go_enter Try.func55, Try.ntmps55
    go_wp2_with fail
    go_ret
    exact ⟨ret_v HV.out, HB.out⟩
  · have HV := Lib.hid (heldV_moment (v := ⟨3, n, e0⟩) (Or.inr ⟨rfl, Or.inr (Or.inr ⟨rfl, hn, hm⟩)⟩) rfl)
    unfold e0 at *
    go_enter Try.func55, Try.ntmps55
    go_wp2_with fail
    go_ret
    exact ⟨ret_v HV.out, HB.out⟩
  · have HV := Lib.hid (heldV_no (v := ⟨3, n, e0⟩) (fun hm => by
      rcases hm with ⟨h1, h2, h3⟩ | ⟨h0, h | h | h⟩ <;> simp only at * <;> omega))
    unfold e0 at *
    go_enter Try.func55, Try.ntmps55
    go_wp2_with fail
    go_ret
    exact ⟨ret_v HV.out, HB.out⟩
  · have HV := Lib.hid (heldV_no (v := ⟨3, n, e0⟩) (fun hm => by
      rcases hm with ⟨h1, h2, h3⟩ | ⟨h0, h | h | h⟩ <;> simp only at * <;> omega))
    unfold e0 at *
    go_enter Try.func55, Try.ntmps55
    go_wp2_with fail
    go_ret
    exact ⟨ret_v HV.out, HB.out⟩
  · have HV := Lib.hid (heldV_no (v := ⟨k, n, e0⟩) (fun hm => by
      rcases hm with ⟨h1, h2, h3⟩ | ⟨h0, h | h | h⟩ <;> simp only at * <;> omega))
    unfold e0 at *
    go_enter Try.func55, Try.ntmps55
    go_wp2_with fail
    go_ret
    exact ⟨ret_v HV.out, HB.out⟩

set_option maxRecDepth 100000 in
theorem May_any (k n : Int) (s : ByteArray) (w : World) :
    Calls Try.prog 47 #[.agg #[.int .i64 k, .int .i64 n, .string s]] w fun e w' => e = .returned (.bool (decide (May ⟨k, n, s⟩))) ∧ Below w.heap.size w w' := by
  have HB := Lib.hid ((Below.refl w.heap.size w).alloc (Nat.le_refl _) (.cells #[.int .i64 k, .int .i64 n, .string s] 52))
  go_enter Try.func47, Try.ntmps47
  go_wp2_with fail
  refine (held_any k n s _).mono ?_
  rintro e w1 ⟨rfl, hb1⟩
  have HB1 := Lib.hid (bt HB.out hb1)
  clear hb1 HB
  by_cases hm : May ⟨k, n, s⟩
  · have hv : ∃ t x, heldV ⟨k, n, s⟩ = .iface t x := by
      unfold heldV
      rw [if_pos hm]
      split
      · exact ⟨_, _, rfl⟩
      · split
        · exact ⟨_, _, rfl⟩
        · split <;> exact ⟨_, _, rfl⟩
    obtain ⟨t, x, hv⟩ := hv
    rw [hv]
    have HM := Lib.hid hm
    clear hv hm
    go_wp2_with fail
    go_ret
    exact ⟨ret_v (x := .bool true) (by rw [decide_eq_true HM.out]), HB1.out⟩
  · rw [heldV_no hm]
    have HM := Lib.hid hm
    clear hm
    go_wp2_with fail
    go_ret
    exact ⟨ret_v (x := .bool false) (by rw [decide_eq_false HM.out]), HB1.out⟩
end Go.Proofs.Ytochpomddfjkoaa.Va
