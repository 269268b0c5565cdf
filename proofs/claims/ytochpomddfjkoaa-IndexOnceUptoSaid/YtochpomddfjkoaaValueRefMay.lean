/- May of the document's answers: what it answers of any value; nothing is asked. -/
import Derived.Test.YtochpomddfjkoaaValueHeld
namespace Go.Proofs.Ytochpomddfjkoaa.Va
open Go.RowKit Go.Proofs.Ytochpomddfjkoaa.BM Go.Proofs.Ytochpomddfjkoaa.VaM

set_option maxRecDepth 100000 in
set_option maxHeartbeats 1000000 in
theorem refMay_any (k n : Int) (s : ByteArray) (w : World) :
    Calls Try.prog 49 #[.agg #[.int .i64 k, .int .i64 n, .string s]] w fun e w' => e = .returned (.bool (decide (May ⟨k, n, s⟩))) ∧ Below w.heap.size w w' := by
  have HB := Lib.hid ((Below.refl w.heap.size w).alloc (Nat.le_refl _) (.cells #[.int .i64 k, .int .i64 n, .string s] 52))
  have yes : May ⟨k, n, s⟩ → decide (May ⟨k, n, s⟩) = true := fun h => decide_eq_true h
  have no : ¬ May ⟨k, n, s⟩ → decide (May ⟨k, n, s⟩) = false := fun h => decide_eq_false h
  rcases heldWays k n s with ⟨rfl, rfl, hz⟩ | ⟨h, hz⟩ | ⟨rfl, hn, rfl⟩ | ⟨rfl, rfl⟩ | ⟨rfl, rfl, rfl⟩ | ⟨rfl, rfl, rfl⟩ | ⟨rfl, hn, hm, rfl⟩ | ⟨rfl, hn, hm, rfl⟩ | ⟨rfl, hn, rfl⟩ | ⟨rfl, hn, hm, rfl⟩ | ⟨h0, h1, h2, h3, rfl⟩
  · have HV := Lib.hid (yes (Or.inl ⟨rfl, rfl, hz⟩))
    have h40 : decide ((s.size : Int) ≤ 40) = true := by rw [decide_eq_true_iff]; omega
    clear yes no
    go_enter Try.func49, Try.ntmps49
    go_wp2_with fail
    go_ret
    exact ⟨ret_v (x := .bool true) (by rw [HV.out]), HB.out⟩
  · have hm : ¬ May ⟨k, n, s⟩ := by
      intro hm
      rcases hm with ⟨h1, h2, h3⟩ | ⟨h0, _⟩
      · simp only at h1 h2 h3
        omega
      · exact hz h0
    have HV := Lib.hid (no hm)
    have hs0 := str_e0 hz
    clear hm yes no
    by_cases hk : k = 2
    · subst hk
      by_cases hn : n = 0
      · subst hn
        have h40 : ¬ s.size ≤ 40 := by omega
        have h40' : decide ((s.size : Int) ≤ 40) = false := by rw [decide_eq_false_iff_not]; omega
        clear h hz
        go_enter Try.func49, Try.ntmps49
        go_wp2_with fail
        go_ret
        exact ⟨ret_v (x := .bool false) (by rw [HV.out]), HB.out⟩
      · have hn0 : (n == 0) = false := by simpa using hn
        clear h hz
        go_enter Try.func49, Try.ntmps49
        go_wp2_with fail
        go_ret
        exact ⟨ret_v (x := .bool false) (by rw [HV.out]), HB.out⟩
    · clear h hz
      go_enter Try.func49, Try.ntmps49
      go_wp2_with fail
      go_ret
      exact ⟨ret_v (x := .bool false) (by rw [HV.out]), HB.out⟩
  · have HV := Lib.hid (no (fun hm => by
      rcases hm with ⟨h1, h2, h3⟩ | ⟨h0, h | h | h⟩ <;> simp only at * <;> omega))
    have hn0 : (n == 0) = false := by simpa using hn
    clear yes no
    unfold e0 at *
    go_enter Try.func49, Try.ntmps49
    go_wp2_with fail
    go_ret
    exact ⟨ret_v (x := .bool false) (by rw [HV.out]), HB.out⟩
  · have HV := Lib.hid (yes (Or.inr ⟨rfl, Or.inl rfl⟩))
    clear yes no
    unfold e0 at *
    go_enter Try.func49, Try.ntmps49
    go_wp2_with fail
    go_ret
    exact ⟨ret_v (x := .bool true) (by rw [HV.out]), HB.out⟩
  · have HV := Lib.hid (yes (Or.inr ⟨rfl, Or.inr (Or.inl ⟨rfl, Or.inl rfl⟩)⟩))
    clear yes no
    unfold e0 at *
    go_enter Try.func49, Try.ntmps49
    go_wp2_with fail
    go_ret
    exact ⟨ret_v (x := .bool true) (by rw [HV.out]), HB.out⟩
  · have HV := Lib.hid (yes (Or.inr ⟨rfl, Or.inr (Or.inl ⟨rfl, Or.inr rfl⟩)⟩))
    clear yes no
    unfold e0 at *
    go_enter Try.func49, Try.ntmps49
    go_wp2_with fail
    go_ret
    exact ⟨ret_v (x := .bool true) (by rw [HV.out]), HB.out⟩
  · have HV := Lib.hid (no (fun hm => by
      rcases hm with ⟨h1, h2, h3⟩ | ⟨h0, h | h | h⟩ <;> simp only at * <;> omega))
    have b0 : (n == 0) = false := by simpa using hn
    have b1 : (n == 1) = false := by simpa using hm
    clear yes no
    unfold e0 at *
    go_enter Try.func49, Try.ntmps49
    go_wp2_with fail
    go_ret
    exact ⟨ret_v (x := .bool false) (by rw [HV.out]), HB.out⟩
  · have HV := Lib.hid (yes (Or.inr ⟨rfl, Or.inr (Or.inr ⟨rfl, hn, hm⟩)⟩))
    have b0 : decide (0 ≤ n) = true := by simpa using hn
    have b1 : decide (n ≤ 1125899906842624) = true := by simpa using hm
    clear yes no
    unfold e0 at *
    go_enter Try.func49, Try.ntmps49
    go_wp2_with fail
    go_ret
    exact ⟨ret_v (x := .bool true) (by rw [HV.out]), HB.out⟩
  · have HV := Lib.hid (no (fun hm => by
      rcases hm with ⟨h1, h2, h3⟩ | ⟨h0, h | h | h⟩ <;> simp only at * <;> omega))
    have b0 : decide (0 ≤ n) = false := by rw [decide_eq_false_iff_not]; omega
    clear yes no
    unfold e0 at *
    go_enter Try.func49, Try.ntmps49
    go_wp2_with fail
    go_ret
    exact ⟨ret_v (x := .bool false) (by rw [HV.out]), HB.out⟩
  · have HV := Lib.hid (no (fun hm => by
      rcases hm with ⟨h1, h2, h3⟩ | ⟨h0, h | h | h⟩ <;> simp only at * <;> omega))
    have b0 : decide (0 ≤ n) = true := by simpa using hn
    have b1 : decide (n ≤ 1125899906842624) = false := by rw [decide_eq_false_iff_not]; omega
    clear yes no
    unfold e0 at *
    go_enter Try.func49, Try.ntmps49
    go_wp2_with fail
    go_ret
    exact ⟨ret_v (x := .bool false) (by rw [HV.out]), HB.out⟩
  · have HV := Lib.hid (no (fun hm => by
      rcases hm with ⟨h1, h2, h3⟩ | ⟨h0, h | h | h⟩ <;> simp only at * <;> omega))
    clear yes no
    unfold e0 at *
    go_enter Try.func49, Try.ntmps49
    go_wp2_with fail
    go_ret
    exact ⟨ret_v (x := .bool false) (by rw [HV.out]), HB.out⟩
end Go.Proofs.Ytochpomddfjkoaa.Va
