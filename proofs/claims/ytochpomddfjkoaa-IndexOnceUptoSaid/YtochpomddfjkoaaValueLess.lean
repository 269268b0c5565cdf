/- less and Less of package value: what they answer of any two values; nothing is asked. -/
import Derived.Test.YtochpomddfjkoaaValueIs
import Derived.Test.YtochpomddfjkoaaRegion
import Derived.Test.YtochpomddfjkoaaValueLt
namespace Go.Proofs.Ytochpomddfjkoaa.Va
open Go.RowKit Go.Proofs.Ytochpomddfjkoaa.BM Go.Proofs.Ytochpomddfjkoaa.LM Go.Proofs.Ytochpomddfjkoaa.VaM

set_option maxRecDepth 100000 in
set_option maxHeartbeats 1000000 in
theorem less_any (a : V) (k n : Int) (s : ByteArray) (w : World) (hm : May a) :
    Calls Try.prog 72 #[heldV a, .agg #[.int .i64 k, .int .i64 n, .string s]] w fun e w' => e = .returned (.tuple #[.bool (lt a ⟨k, n, s⟩), .bool true]) ∧ Below w.heap.size w w' := by
  have HB := Lib.hid ((Below.refl w.heap.size w).alloc (Nat.le_refl _) (.cells #[.int .i64 k, .int .i64 n, .string s] 52))
  have hm' := hm
  rcases hm' with ⟨h1, h2, h3⟩ | ⟨h0, h | ⟨h, _⟩ | ⟨h, _, _⟩⟩
  · have HL := Lib.hid (lt_s (b := ⟨k, n, s⟩) h1)
    rw [heldV_text hm h1]
    have y0 := is_text
    have y1 := text_no_number
    have y2 := text_no_truth
    clear h1 h2 h3 hm
    go_enter Try.func72, Try.ntmps72
    go_wp2_with fail
    go_ret2
    exact ⟨ret_v (by rw [HL.out]; rfl), HB.out⟩
  · have HL := Lib.hid (lt_n (a := a) (b := ⟨k, n, s⟩) (by omega))
    rw [heldV_number hm h]
    have y0 := is_number
    clear h h0 hm
    go_enter Try.func72, Try.ntmps72
    go_wp2_with fail
    go_ret2
    exact ⟨ret_v (by rw [HL.out]; rfl), HB.out⟩
  · have HL := Lib.hid (lt_n (a := a) (b := ⟨k, n, s⟩) (by omega))
    rw [heldV_truth hm h]
    have y0 := is_truth
    have y1 := truth_no_number
    clear h h0 hm
    go_enter Try.func72, Try.ntmps72
    go_wp2_with fail
    go_ret2
    exact ⟨ret_v (by rw [HL.out]; rfl), HB.out⟩
  · have HL := Lib.hid (lt_n (a := a) (b := ⟨k, n, s⟩) (by omega))
    rw [heldV_moment hm h]
    have y0 := is_moment
    have y1 := moment_no_number
    have y2 := moment_no_truth
    have y3 := moment_no_text
    clear h h0 hm
    go_enter Try.func72, Try.ntmps72
    go_wp2_with fail
    go_ret2
    exact ⟨ret_v (by rw [HL.out]; rfl), HB.out⟩

set_option maxRecDepth 100000 in
theorem less_no (k n : Int) (s : ByteArray) (w : World) :
    Calls Try.prog 72 #[.nilIface, .agg #[.int .i64 k, .int .i64 n, .string s]] w fun e w' => e = .returned (.tuple #[.bool false, .bool false]) ∧ Below w.heap.size w w' := by
  have HB := Lib.hid ((Below.refl w.heap.size w).alloc (Nat.le_refl _) (.cells #[.int .i64 k, .int .i64 n, .string s] 52))
  have y0 := nil_number
  have y1 := nil_truth
  have y2 := nil_text
  have y3 := nil_moment
  go_enter Try.func72, Try.ntmps72
  go_wp2_with fail
  go_ret2
  exact ⟨rfl, HB.out⟩

/-- What less answers of what a value holds. -/
theorem less_held (a : V) (k n : Int) (s : ByteArray) (w : World) :
    Calls Try.prog 72 #[heldV a, .agg #[.int .i64 k, .int .i64 n, .string s]] w fun e w' => e = .returned (.tuple #[.bool (decide (May a) && lt a ⟨k, n, s⟩), .bool (decide (May a))]) ∧ Below w.heap.size w w' := by
  by_cases hm : May a
  · refine (less_any a k n s w hm).mono ?_
    rintro e w' ⟨rfl, hb⟩
    exact ⟨by rw [decide_eq_true hm, Bool.true_and], hb⟩
  · rw [heldV_no hm]
    refine (less_no k n s w).mono ?_
    rintro e w' ⟨rfl, hb⟩
    exact ⟨by rw [decide_eq_false hm, Bool.false_and], hb⟩

set_option maxRecDepth 100000 in
set_option maxHeartbeats 1000000 in
theorem Less_any (a b : V) (w : World) :
    Calls Try.prog 70 #[.agg #[.int .i64 a.k, .int .i64 a.n, .string a.s], .agg #[.int .i64 b.k, .int .i64 b.n, .string b.s]] w fun e w' => e = .returned (.tuple #[.bool (can a b && lt a b), .bool (can a b)]) ∧ Below w.heap.size w w' := by
  obtain ⟨k, n, s⟩ := a
  obtain ⟨j, m, t⟩ := b
  have HL := Lib.hid (less_held ⟨k, n, s⟩ j m t)
  have hb1 := (Below.refl w.heap.size w).alloc (Nat.le_refl _) (.cells #[.int .i64 k, .int .i64 n, .string s] 52)
  have hk := (Below.refl (w.alloc (.cells #[.int .i64 k, .int .i64 n, .string s] 52)).heap.size (w.alloc (.cells #[.int .i64 k, .int .i64 n, .string s] 52))).alloc (Nat.le_refl _) (.cells #[.int .i64 j, .int .i64 m, .string t] 52)
  have hx2 := bx_new (w.alloc (.cells #[.int .i64 k, .int .i64 n, .string s] 52)) (.int .i64 j) (.int .i64 m) (.string t)
  rw [show (w.alloc (.cells #[.int .i64 k, .int .i64 n, .string s] 52)).heap.size = w.heap.size + 1 from by simp] at hx2
  have HX1 := Lib.hid ((bx_new w (.int .i64 k) (.int .i64 n) (.string s)).kept hk)
  have HX2 := Lib.hid hx2
  have HB := Lib.hid (bt hb1 hk)
  have HM := Lib.hid (May_any j m t)
  clear hb1 hk hx2
  simp only
  go_enter Try.func70, Try.ntmps70
  go_wp2_with fail
  refine (HM.out _).mono ?_
  rintro e w1 ⟨rfl, hb1⟩
  have HB1 := Lib.hid (bt HB.out hb1)
  have hx1 := HX1.out.kept hb1
  have hx2 := HX2.out.kept hb1
  clear HB HX1 HX2 hb1 HM
  by_cases hm : May ⟨j, m, t⟩
  · rw [decide_eq_true hm]
    by_cases hkj : k = j
    · subst hkj
      have HC := Lib.hid (show can ⟨k, n, s⟩ ⟨k, m, t⟩ = decide (May ⟨k, n, s⟩) from by rw [can]; congr 1; simp [hm])
      have HX1 := Lib.hid hx1
      have HX2 := Lib.hid hx2
      obtain ⟨⟨p0, p1, p2⟩, _⟩ := hx1
      obtain ⟨⟨q0, q1, q2⟩, _⟩ := hx2
      clear hm
      go_wp2_with fail
      refine Reg.G_start (by kernel_rfl) (by repeat (first | exact Reg.frameless_bodyPost | refine Reg.frameless_then ?_ | refine Reg.frameless_inBlock ?_)) (fun W hW => ?_)
      have hbw := Reg.below_trans HB1.out hW
      have x0 := Reg.later_cell hW p0
      have x1 := Reg.later_cell hW p1
      have x2 := Reg.later_cell hW p2
      have z0 := Reg.later_cell hW q0
      have z1 := Reg.later_cell hW q1
      have z2 := Reg.later_cell hW q2
      clear p0 p1 p2 q0 q1 q2
      first | (refine Reg.G_step (i := 0) rfl (by kernel_rfl) (by rfl) (fun K hK => ?_); go_big_quiet_op; refine hK _ ?_; clear hK K) | (refine Reg.G_skip (i := 0) rfl (by kernel_rfl) (by rfl) ?_; simp only [Act.put, List.setIfInBounds_toArray, List.set_cons_zero, List.set_cons_succ])
      first | (refine Reg.G_step (i := 2) rfl (by kernel_rfl) (by rfl) (fun K hK => ?_); go_big_quiet_op; refine hK _ ?_; clear hK K) | (refine Reg.G_skip (i := 2) rfl (by kernel_rfl) (by rfl) ?_; simp only [Act.put, List.setIfInBounds_toArray, List.set_cons_zero, List.set_cons_succ])
      refine Reg.G_event (i := 1) rfl (by kernel_rfl) (by rfl) (fun K hK => ?_)
      go_simp
      refine (held_any k n s _).mono ?_
      rintro e v0 ⟨rfl, hv0⟩
      refine hK _ _ hv0 ?_
      clear hK K
      have hw0 := bt hbw hv0
      refine Reg.G_event (i := 3) rfl (by kernel_rfl) (by rfl) (fun K hK => ?_)
      go_simp
      refine (HL.out _).mono ?_
      rintro e v1 ⟨rfl, hv1⟩
      refine hK _ _ hv1 ?_
      clear hK K
      have hw1 := bt hw0 hv1
      first | (refine Reg.G_step (i := 4) rfl (by kernel_rfl) (by rfl) (fun K hK => ?_); go_big_quiet_op; refine hK _ ?_; clear hK K) | (refine Reg.G_skip (i := 4) rfl (by kernel_rfl) (by rfl) ?_; simp only [Act.put, List.setIfInBounds_toArray, List.set_cons_zero, List.set_cons_succ])
      first | (refine Reg.G_step (i := 5) rfl (by kernel_rfl) (by rfl) (fun K hK => ?_); go_big_quiet_op; refine hK _ ?_; clear hK K) | (refine Reg.G_skip (i := 5) rfl (by kernel_rfl) (by rfl) ?_; simp only [Act.put, List.setIfInBounds_toArray, List.set_cons_zero, List.set_cons_succ])
      first | (refine Reg.G_step (i := 6) rfl (by kernel_rfl) (by rfl) (fun K hK => ?_); go_big_quiet_op; refine hK _ ?_; clear hK K) | (refine Reg.G_skip (i := 6) rfl (by kernel_rfl) (by rfl) ?_; simp only [Act.put, List.setIfInBounds_toArray, List.set_cons_zero, List.set_cons_succ])
      first | (refine Reg.G_step (i := 7) rfl (by kernel_rfl) (by rfl) (fun K hK => ?_); go_big_quiet_op; refine hK _ ?_; clear hK K) | (refine Reg.G_skip (i := 7) rfl (by kernel_rfl) (by rfl) ?_; simp only [Act.put, List.setIfInBounds_toArray, List.set_cons_zero, List.set_cons_succ])
      refine Reg.G_done (by kernel_rfl) ?_
      go_wp2
      go_ret2
      exact ⟨ret_v (x := .tuple #[.bool (decide (May ⟨k, n, s⟩) && lt ⟨k, n, s⟩ ⟨k, m, t⟩), .bool (decide (May ⟨k, n, s⟩))]) (by rw [HC.out]), hw1⟩
    · have HC := Lib.hid (show can ⟨k, n, s⟩ ⟨j, m, t⟩ = false from by rw [can, decide_eq_false_iff_not]; exact fun h => hkj h.2.2)
      obtain ⟨⟨p0, _, _⟩, _⟩ := hx1
      obtain ⟨⟨q0, _, _⟩, _⟩ := hx2
      clear hm
      go_wp2_with fail
      go_ret2
      exact ⟨ret_v (x := .tuple #[.bool false, .bool false]) (by rw [HC.out]; rfl), HB1.out⟩
  · rw [decide_eq_false hm]
    have HC := Lib.hid (show can ⟨k, n, s⟩ ⟨j, m, t⟩ = false from by rw [can, decide_eq_false_iff_not]; exact fun h => hm h.2.1)
    clear hm hx1 hx2
    go_wp2_with fail
    go_ret2
    exact ⟨ret_v (x := .tuple #[.bool false, .bool false]) (by rw [HC.out]; rfl), HB1.out⟩
end Go.Proofs.Ytochpomddfjkoaa.Va
