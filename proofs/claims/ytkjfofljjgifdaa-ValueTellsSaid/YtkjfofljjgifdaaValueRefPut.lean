/- Put of the document's answers: what it answers of any value; its number is an int. -/
import Derived.Test.YtkjfofljjgifdaaValuePut
import Derived.Test.YtkjfofljjgifdaaValueRefMay
import Derived.Test.YtkjfofljjgifdaaLeRefs
import Derived.Test.YtkjfofljjgifdaaRegAppend
namespace Go.Proofs.Ytkjfofljjgifdaa.Va
open Go.RowKit Go.Proofs.Ytkjfofljjgifdaa.BM Go.Proofs.Ytkjfofljjgifdaa.LM Go.Proofs.Ytkjfofljjgifdaa.LeM Go.Proofs.Ytkjfofljjgifdaa.LeZ Go.Proofs.Ytkjfofljjgifdaa.VaM

theorem refPut_sl (n : Nat) (w : World) (hn : n < 18446744073709551616) : Calls Try.prog 23 #[.int .u64 n] w (PutSl n w) := (LeG.refPut_any n w hn).mono fun _ _ h => putSl_of h

set_option maxRecDepth 100000 in
set_option maxHeartbeats 2000000 in
theorem refPut_any (k n : Int) (s : ByteArray) (w : World) (hr : Rng ⟨k, n, s⟩) :
    Calls Try.prog 13 #[.agg #[.int .i64 k, .int .i64 n, .string s]] w (Putted ⟨k, n, s⟩ w) := by
  have HB := Lib.hid ((Below.refl w.heap.size w).alloc (Nat.le_refl _) (.cells #[.int .i64 k, .int .i64 n, .string s] 23))
  have HX := Lib.hid (bx_new w (.int .i64 k) (.int .i64 n) (.string s))
  have HR := Lib.hid hr
  clear hr
  go_enter Try.func13, Try.ntmps13
  go_wp2_with fail
  refine (refMay_any k n s _).mono ?_
  rintro e w1 ⟨rfl, hb1⟩
  have HB1 := Lib.hid (bt HB.out hb1)
  have HX1 := Lib.hid (HX.out.kept hb1)
  clear hb1 HB HX
  by_cases hm : May ⟨k, n, s⟩
  · rw [decide_eq_true hm]
    have hN : num ⟨k, n, s⟩ < 18446744073709551616 := num_lt hm HR.out
    have hP := fun W => refPut_sl (num ⟨k, n, s⟩) W hN
    have hpv : pv ⟨k, n, s⟩ = [k] ++ putL (num ⟨k, n, s⟩) ++ bl s := by rw [pv, if_pos hm]; rfl
    have hlen := putL_len64 hN
    have hpos := putL_pos (num ⟨k, n, s⟩)
    have hk := may_kind hm
    have hsz := may_size hm
    simp only at hk hsz
    have hz := zig_rng (n := n) HR.out.1 HR.out.2
    have HZ := Lib.hid (fun W => refZig_any n W HR.out.1 HR.out.2)
    have hk0 : k = 0 → zig n = ((num ⟨k, n, s⟩ : Nat) : Int) := fun h => by
      rw [num, if_pos h]
      show zig n = ((zig n).toNat : Int)
      omega
    have hk2 : k = 2 → (s.size : Int) = ((num ⟨k, n, s⟩ : Nat) : Int) := fun h => by rw [num, if_neg (show ¬ k = 0 by omega), if_pos h]
    have hk1 : k ≠ 0 → k ≠ 2 → 0 ≤ n ∧ n = ((num ⟨k, n, s⟩ : Nat) : Int) := fun h h' => by
      have e : num ⟨k, n, s⟩ = n.toNat := by rw [num, if_neg h, if_neg h']
      rw [e]
      rcases hm with ⟨h1, _, _⟩ | ⟨_, h1 | ⟨_, h1⟩ | ⟨_, h1, h2⟩⟩
      · exact absurd h1 h'
      · exact absurd h1 h
      · replace h1 : n = 0 ∨ n = 1 := h1
        omega
      · replace h1 : 0 ≤ n := h1
        omega
    obtain ⟨N, hNd⟩ : ∃ N, N = num ⟨k, n, s⟩ := ⟨_, rfl⟩
    rw [← hNd] at hN hpv hlen hpos hk0 hk2 hk1
    simp only [← hNd] at hP
    have HPut := Lib.hid hP
    have HPv := Lib.hid hpv
    have HMay := Lib.hid hm
    have HK0 := Lib.hid hk0
    have HK1 := Lib.hid hk1
    have HK2 := Lib.hid hk2
    obtain ⟨L, hL⟩ : ∃ L, L = (putL N).length := ⟨_, rfl⟩
    rw [← hL] at hlen hpos
    have HL := Lib.hid hL
    obtain ⟨⟨p0, p1, p2⟩, _⟩ := HX1.out
    clear hP hpv hm hk0 hk1 hk2 hNd hL
    by_cases k0 : k = 0
    · have hz' := HK0.out k0
      subst k0
      go_wp2_with fail
      refine (HZ.out _).mono ?_
      rintro e w2 ⟨rfl, rfl⟩
      rw [hz']
      clear hz'
      go_wp2_with fail
      refine RegB.GS_start (fun x => Bx x w.heap.size (.int .i64 0) (.int .i64 n) (.string s)) (by kernel_rfl) (by repeat (first | exact Reg.frameless_bodyPost | refine Reg.frameless_then ?_ | refine Reg.frameless_inBlock ?_)) (fun W hW => HX1.out.kept hW) (fun W hW => ?_)
      have HW := Lib.hid hW
      have x0 : ∀ x : RegB.At (fun x => Bx x w.heap.size (.int .i64 0) (.int .i64 n) (.string s)), x.world.cell? ⟨w.heap.size, 0, none⟩ = some (.int .i64 0) := fun x => x.ok.1.1
      haveI : Nonempty (RegB.At (fun x => Bx x w.heap.size (.int .i64 0) (.int .i64 n) (.string s))) := ⟨⟨W, HX1.out.kept hW⟩⟩
      clear hW p0 p1 p2
      first | (refine RegB.GS_step (i := 0) rfl (by kernel_rfl) (by rfl) (fun K hK => ?_); go_big_quiet_op; refine hK _ ?_; clear hK K)
      first | (refine RegB.GS_step (i := 1) rfl (by kernel_rfl) (by rfl) (fun K hK => ?_); go_big_quiet_op; refine hK _ ?_; clear hK K)
      first | (refine RegB.GS_step (i := 2) rfl (by kernel_rfl) (by rfl) (fun K hK => ?_); go_big_quiet_op; refine hK _ ?_; clear hK K)
      first | (refine RegB.GS_step (i := 4) rfl (by kernel_rfl) (by rfl) (fun K hK => ?_); go_big_quiet_op; refine hK _ ?_; clear hK K)
      refine RegB.GS_fork (i := 3) (j := 5) rfl rfl (by kernel_rfl) (by rfl) (by rfl) (fun K hK => ?_) (fun K hK => ?_)
      focus
        go_simp
        refine hK _ _ ((HX1.out.kept HW.out).kept ((Below.refl _ _).alloc (Nat.le_refl _) _)) ?_
        clear hK K
        refine RegB.GS_event (i := 5) rfl (by kernel_rfl) (by rfl) (fun K hK => ?_)
        go_simp
        refine (HPut.out _).mono ?_
        rintro e w4 ⟨A, c, rfl, h4, _, hB4⟩
        rw [← HL.out]
        refine hK _ _ (((HX1.out.kept HW.out).kept ((Below.refl _ _).alloc (Nat.le_refl _) _)).kept hB4) ?_
        clear hK K
        have hown := RegA.own_below (World.ownsRow_lit (base := w1.heap.size) (e := 5) (size := 1) W #[.int .u8 0] 1 HW.out.size (by decide) rfl) hB4
        have hbel : Below w1.heap.size w1 w4 := bt HW.out (bt ((Below.refl _ W).alloc (Nat.le_refl _) (.cells #[.int .u8 0] 5)) hB4)
        obtain ⟨g, hg⟩ : ∃ g, g = W.heap.size := ⟨_, rfl⟩
        rw [← hg] at hown ⊢
        have HO := Lib.hid hown
        have HBel := Lib.hid hbel
        have H4 := Lib.hid h4
        clear hown hbel h4 hB4 hg
      rotate_left
      focus
        go_simp
        refine (HPut.out _).mono ?_
        rintro e w3 ⟨A, c, rfl, h3, _, hB3⟩
        rw [← HL.out]
        refine hK _ _ ((HX1.out.kept HW.out).kept hB3) ?_
        clear hK K
        refine RegB.GS_event (i := 3) rfl (by kernel_rfl) (by rfl) (fun K hK => ?_)
        go_simp
        refine hK _ _ (((HX1.out.kept HW.out).kept hB3).kept ((Below.refl _ _).alloc (Nat.le_refl _) _)) ?_
        clear hK K
        have hown := World.ownsRow_lit (base := w1.heap.size) (e := 5) (size := 1) w3 #[.int .u8 0] 1 (bt HW.out hB3).size (by decide) rfl
        have hbel : Below w1.heap.size w1 (w3.alloc (.cells #[.int .u8 0] 5)) := bt HW.out (bt hB3 ((Below.refl _ w3).alloc (Nat.le_refl _) (.cells #[.int .u8 0] 5)))
        have h4 := h3.kept ((Below.refl _ w3).alloc (Nat.le_refl _) (.cells #[.int .u8 0] 5))
        obtain ⟨g, hg⟩ : ∃ g, g = w3.heap.size := ⟨_, rfl⟩
        obtain ⟨w4, hw4⟩ : ∃ w4, w4 = w3.alloc (.cells #[.int .u8 0] 5) := ⟨_, rfl⟩
        rw [← hw4] at hown hbel h4 ⊢
        rw [← hg] at hown ⊢
        have HO := Lib.hid hown
        have HBel := Lib.hid hbel
        have H4 := Lib.hid h4
        clear hown hbel h4 hB3 h3 hg hw4
      all_goals
        have hsz1 := HBel.out.size
        refine RegB.GS_event (i := 6) rfl (by kernel_rfl) (by rfl) (fun K hK => ?_)
        refine RegA.op_append_b (.tmp 30) (.tmp 32) rfl w1.heap.size _ 1 [0] rfl HO.out A L c (putL N) rfl HL.out.symm H4.out.1 hpos (by omega) hsz1 ?_
        intro v5 w5 hown5 hgrow5
        have hB5 : Below w1.heap.size w1 w5 := HBel.out.grown hgrow5 hsz1 (fun q hq => (HO.out.lt q hq).1)
        refine hK _ _ (HX1.out.kept hB5) ?_
        clear hK K
        simp only [Act.put, List.setIfInBounds_toArray, List.set_cons_zero, List.set_cons_succ]
        first | (refine RegB.GS_step (i := 7) rfl (by kernel_rfl) (by rfl) (fun K hK => ?_); go_big_quiet_op; refine hK _ ?_; clear hK K)
        refine RegB.GS_done (by kernel_rfl) ?_
        obtain ⟨⟨p0, p1, p2⟩, _⟩ := HX1.out.kept hB5
        have hsz5 := hB5.size
        have HO5 := Lib.hid hown5
        have HB5 := Lib.hid hB5
        clear hown5 hB5 hgrow5 x0 p0 p1
        go_wp2_with (at_builtin; refine wp_append_s rfl (.tmp 34) (.tmp 36) 9 Try.underlying9 rfl w1.heap.size v5 (1 + L) ([0] ++ putL N) rfl HO5.out s rfl (by omega) hsz5 ?_; intro v6 w6 hown6 hgrow6; refine pause ?_)
        have hB6 : Below w1.heap.size w1 w6 := HB5.out.grown hgrow6 hsz5 (fun q hq => (HO5.out.lt q hq).1)
        rw [← HPv.out] at hown6
        obtain ⟨A6, c6, rfl, hl6, h6, h7⟩ := own_slB hown6 (pv_bytes _)
        have hszw := HB1.out.size
        have H7 := Lib.hid (show ∀ a, A6 = some a → w.heap.size ≤ a.block from fun a ha => by have := (h7 a ha).2.1; omega)
        have H6 := Lib.hid h6
        have HB6 := Lib.hid (bt HB1.out hB6)
        clear h6 h7 hB6 hown6 hgrow6 p2 hl6
        unfold Pause
        go_wp2_with fail
        go_ret2
        exact ⟨A6, c6, ret_v (putted_v HMay.out rfl A6 c6), H6.out, H7.out, HB6.out⟩
    · by_cases k2 : k = 2
      · have hz' := HK2.out k2
        subst k2
        go_wp2_with fail
        refine RegB.GS_start (fun x => Bx x w.heap.size (.int .i64 2) (.int .i64 n) (.string s)) (by kernel_rfl) (by repeat (first | exact Reg.frameless_bodyPost | refine Reg.frameless_then ?_ | refine Reg.frameless_inBlock ?_)) (fun W hW => HX1.out.kept hW) (fun W hW => ?_)
        have HW := Lib.hid hW
        have x0 : ∀ x : RegB.At (fun x => Bx x w.heap.size (.int .i64 2) (.int .i64 n) (.string s)), x.world.cell? ⟨w.heap.size, 0, none⟩ = some (.int .i64 2) := fun x => x.ok.1.1
        haveI : Nonempty (RegB.At (fun x => Bx x w.heap.size (.int .i64 2) (.int .i64 n) (.string s))) := ⟨⟨W, HX1.out.kept hW⟩⟩
        clear hW p0 p1 p2
        first | (refine RegB.GS_step (i := 0) rfl (by kernel_rfl) (by rfl) (fun K hK => ?_); go_big_quiet_op; refine hK _ ?_; clear hK K)
        first | (refine RegB.GS_step (i := 1) rfl (by kernel_rfl) (by rfl) (fun K hK => ?_); go_big_quiet_op; refine hK _ ?_; clear hK K)
        first | (refine RegB.GS_step (i := 2) rfl (by kernel_rfl) (by rfl) (fun K hK => ?_); go_big_quiet_op; refine hK _ ?_; clear hK K)
        first | (refine RegB.GS_step (i := 4) rfl (by kernel_rfl) (by rfl) (fun K hK => ?_); go_big_quiet_op; refine hK _ ?_; clear hK K)
        refine RegB.GS_fork (i := 3) (j := 5) rfl rfl (by kernel_rfl) (by rfl) (by rfl) (fun K hK => ?_) (fun K hK => ?_)
        focus
          go_simp
          refine hK _ _ ((HX1.out.kept HW.out).kept ((Below.refl _ _).alloc (Nat.le_refl _) _)) ?_
          clear hK K
          refine RegB.GS_event (i := 5) rfl (by kernel_rfl) (by rfl) (fun K hK => ?_)
          go_simp
          refine (HPut.out _).mono ?_
          rintro e w4 ⟨A, c, rfl, h4, _, hB4⟩
          rw [← HL.out]
          refine hK _ _ (((HX1.out.kept HW.out).kept ((Below.refl _ _).alloc (Nat.le_refl _) _)).kept hB4) ?_
          clear hK K
          have hown := RegA.own_below (World.ownsRow_lit (base := w1.heap.size) (e := 5) (size := 1) W #[.int .u8 2] 1 HW.out.size (by decide) rfl) hB4
          have hbel : Below w1.heap.size w1 w4 := bt HW.out (bt ((Below.refl _ W).alloc (Nat.le_refl _) (.cells #[.int .u8 2] 5)) hB4)
          obtain ⟨g, hg⟩ : ∃ g, g = W.heap.size := ⟨_, rfl⟩
          rw [← hg] at hown ⊢
          have HO := Lib.hid hown
          have HBel := Lib.hid hbel
          have H4 := Lib.hid h4
          clear hown hbel h4 hB4 hg
        rotate_left
        focus
          go_simp
          refine (HPut.out _).mono ?_
          rintro e w3 ⟨A, c, rfl, h3, _, hB3⟩
          rw [← HL.out]
          refine hK _ _ ((HX1.out.kept HW.out).kept hB3) ?_
          clear hK K
          refine RegB.GS_event (i := 3) rfl (by kernel_rfl) (by rfl) (fun K hK => ?_)
          go_simp
          refine hK _ _ (((HX1.out.kept HW.out).kept hB3).kept ((Below.refl _ _).alloc (Nat.le_refl _) _)) ?_
          clear hK K
          have hown := World.ownsRow_lit (base := w1.heap.size) (e := 5) (size := 1) w3 #[.int .u8 2] 1 (bt HW.out hB3).size (by decide) rfl
          have hbel : Below w1.heap.size w1 (w3.alloc (.cells #[.int .u8 2] 5)) := bt HW.out (bt hB3 ((Below.refl _ w3).alloc (Nat.le_refl _) (.cells #[.int .u8 2] 5)))
          have h4 := h3.kept ((Below.refl _ w3).alloc (Nat.le_refl _) (.cells #[.int .u8 2] 5))
          obtain ⟨g, hg⟩ : ∃ g, g = w3.heap.size := ⟨_, rfl⟩
          obtain ⟨w4, hw4⟩ : ∃ w4, w4 = w3.alloc (.cells #[.int .u8 2] 5) := ⟨_, rfl⟩
          rw [← hw4] at hown hbel h4 ⊢
          rw [← hg] at hown ⊢
          have HO := Lib.hid hown
          have HBel := Lib.hid hbel
          have H4 := Lib.hid h4
          clear hown hbel h4 hB3 h3 hg hw4
        all_goals
          have hsz1 := HBel.out.size
          refine RegB.GS_event (i := 6) rfl (by kernel_rfl) (by rfl) (fun K hK => ?_)
          refine RegA.op_append_b (.tmp 30) (.tmp 32) rfl w1.heap.size _ 1 [2] rfl HO.out A L c (putL N) rfl HL.out.symm H4.out.1 hpos (by omega) hsz1 ?_
          intro v5 w5 hown5 hgrow5
          have hB5 : Below w1.heap.size w1 w5 := HBel.out.grown hgrow5 hsz1 (fun q hq => (HO.out.lt q hq).1)
          refine hK _ _ (HX1.out.kept hB5) ?_
          clear hK K
          simp only [Act.put, List.setIfInBounds_toArray, List.set_cons_zero, List.set_cons_succ]
          first | (refine RegB.GS_step (i := 7) rfl (by kernel_rfl) (by rfl) (fun K hK => ?_); go_big_quiet_op; refine hK _ ?_; clear hK K)
          refine RegB.GS_done (by kernel_rfl) ?_
          obtain ⟨⟨p0, p1, p2⟩, _⟩ := HX1.out.kept hB5
          have hsz5 := hB5.size
          have HO5 := Lib.hid hown5
          have HB5 := Lib.hid hB5
          clear hown5 hB5 hgrow5 x0 p0 p1
          go_wp2_with (at_builtin; refine wp_append_s rfl (.tmp 34) (.tmp 36) 9 Try.underlying9 rfl w1.heap.size v5 (1 + L) ([2] ++ putL N) rfl HO5.out s rfl (by omega) hsz5 ?_; intro v6 w6 hown6 hgrow6; refine pause ?_)
          have hB6 : Below w1.heap.size w1 w6 := HB5.out.grown hgrow6 hsz5 (fun q hq => (HO5.out.lt q hq).1)
          rw [← HPv.out] at hown6
          obtain ⟨A6, c6, rfl, hl6, h6, h7⟩ := own_slB hown6 (pv_bytes _)
          have hszw := HB1.out.size
          have H7 := Lib.hid (show ∀ a, A6 = some a → w.heap.size ≤ a.block from fun a ha => by have := (h7 a ha).2.1; omega)
          have H6 := Lib.hid h6
          have HB6 := Lib.hid (bt HB1.out hB6)
          clear h6 h7 hB6 hown6 hgrow6 p2 hl6
          unfold Pause
          go_wp2_with fail
          go_ret2
          exact ⟨A6, c6, ret_v (putted_v HMay.out rfl A6 c6), H6.out, H7.out, HB6.out⟩
      · obtain ⟨hn0, hn1⟩ := HK1.out k0 k2
        have hnb : n ≤ 9223372036854775807 := HR.out.2
        subst hn1
        have b0 : (k == 0) = false := by simpa using k0
        have b2 : (k == 2) = false := by simpa using k2
        go_wp2_with fail
        refine RegB.GS_start (fun x => Bx x w.heap.size (.int .i64 k) (.int .i64 (N : Int)) (.string s)) (by kernel_rfl) (by repeat (first | exact Reg.frameless_bodyPost | refine Reg.frameless_then ?_ | refine Reg.frameless_inBlock ?_)) (fun W hW => HX1.out.kept hW) (fun W hW => ?_)
        have HW := Lib.hid hW
        have x0 : ∀ x : RegB.At (fun x => Bx x w.heap.size (.int .i64 k) (.int .i64 (N : Int)) (.string s)), x.world.cell? ⟨w.heap.size, 0, none⟩ = some (.int .i64 k) := fun x => x.ok.1.1
        haveI : Nonempty (RegB.At (fun x => Bx x w.heap.size (.int .i64 k) (.int .i64 (N : Int)) (.string s))) := ⟨⟨W, HX1.out.kept hW⟩⟩
        clear hW p0 p1 p2
        first | (refine RegB.GS_step (i := 0) rfl (by kernel_rfl) (by rfl) (fun K hK => ?_); go_big_quiet_op; refine hK _ ?_; clear hK K)
        first | (refine RegB.GS_step (i := 1) rfl (by kernel_rfl) (by rfl) (fun K hK => ?_); go_big_quiet_op; refine hK _ ?_; clear hK K)
        first | (refine RegB.GS_step (i := 2) rfl (by kernel_rfl) (by rfl) (fun K hK => ?_); go_big_quiet_op; refine hK _ ?_; clear hK K)
        first | (refine RegB.GS_step (i := 4) rfl (by kernel_rfl) (by rfl) (fun K hK => ?_); go_big_quiet_op; refine hK _ ?_; clear hK K)
        refine RegB.GS_fork (i := 3) (j := 5) rfl rfl (by kernel_rfl) (by rfl) (by rfl) (fun K hK => ?_) (fun K hK => ?_)
        focus
          go_simp
          refine hK _ _ ((HX1.out.kept HW.out).kept ((Below.refl _ _).alloc (Nat.le_refl _) _)) ?_
          clear hK K
          refine RegB.GS_event (i := 5) rfl (by kernel_rfl) (by rfl) (fun K hK => ?_)
          go_simp
          refine (HPut.out _).mono ?_
          rintro e w4 ⟨A, c, rfl, h4, _, hB4⟩
          rw [← HL.out]
          refine hK _ _ (((HX1.out.kept HW.out).kept ((Below.refl _ _).alloc (Nat.le_refl _) _)).kept hB4) ?_
          clear hK K
          have hown := RegA.own_below (World.ownsRow_lit (base := w1.heap.size) (e := 5) (size := 1) W #[.int .u8 k] 1 HW.out.size (by decide) rfl) hB4
          have hbel : Below w1.heap.size w1 w4 := bt HW.out (bt ((Below.refl _ W).alloc (Nat.le_refl _) (.cells #[.int .u8 k] 5)) hB4)
          obtain ⟨g, hg⟩ : ∃ g, g = W.heap.size := ⟨_, rfl⟩
          rw [← hg] at hown ⊢
          have HO := Lib.hid hown
          have HBel := Lib.hid hbel
          have H4 := Lib.hid h4
          clear hown hbel h4 hB4 hg
        rotate_left
        focus
          go_simp
          refine (HPut.out _).mono ?_
          rintro e w3 ⟨A, c, rfl, h3, _, hB3⟩
          rw [← HL.out]
          refine hK _ _ ((HX1.out.kept HW.out).kept hB3) ?_
          clear hK K
          refine RegB.GS_event (i := 3) rfl (by kernel_rfl) (by rfl) (fun K hK => ?_)
          go_simp
          refine hK _ _ (((HX1.out.kept HW.out).kept hB3).kept ((Below.refl _ _).alloc (Nat.le_refl _) _)) ?_
          clear hK K
          have hown := World.ownsRow_lit (base := w1.heap.size) (e := 5) (size := 1) w3 #[.int .u8 k] 1 (bt HW.out hB3).size (by decide) rfl
          have hbel : Below w1.heap.size w1 (w3.alloc (.cells #[.int .u8 k] 5)) := bt HW.out (bt hB3 ((Below.refl _ w3).alloc (Nat.le_refl _) (.cells #[.int .u8 k] 5)))
          have h4 := h3.kept ((Below.refl _ w3).alloc (Nat.le_refl _) (.cells #[.int .u8 k] 5))
          obtain ⟨g, hg⟩ : ∃ g, g = w3.heap.size := ⟨_, rfl⟩
          obtain ⟨w4, hw4⟩ : ∃ w4, w4 = w3.alloc (.cells #[.int .u8 k] 5) := ⟨_, rfl⟩
          rw [← hw4] at hown hbel h4 ⊢
          rw [← hg] at hown ⊢
          have HO := Lib.hid hown
          have HBel := Lib.hid hbel
          have H4 := Lib.hid h4
          clear hown hbel h4 hB3 h3 hg hw4
        all_goals
          have hsz1 := HBel.out.size
          refine RegB.GS_event (i := 6) rfl (by kernel_rfl) (by rfl) (fun K hK => ?_)
          refine RegA.op_append_b (.tmp 30) (.tmp 32) rfl w1.heap.size _ 1 [k] rfl HO.out A L c (putL N) rfl HL.out.symm H4.out.1 hpos (by omega) hsz1 ?_
          intro v5 w5 hown5 hgrow5
          have hB5 : Below w1.heap.size w1 w5 := HBel.out.grown hgrow5 hsz1 (fun q hq => (HO.out.lt q hq).1)
          refine hK _ _ (HX1.out.kept hB5) ?_
          clear hK K
          simp only [Act.put, List.setIfInBounds_toArray, List.set_cons_zero, List.set_cons_succ]
          first | (refine RegB.GS_step (i := 7) rfl (by kernel_rfl) (by rfl) (fun K hK => ?_); go_big_quiet_op; refine hK _ ?_; clear hK K)
          refine RegB.GS_done (by kernel_rfl) ?_
          obtain ⟨⟨p0, p1, p2⟩, _⟩ := HX1.out.kept hB5
          have hsz5 := hB5.size
          have HO5 := Lib.hid hown5
          have HB5 := Lib.hid hB5
          clear hown5 hB5 hgrow5 x0 p0 p1
          go_wp2_with (at_builtin; refine wp_append_s rfl (.tmp 34) (.tmp 36) 9 Try.underlying9 rfl w1.heap.size v5 (1 + L) ([k] ++ putL N) rfl HO5.out s rfl (by omega) hsz5 ?_; intro v6 w6 hown6 hgrow6; refine pause ?_)
          have hB6 : Below w1.heap.size w1 w6 := HB5.out.grown hgrow6 hsz5 (fun q hq => (HO5.out.lt q hq).1)
          rw [← HPv.out] at hown6
          obtain ⟨A6, c6, rfl, hl6, h6, h7⟩ := own_slB hown6 (pv_bytes _)
          have hszw := HB1.out.size
          have H7 := Lib.hid (show ∀ a, A6 = some a → w.heap.size ≤ a.block from fun a ha => by have := (h7 a ha).2.1; omega)
          have H6 := Lib.hid h6
          have HB6 := Lib.hid (bt HB1.out hB6)
          clear h6 h7 hB6 hown6 hgrow6 p2 hl6
          unfold Pause
          go_wp2_with fail
          go_ret2
          exact ⟨A6, c6, ret_v (putted_v HMay.out rfl A6 c6), H6.out, H7.out, HB6.out⟩
  · rw [decide_eq_false hm]
    have HMay := Lib.hid hm
    have hp : pv ⟨k, n, s⟩ = [] := by rw [pv, if_neg hm]
    have HP := Lib.hid hp
    clear hm hp
    go_wp2_with fail
    go_ret2
    exact ⟨none, 0, ret_v (putted_n HMay.out), by rw [HP.out]; exact slB_none _, (fun a ha => by cases ha), HB1.out⟩
end Go.Proofs.Ytkjfofljjgifdaa.Va
