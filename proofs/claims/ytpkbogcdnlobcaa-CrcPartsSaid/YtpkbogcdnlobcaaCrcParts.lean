/- The walk of CrcParts: the check of all is that of a part, and of the rest behind it; no condition. -/
import Derived.Test.YtpkbogcdnlobcaaCrcNextLaw
import Derived.Test.YtpkbogcdnlobcaaRegion
namespace Go.Proofs.Ytpkbogcdnlobcaa.Crc
open Go.RowKit Go.Proofs.Ytpkbogcdnlobcaa.CrcM Go.Proofs.Ytpkbogcdnlobcaa.BM

set_option maxRecDepth 100000 in
set_option maxHeartbeats 1000000 in
theorem parts_walk (a : Option Addr) (len cap : Nat) (zs : List Int) (i : Int) (w : World) (w0 : RowU8 w a len cap zs) (w1 : (Lit.int .i64 i).wf = true) :
    Calls Try.prog 4 #[.slice a len cap, .int .i64 i] w fun e w' => e = .returned (.bool true) ∧ Below w.heap.size w w' := by
  obtain ⟨n0, n1⟩ := bounds_i64 w1
  obtain ⟨xs, hxl, hB, hcap, hmax⟩ := row_isB w0
  clear w0 w1
  have Haw := Lib.hid (awake_any w)
  by_cases hout : 400 < len ∨ i < 0 ∨ (len : Int) < i
  · clear hxl
    rcases (show 400 < len ∨ (¬ 400 < len ∧ i < 0) ∨ (¬ 400 < len ∧ ¬ i < 0 ∧ (len : Int) < i) from by omega) with h | ⟨h, h'⟩ | ⟨h, h', h''⟩
    all_goals
      clear hout
      go_enter Try.func4, Try.ntmps4
      go_wp2_with fail
      refine Haw.out.mono ?_
      rintro e w1 ⟨rfl, hb1⟩
      go_wp2_with fail
      go_ret
      exact ⟨rfl, hb1⟩
  · obtain ⟨k, rfl⟩ := Int.eq_ofNat_of_zero_le (show 0 ≤ i by omega)
    have hkl : k ≤ len := by omega
    have h400 : ¬ 400 < len := by omega
    clear hout
    have HP := Lib.hid (Of_later a (xs.take k) k cap w (by rw [List.length_take]; omega) (by omega) (isB_take hB k))
    have HO := Lib.hid (Of_later a xs len cap w hxl (by omega) hB)
    have HN := Lib.hid (Next_later (next 0 (xs.take k)) (dropA a k cap) (xs.drop k) (len - k) (cap - k) w (next_lt _ _) (by rw [List.length_drop]; omega) (by omega) (isB_dropA hB k cap (by omega)))
    have H0 := Lib.hid (Next_later (next 0 xs) none [] 0 0 w (next_lt _ _) rfl (by decide) (isB_none w))
    rw [← next_append 0 (xs.take k) (xs.drop k) (isB_take hB k).1, List.take_append_drop] at HN
    rw [next_nil (next_lt _ _)] at H0
    obtain ⟨p, hp⟩ : ∃ p, p = next 0 (xs.take k) := ⟨_, rfl⟩
    obtain ⟨q, hq⟩ : ∃ q, q = next 0 xs := ⟨_, rfl⟩
    rw [← hp] at HP HN
    rw [← hq] at HN HO H0
    have hs1 := fun W : World => slice_hi W a len cap k (by omega)
    have hs2 := fun W : World => slice_lo W a len cap k hkl
    clear hp hq hxl
    go_enter Try.func4, Try.ntmps4
    go_wp2_with fail
    refine Haw.out.mono ?_
    rintro e w1 ⟨rfl, hb1⟩
    go_wp2_with fail
    clear Haw
    refine Reg.G_start (by kernel_rfl) (by repeat (first | exact Reg.frameless_bodyPost | refine Reg.frameless_then ?_ | refine Reg.frameless_inBlock ?_)) (fun W hW => ?_)
    have hbw := Reg.below_trans hb1 hW
    first | (refine Reg.G_step (i := 0) rfl (by kernel_rfl) (by rfl) (fun K hK => ?_); go_big_quiet_op; refine hK _ ?_; clear hK K) | (refine Reg.G_skip (i := 0) rfl (by kernel_rfl) (by rfl) ?_; simp only [Act.put, List.setIfInBounds_toArray, List.set_cons_zero, List.set_cons_succ])
    first | (refine Reg.G_step (i := 1) rfl (by kernel_rfl) (by rfl) (fun K hK => ?_); go_big_quiet_op; refine hK _ ?_; clear hK K) | (refine Reg.G_skip (i := 1) rfl (by kernel_rfl) (by rfl) ?_; simp only [Act.put, List.setIfInBounds_toArray, List.set_cons_zero, List.set_cons_succ])
    first | (refine Reg.G_step (i := 2) rfl (by kernel_rfl) (by rfl) (fun K hK => ?_); go_big_quiet_op; refine hK _ ?_; clear hK K) | (refine Reg.G_skip (i := 2) rfl (by kernel_rfl) (by rfl) ?_; simp only [Act.put, List.setIfInBounds_toArray, List.set_cons_zero, List.set_cons_succ])
    first | (refine Reg.G_step (i := 4) rfl (by kernel_rfl) (by rfl) (fun K hK => ?_); go_big_quiet_op; refine hK _ ?_; clear hK K) | (refine Reg.G_skip (i := 4) rfl (by kernel_rfl) (by rfl) ?_; simp only [Act.put, List.setIfInBounds_toArray, List.set_cons_zero, List.set_cons_succ])
    first | (refine Reg.G_step (i := 5) rfl (by kernel_rfl) (by rfl) (fun K hK => ?_); go_big_quiet_op; refine hK _ ?_; clear hK K) | (refine Reg.G_skip (i := 5) rfl (by kernel_rfl) (by rfl) ?_; simp only [Act.put, List.setIfInBounds_toArray, List.set_cons_zero, List.set_cons_succ])
    first | (refine Reg.G_step (i := 6) rfl (by kernel_rfl) (by rfl) (fun K hK => ?_); go_big_quiet_op; refine hK _ ?_; clear hK K) | (refine Reg.G_skip (i := 6) rfl (by kernel_rfl) (by rfl) ?_; simp only [Act.put, List.setIfInBounds_toArray, List.set_cons_zero, List.set_cons_succ])
    first | (refine Reg.G_step (i := 8) rfl (by kernel_rfl) (by rfl) (fun K hK => ?_); go_big_quiet_op; refine hK _ ?_; clear hK K) | (refine Reg.G_skip (i := 8) rfl (by kernel_rfl) (by rfl) ?_; simp only [Act.put, List.setIfInBounds_toArray, List.set_cons_zero, List.set_cons_succ])
    refine Reg.G_event (i := 3) rfl (by kernel_rfl) (by rfl) (fun K hK => ?_)
    go_simp
    refine (HP.out _ hbw).mono ?_
    rintro e v0 ⟨rfl, hv0⟩
    refine hK _ _ hv0 ?_
    clear hK K
    have hw0 := bt hbw hv0
    refine Reg.G_event (i := 7) rfl (by kernel_rfl) (by rfl) (fun K hK => ?_)
    go_simp
    refine (HN.out _ hw0).mono ?_
    rintro e v1 ⟨rfl, hv1⟩
    refine hK _ _ hv1 ?_
    clear hK K
    have hw1 := bt hw0 hv1
    refine Reg.G_event (i := 9) rfl (by kernel_rfl) (by rfl) (fun K hK => ?_)
    go_simp
    refine (HO.out _ hw1).mono ?_
    rintro e v2 ⟨rfl, hv2⟩
    refine hK _ _ hv2 ?_
    clear hK K
    have hw2 := bt hw1 hv2
    first | (refine Reg.G_step (i := 10) rfl (by kernel_rfl) (by rfl) (fun K hK => ?_); go_big_quiet_op; refine hK _ ?_; clear hK K) | (refine Reg.G_skip (i := 10) rfl (by kernel_rfl) (by rfl) ?_; simp only [Act.put, List.setIfInBounds_toArray, List.set_cons_zero, List.set_cons_succ])
    first | (refine Reg.G_step (i := 11) rfl (by kernel_rfl) (by rfl) (fun K hK => ?_); go_big_quiet_op; refine hK _ ?_; clear hK K) | (refine Reg.G_skip (i := 11) rfl (by kernel_rfl) (by rfl) ?_; simp only [Act.put, List.setIfInBounds_toArray, List.set_cons_zero, List.set_cons_succ])
    first | (refine Reg.G_step (i := 12) rfl (by kernel_rfl) (by rfl) (fun K hK => ?_); go_big_quiet_op; refine hK _ ?_; clear hK K) | (refine Reg.G_skip (i := 12) rfl (by kernel_rfl) (by rfl) ?_; simp only [Act.put, List.setIfInBounds_toArray, List.set_cons_zero, List.set_cons_succ])
    first | (refine Reg.G_step (i := 15) rfl (by kernel_rfl) (by rfl) (fun K hK => ?_); go_big_quiet_op; refine hK _ ?_; clear hK K) | (refine Reg.G_skip (i := 15) rfl (by kernel_rfl) (by rfl) ?_; simp only [Act.put, List.setIfInBounds_toArray, List.set_cons_zero, List.set_cons_succ])
    refine Reg.G_event (i := 13) rfl (by kernel_rfl) (by rfl) (fun K hK => ?_)
    go_simp
    refine (HO.out _ hw2).mono ?_
    rintro e v3 ⟨rfl, hv3⟩
    refine hK _ _ hv3 ?_
    clear hK K
    have hw3 := bt hw2 hv3
    refine Reg.G_event (i := 14) rfl (by kernel_rfl) (by rfl) (fun K hK => ?_)
    go_simp
    refine (H0.out _ hw3).mono ?_
    rintro e v4 ⟨rfl, hv4⟩
    refine hK _ _ hv4 ?_
    clear hK K
    have hw4 := bt hw3 hv4
    refine Reg.G_event (i := 16) rfl (by kernel_rfl) (by rfl) (fun K hK => ?_)
    go_simp
    refine (HO.out _ hw4).mono ?_
    rintro e v5 ⟨rfl, hv5⟩
    refine hK _ _ hv5 ?_
    clear hK K
    have hw5 := bt hw4 hv5
    first | (refine Reg.G_step (i := 17) rfl (by kernel_rfl) (by rfl) (fun K hK => ?_); go_big_quiet_op; refine hK _ ?_; clear hK K) | (refine Reg.G_skip (i := 17) rfl (by kernel_rfl) (by rfl) ?_; simp only [Act.put, List.setIfInBounds_toArray, List.set_cons_zero, List.set_cons_succ])
    first | (refine Reg.G_step (i := 18) rfl (by kernel_rfl) (by rfl) (fun K hK => ?_); go_big_quiet_op; refine hK _ ?_; clear hK K) | (refine Reg.G_skip (i := 18) rfl (by kernel_rfl) (by rfl) ?_; simp only [Act.put, List.setIfInBounds_toArray, List.set_cons_zero, List.set_cons_succ])
    first | (refine Reg.G_step (i := 19) rfl (by kernel_rfl) (by rfl) (fun K hK => ?_); go_big_quiet_op; refine hK _ ?_; clear hK K) | (refine Reg.G_skip (i := 19) rfl (by kernel_rfl) (by rfl) ?_; simp only [Act.put, List.setIfInBounds_toArray, List.set_cons_zero, List.set_cons_succ])
    refine Reg.G_done (by kernel_rfl) ?_
    go_wp2
    go_ret
    exact ⟨ret_bool (by first | rfl | simp), hw5⟩
end Go.Proofs.Ytpkbogcdnlobcaa.Crc
