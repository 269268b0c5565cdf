/- The walk of LeTells: the program's Put, Get, Zig, Zag, Word and Read answer as the document's; no condition. -/
import Derived.Test.YthkkokcghblkpaaLeAwake
import Derived.Test.YthkkokcghblkpaaLeRefGet
namespace Go.Proofs.Ythkkokcghblkpaa.LeG
open Go.RowKit Go.Proofs.Ythkkokcghblkpaa.LeM Go.Proofs.Ythkkokcghblkpaa.LeZ Go.Proofs.Ythkkokcghblkpaa.LeP

set_option maxRecDepth 100000 in
set_option maxHeartbeats 2000000 in
theorem tells_walk (a m u : Int) (A : Option Addr) (len cap : Nat) (zs : List Int) (w : World) (w0 : (Lit.int .u64 a).wf = true) (w1 : (Lit.int .i64 m).wf = true) (w2 : (Lit.int .u32 u).wf = true) (w3 : RowU8 w A len cap zs) :
    Calls Try.prog 3 #[.int .u64 a, .int .i64 m, .int .u32 u, .slice A len cap] w fun e w' => e = .returned (.bool true) ∧ Below w.heap.size w w' := by
  obtain ⟨n0, n1⟩ := bounds_u64 w0
  obtain ⟨n, rfl⟩ := Int.eq_ofNat_of_zero_le n0
  have hn : n < 18446744073709551616 := by omega
  obtain ⟨m0, m1⟩ := bounds_i64 w1
  obtain ⟨u0, u1⟩ := bounds_u32 w2
  obtain ⟨xs, hxl, hB, hcap, hmax⟩ := row_isB w3
  have Hzag := Lib.hid (fun W => Zag_any (n : Int) W n0 n1)
  have Hrzag := Lib.hid (fun W => refZag_any (n : Int) W n0 n1)
  clear w0 w1 w2 w3 n0 n1
  have Haw := Lib.hid (awake_any w)
  have HXL := Lib.hid hxl
  clear hxl
  by_cases h100 : 100 < len
  · go_enter Try.func3, Try.ntmps3
    go_wp2_with fail
    refine Haw.out.mono ?_
    rintro e w1 ⟨rfl, hb1⟩
    go_wp2_with fail
    go_ret
    exact ⟨rfl, hb1⟩
  · have Hget := Lib.hid (fun W (h : Below w.heap.size w W) => Get_any A xs cap W (by rw [HXL.out]; omega) (isB_kept hB h))
    have Hrget := Lib.hid (fun W (h : Below w.heap.size w W) => refGet_any A xs cap W (by rw [HXL.out]; omega) (by rw [HXL.out]; omega) (isB_kept hB h))
    have Hread := Lib.hid (fun W (h : Below w.heap.size w W) => Read_any A xs cap W (by rw [HXL.out]; omega) (isB_kept hB h))
    have Hrread := Lib.hid (fun W (h : Below w.heap.size w W) => refRead_any A xs cap W (by rw [HXL.out]; omega) (isB_kept hB h))
    rw [HXL.out] at Hget Hrget Hread Hrread
    have hgv : ∃ (y k : Int) (t : Bool), gotV (getS xs) = .tuple #[.int .u64 y, .int .i64 k, .bool t] := by
      cases getS xs with
      | none => exact ⟨0, 0, false, rfl⟩
      | some p => exact ⟨p.1, p.2, true, rfl⟩
    have hrv : ∃ (y : Int) (t : Bool), readV xs = .tuple #[.int .u32 y, .bool t] := by
      unfold readV
      split
      · exact ⟨_, true, rfl⟩
      · exact ⟨0, false, rfl⟩
    obtain ⟨y, k, t, hgv⟩ := hgv
    obtain ⟨y2, t2, hrv⟩ := hrv
    rw [hgv] at Hget Hrget
    rw [hrv] at Hread Hrread
    clear hgv hrv
    have Hput := Lib.hid (fun W => Put_mem n W hn)
    have Hrput := Lib.hid (fun W => refPut_mem n W hn)
    have Hword := Lib.hid (fun W => Word_mem u W u0 u1)
    have Hrword := Lib.hid (fun W => refWord_any u W u0 u1)
    have Hcp := Lib.hid (fun (W : World) (g c : Nat) (h : IsB W (some ⟨g, 0, none⟩) (putL n)) => conv_any h c 9 Try.underlying9)
    have Hcw := Lib.hid (fun (W : World) (g c : Nat) (h : IsB W (some ⟨g, 0, none⟩) (wordL u)) => conv_any h c 9 Try.underlying9)
    rw [show (wordL u).length = 4 from rfl] at Hcw
    obtain ⟨s1, hs1⟩ : ∃ s, s = strOfNums (putL n) := ⟨_, rfl⟩
    obtain ⟨s2, hs2⟩ : ∃ s, s = strOfNums (wordL u) := ⟨_, rfl⟩
    rw [← hs1] at Hcp
    rw [← hs2] at Hcw
    have hpos := putL_pos n
    have Hzig := Lib.hid (fun W => Zig_any m W m0 m1)
    have Hrzig := Lib.hid (fun W => refZig_any m W m0 m1)
    obtain ⟨zg, hzg⟩ : ∃ z, z = zig m := ⟨_, rfl⟩
    obtain ⟨za, hza⟩ : ∃ z, z = zag (n : Int) := ⟨_, rfl⟩
    rw [← hzg] at Hzig Hrzig
    rw [← hza] at Hzag Hrzag
    clear hs1 hs2 hzg hza hB HXL
    go_enter Try.func3, Try.ntmps3
    go_wp2_with fail
    refine Haw.out.mono ?_
    rintro e w1 ⟨rfl, hb1⟩
    go_wp2_with fail
    refine (Hget.out _ hb1).mono ?_
    rintro e w2 ⟨rfl, rfl⟩
    go_wp2_with fail
    refine (Hrget.out _ hb1).mono ?_
    rintro e w2 ⟨rfl, hb2⟩
    have hb2' := Reg.below_trans hb1 hb2
    go_wp2_with fail
    refine (Hread.out _ hb2').mono ?_
    rintro e w3 ⟨rfl, rfl⟩
    go_wp2_with fail
    refine (Hrread.out _ hb2').mono ?_
    rintro e w3 ⟨rfl, hb3⟩
    have hb3' := Reg.below_trans hb2' hb3
    clear hb1 hb2 hb3 hb2' Haw Hget Hrget Hread Hrread
    go_wp2_with fail
    refine Reg.G_start (by kernel_rfl) (by repeat (first | exact Reg.frameless_bodyPost | refine Reg.frameless_then ?_ | refine Reg.frameless_inBlock ?_)) (fun W hW => ?_)
    first | (refine Reg.G_step (i := 0) rfl (by kernel_rfl) (by rfl) (fun K hK => ?_); go_big_quiet_op; refine hK _ ?_; clear hK K) | (refine Reg.G_skip (i := 0) rfl (by kernel_rfl) (by rfl) ?_; simp only [Act.put, List.setIfInBounds_toArray, List.set_cons_zero, List.set_cons_succ])
    first | (refine Reg.G_step (i := 3) rfl (by kernel_rfl) (by rfl) (fun K hK => ?_); go_big_quiet_op; refine hK _ ?_; clear hK K) | (refine Reg.G_skip (i := 3) rfl (by kernel_rfl) (by rfl) ?_; simp only [Act.put, List.setIfInBounds_toArray, List.set_cons_zero, List.set_cons_succ])
    refine Reg.G_event (i := 1) rfl (by kernel_rfl) (by rfl) (fun K hK => ?_)
    go_simp
    refine (Hput.out _).mono ?_
    rintro e w4 ⟨g4, c4, rfl, _, _, _, hB4, _, hb4⟩
    refine hK _ _ hb4 ?_
    clear hK K
    have hc4 := fun x : Reg.Later w4 => Hcp.out x.world _ c4 (isB_kept hB4 x.ext)
    first | (refine Reg.G_step (i := 2) rfl (by kernel_rfl) (by rfl) (fun K hK => ?_); go_big_quiet_op; refine hK _ ?_; clear hK K) | (refine Reg.G_skip (i := 2) rfl (by kernel_rfl) (by rfl) ?_; simp only [Act.put, List.setIfInBounds_toArray, List.set_cons_zero, List.set_cons_succ])
    refine Reg.G_event (i := 4) rfl (by kernel_rfl) (by rfl) (fun K hK => ?_)
    go_simp
    refine (Hrput.out _).mono ?_
    rintro e w5 ⟨g5, c5, rfl, hB5, hb5⟩
    refine hK _ _ hb5 ?_
    clear hK K hc4
    have hc5 := fun x : Reg.Later w5 => Hcp.out x.world _ c5 (isB_kept hB5 x.ext)
    have hee : (s1.toList == s1.toList) = true := by simp
    first | (refine Reg.G_step (i := 5) rfl (by kernel_rfl) (by rfl) (fun K hK => ?_); go_big_quiet_op; refine hK _ ?_; clear hK K) | (refine Reg.G_skip (i := 5) rfl (by kernel_rfl) (by rfl) ?_; simp only [Act.put, List.setIfInBounds_toArray, List.set_cons_zero, List.set_cons_succ])
    first | (refine Reg.G_step (i := 6) rfl (by kernel_rfl) (by rfl) (fun K hK => ?_); go_big_quiet_op; refine hK _ ?_; clear hK K) | (refine Reg.G_skip (i := 6) rfl (by kernel_rfl) (by rfl) ?_; simp only [Act.put, List.setIfInBounds_toArray, List.set_cons_zero, List.set_cons_succ])
    first | (refine Reg.G_step (i := 7) rfl (by kernel_rfl) (by rfl) (fun K hK => ?_); go_big_quiet_op; refine hK _ ?_; clear hK K) | (refine Reg.G_skip (i := 7) rfl (by kernel_rfl) (by rfl) ?_; simp only [Act.put, List.setIfInBounds_toArray, List.set_cons_zero, List.set_cons_succ])
    first | (refine Reg.G_step (i := 8) rfl (by kernel_rfl) (by rfl) (fun K hK => ?_); go_big_quiet_op; refine hK _ ?_; clear hK K) | (refine Reg.G_skip (i := 8) rfl (by kernel_rfl) (by rfl) ?_; simp only [Act.put, List.setIfInBounds_toArray, List.set_cons_zero, List.set_cons_succ])
    first | (refine Reg.G_step (i := 11) rfl (by kernel_rfl) (by rfl) (fun K hK => ?_); go_big_quiet_op; refine hK _ ?_; clear hK K) | (refine Reg.G_skip (i := 11) rfl (by kernel_rfl) (by rfl) ?_; simp only [Act.put, List.setIfInBounds_toArray, List.set_cons_zero, List.set_cons_succ])
    refine Reg.G_event (i := 9) rfl (by kernel_rfl) (by rfl) (fun K hK => ?_)
    go_simp
    refine (Hword.out _).mono ?_
    rintro e w6 ⟨rfl, hB6, hb6⟩
    refine hK _ _ hb6 ?_
    clear hK K hc5
    have hc6 := fun x : Reg.Later w6 => Hcw.out x.world _ 4 (isB_kept hB6 x.ext)
    first | (refine Reg.G_step (i := 10) rfl (by kernel_rfl) (by rfl) (fun K hK => ?_); go_big_quiet_op; refine hK _ ?_; clear hK K) | (refine Reg.G_skip (i := 10) rfl (by kernel_rfl) (by rfl) ?_; simp only [Act.put, List.setIfInBounds_toArray, List.set_cons_zero, List.set_cons_succ])
    refine Reg.G_event (i := 12) rfl (by kernel_rfl) (by rfl) (fun K hK => ?_)
    go_simp
    refine (Hrword.out _).mono ?_
    rintro e w7 ⟨rfl, hB7, hb7⟩
    refine hK _ _ hb7 ?_
    clear hK K hc6
    have hc7 := fun x : Reg.Later w7 => Hcw.out x.world _ 4 (isB_kept hB7 x.ext)
    have hee : (s2.toList == s2.toList) = true := by simp
    first | (refine Reg.G_step (i := 13) rfl (by kernel_rfl) (by rfl) (fun K hK => ?_); go_big_quiet_op; refine hK _ ?_; clear hK K) | (refine Reg.G_skip (i := 13) rfl (by kernel_rfl) (by rfl) ?_; simp only [Act.put, List.setIfInBounds_toArray, List.set_cons_zero, List.set_cons_succ])
    first | (refine Reg.G_step (i := 14) rfl (by kernel_rfl) (by rfl) (fun K hK => ?_); go_big_quiet_op; refine hK _ ?_; clear hK K) | (refine Reg.G_skip (i := 14) rfl (by kernel_rfl) (by rfl) ?_; simp only [Act.put, List.setIfInBounds_toArray, List.set_cons_zero, List.set_cons_succ])
    first | (refine Reg.G_step (i := 15) rfl (by kernel_rfl) (by rfl) (fun K hK => ?_); go_big_quiet_op; refine hK _ ?_; clear hK K) | (refine Reg.G_skip (i := 15) rfl (by kernel_rfl) (by rfl) ?_; simp only [Act.put, List.setIfInBounds_toArray, List.set_cons_zero, List.set_cons_succ])
    first | (refine Reg.G_step (i := 16) rfl (by kernel_rfl) (by rfl) (fun K hK => ?_); go_big_quiet_op; refine hK _ ?_; clear hK K) | (refine Reg.G_skip (i := 16) rfl (by kernel_rfl) (by rfl) ?_; simp only [Act.put, List.setIfInBounds_toArray, List.set_cons_zero, List.set_cons_succ])
    refine Reg.G_done (by kernel_rfl) ?_
    have hbel : Below w.heap.size w w7 := Reg.below_trans (Reg.below_trans (Reg.below_trans (Reg.below_trans (Reg.below_trans hb3' hW) hb4) hb5) hb6) hb7
    clear hc7 hb4 hb5 hb6 hb7 hB4 hB5 hB6 hB7 hW hb3' Hput Hrput Hword Hrword Hcp Hcw
    go_wp2_with fail
    refine (Hzig.out _).mono ?_
    rintro e w8 ⟨rfl, rfl⟩
    go_wp2_with fail
    refine (Hrzig.out _).mono ?_
    rintro e w8 ⟨rfl, rfl⟩
    go_wp2_with fail
    refine (Hzag.out _).mono ?_
    rintro e w8 ⟨rfl, rfl⟩
    go_wp2_with fail
    refine (Hrzag.out _).mono ?_
    rintro e w8 ⟨rfl, rfl⟩
    go_wp2_with fail
    go_ret
    exact ⟨ret_bool (by first | rfl | simp), hbel⟩
end Go.Proofs.Ythkkokcghblkpaa.LeG
