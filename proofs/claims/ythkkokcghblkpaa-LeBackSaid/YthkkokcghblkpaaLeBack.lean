/- The walk of LeBack: what is put is got, whatever stands behind, and what is got is put as the same bytes; no condition. -/
import Derived.Test.YthkkokcghblkpaaLeAwake
import Derived.Test.YthkkokcghblkpaaRegion
namespace Go.Proofs.Ythkkokcghblkpaa.LeG
open Go.RowKit Go.Proofs.Ythkkokcghblkpaa.LeM Go.Proofs.Ythkkokcghblkpaa.LeZ Go.Proofs.Ythkkokcghblkpaa.LeP

set_option maxRecDepth 100000 in
set_option maxHeartbeats 1000000 in
theorem back_walk (a : Int) (A : Option Addr) (len cap : Nat) (zs : List Int) (w : World) (w0 : (Lit.int .u64 a).wf = true) (w1 : RowU8 w A len cap zs) :
    Calls Try.prog 4 #[.int .u64 a, .slice A len cap] w fun e w' => e = .returned (.bool true) ∧ Below w.heap.size w w' := by
  obtain ⟨n0, n1⟩ := bounds_u64 w0
  obtain ⟨n, rfl⟩ := Int.eq_ofNat_of_zero_le n0
  have hn : n < 18446744073709551616 := by omega
  have hnil : A = none → cap = 0 := by
    intro h
    rcases w1 with ⟨_, _, h3, _⟩ | ⟨x, h1, _⟩
    · exact h3
    · rw [h] at h1; cases h1
  obtain ⟨xs, hxl, hB, hcap, hmax⟩ := row_isB w1
  clear w0 w1 n0 n1
  have Haw := Lib.hid (awake_any w)
  have HXL := Lib.hid hxl
  clear hxl
  by_cases h100 : 100 < len
  · go_enter Try.func4, Try.ntmps4
    go_wp2_with fail
    refine Haw.out.mono ?_
    rintro e w1 ⟨rfl, hb1⟩
    go_wp2_with fail
    go_ret
    exact ⟨rfl, hb1⟩
  · have hm10 := putL_len64 hn
    have hpos := putL_pos n
    go_enter Try.func4, Try.ntmps4
    go_wp2_with fail
    refine Haw.out.mono ?_
    rintro e w1 ⟨rfl, hb1⟩
    go_wp2_with fail
    refine (Put_mem n w1 hn).mono ?_
    rintro e w2 ⟨g, cap1, rfl, hg1, hg2, hcap1, hB1, _, hb2⟩
    have hbel : Below w.heap.size w w2 := Reg.below_trans hb1 hb2
    have hBx := isB_kept hB hbel
    obtain ⟨L, hL⟩ : ∃ L, L = (putL n).length := ⟨_, rfl⟩
    rw [← hL] at hm10 hpos hcap1 ⊢
    have HL := Lib.hid hL
    clear hL hb1 hb2 Haw
    go_wp2_with (first
      | (at_builtin; refine wp_append_b rfl _ (.tmp 25) rfl w2.heap.size _ 0 [] rfl (World.ownsRow_nil _ _ _ _) (some ⟨g, 0, none⟩) L cap1 (putL n) rfl HL.out.symm hB1 (fun h => by cases h) (by omega) (Nat.le_refl _) ?_; intro v1 w3 hown1 hgrow1; simp only [Nat.zero_add, List.nil_append] at hown1; have hb3 : Below w2.heap.size w2 w3 := (Below.refl _ _).grown hgrow1 (Nat.le_refl _) (fun _ h => by cases h); have hB3 := isB_kept hBx hb3; have hsz3 := hb3.size)
      | (at_builtin; refine wp_append_b rfl (.tmp 26) (.tmp 27) rfl w2.heap.size _ L (putL n) rfl hown1 A len cap xs rfl HXL.out hB3 hnil (by omega) hsz3 ?_; intro v2 w4 hown2 hgrow2; obtain ⟨g2, cap2, rfl, hl2, hg3, hg4, hcap2, hB2⟩ := own_form hown2 (fun y hy => by rcases List.mem_append.1 hy with h | h; exact putL_bytes n y h; exact hB.1 y h) (by omega)))
    have hb4 : Below w2.heap.size w2 w4 := hb3.grown hgrow2 hsz3 (fun q hq => (hown1.lt q hq).1)
    have hget := Get_any (some ⟨g2, 0, none⟩) (putL n ++ xs) cap2 w4 (by rw [hl2]; omega) hB2
    rw [hl2, getS_put hn xs hB.1, ← HL.out] at hget
    have Hget := Lib.hid (show Calls Try.prog 12 #[.slice (some ⟨g2, 0, none⟩) (L + len) cap2] w4 fun e w' => e = .returned (.tuple #[.int .u64 (n : Int), .int .i64 (L : Int), .bool true]) ∧ w4 = w' from hget)
    have hB4 := isB_kept hBx hb4
    have hgx := Get_any A xs cap w4 (by rw [HXL.out]; omega) hB4
    rw [HXL.out] at hgx
    have hbel4 : Below w.heap.size w w4 := Reg.below_trans hbel hb4
    clear hget hl2 hB2 hown1 hown2 hgrow1 hgrow2 hb3 hb4 hB1
    refine Hget.out.mono ?_
    rintro e w5 ⟨rfl, rfl⟩
    cases hgs : getS xs with
    | none =>
      rw [hgs] at hgx
      have Hgx := Lib.hid (show Calls Try.prog 12 #[.slice A len cap] w4 fun e w' => e = .returned (.tuple #[.int .u64 0, .int .i64 0, .bool false]) ∧ w4 = w' from hgx)
      clear hgx hgs
      go_wp2_with fail
      refine Hgx.out.mono ?_
      rintro e w5 ⟨rfl, rfl⟩
      go_wp2_with fail
      go_ret
      exact ⟨rfl, hbel4⟩
    | some p =>
      obtain ⟨v, k⟩ := p
      rw [hgs] at hgx
      have Hgx := Lib.hid (show Calls Try.prog 12 #[.slice A len cap] w4 fun e w' => e = .returned (.tuple #[.int .u64 (v : Int), .int .i64 (k : Int), .bool true]) ∧ w4 = w' from hgx)
      obtain ⟨hv, hk, hpv⟩ := (getS_iff xs hB.1 v k).1 hgs
      rw [HXL.out] at hk
      have hk1 : 1 ≤ k := by
        have h := putL_pos v
        rw [hpv, List.length_take] at h
        omega
      obtain ⟨b, o, rfl, _⟩ := hB.2 (by rw [HXL.out]; omega)
      have Hcb := Lib.hid (fun (W : World) (h : Below w4.heap.size w4 W) => conv_any (w := W) (isB_take (isB_kept hB4 h) k) cap 9 Try.underlying9)
      rw [← hpv] at Hcb
      have hlk : (putL v).length = k := by
        rw [hpv, List.length_take, HXL.out]
        omega
      have Hput := Lib.hid (fun W => Put_mem v W hv)
      have Hcp := Lib.hid (fun (W : World) (g c : Nat) (h : IsB W (some ⟨g, 0, none⟩) (putL v)) => conv_any h c 9 Try.underlying9)
      rw [hlk] at Hcb Hput Hcp
      obtain ⟨s, hs⟩ : ∃ s, s = strOfNums (putL v) := ⟨_, rfl⟩
      rw [← hs] at Hcb Hcp
      have hkc : (k : Int) ≤ (cap : Int) := by omega
      have hd1 : decide (1 ≤ (k : Int)) = true := by simp; omega
      have hd2 : decide (k ≤ len) = true := by simp; omega
      clear hgx hgs hs hlk hpv
      go_wp2_with fail
      refine Hgx.out.mono ?_
      rintro e w5 ⟨rfl, rfl⟩
      go_wp2_with fail
      refine Reg.G_start (by kernel_rfl) (by repeat (first | exact Reg.frameless_bodyPost | refine Reg.frameless_then ?_ | refine Reg.frameless_inBlock ?_)) (fun W hW => ?_)
      have hcb := fun x : Reg.Later W => Hcb.out x.world (Reg.below_trans hW x.ext)
      first | (refine Reg.G_step (i := 0) rfl (by kernel_rfl) (by rfl) (fun K hK => ?_); go_big_quiet_op; refine hK _ ?_; clear hK K) | (refine Reg.G_skip (i := 0) rfl (by kernel_rfl) (by rfl) ?_; simp only [Act.put, List.setIfInBounds_toArray, List.set_cons_zero, List.set_cons_succ])
      first | (refine Reg.G_step (i := 1) rfl (by kernel_rfl) (by rfl) (fun K hK => ?_); go_big_quiet_op; refine hK _ ?_; clear hK K) | (refine Reg.G_skip (i := 1) rfl (by kernel_rfl) (by rfl) ?_; simp only [Act.put, List.setIfInBounds_toArray, List.set_cons_zero, List.set_cons_succ])
      first | (refine Reg.G_step (i := 2) rfl (by kernel_rfl) (by rfl) (fun K hK => ?_); go_big_quiet_op; refine hK _ ?_; clear hK K) | (refine Reg.G_skip (i := 2) rfl (by kernel_rfl) (by rfl) ?_; simp only [Act.put, List.setIfInBounds_toArray, List.set_cons_zero, List.set_cons_succ])
      first | (refine Reg.G_step (i := 3) rfl (by kernel_rfl) (by rfl) (fun K hK => ?_); go_big_quiet_op; refine hK _ ?_; clear hK K) | (refine Reg.G_skip (i := 3) rfl (by kernel_rfl) (by rfl) ?_; simp only [Act.put, List.setIfInBounds_toArray, List.set_cons_zero, List.set_cons_succ])
      first | (refine Reg.G_step (i := 4) rfl (by kernel_rfl) (by rfl) (fun K hK => ?_); go_big_quiet_op; refine hK _ ?_; clear hK K) | (refine Reg.G_skip (i := 4) rfl (by kernel_rfl) (by rfl) ?_; simp only [Act.put, List.setIfInBounds_toArray, List.set_cons_zero, List.set_cons_succ])
      first | (refine Reg.G_step (i := 5) rfl (by kernel_rfl) (by rfl) (fun K hK => ?_); go_big_quiet_op; refine hK _ ?_; clear hK K) | (refine Reg.G_skip (i := 5) rfl (by kernel_rfl) (by rfl) ?_; simp only [Act.put, List.setIfInBounds_toArray, List.set_cons_zero, List.set_cons_succ])
      first | (refine Reg.G_step (i := 6) rfl (by kernel_rfl) (by rfl) (fun K hK => ?_); go_big_quiet_op; refine hK _ ?_; clear hK K) | (refine Reg.G_skip (i := 6) rfl (by kernel_rfl) (by rfl) ?_; simp only [Act.put, List.setIfInBounds_toArray, List.set_cons_zero, List.set_cons_succ])
      first | (refine Reg.G_step (i := 7) rfl (by kernel_rfl) (by rfl) (fun K hK => ?_); go_big_quiet_op; refine hK _ ?_; clear hK K) | (refine Reg.G_skip (i := 7) rfl (by kernel_rfl) (by rfl) ?_; simp only [Act.put, List.setIfInBounds_toArray, List.set_cons_zero, List.set_cons_succ])
      first | (refine Reg.G_step (i := 8) rfl (by kernel_rfl) (by rfl) (fun K hK => ?_); go_big_quiet_op; refine hK _ ?_; clear hK K) | (refine Reg.G_skip (i := 8) rfl (by kernel_rfl) (by rfl) ?_; simp only [Act.put, List.setIfInBounds_toArray, List.set_cons_zero, List.set_cons_succ])
      first | (refine Reg.G_step (i := 9) rfl (by kernel_rfl) (by rfl) (fun K hK => ?_); go_big_quiet_op; refine hK _ ?_; clear hK K) | (refine Reg.G_skip (i := 9) rfl (by kernel_rfl) (by rfl) ?_; simp only [Act.put, List.setIfInBounds_toArray, List.set_cons_zero, List.set_cons_succ])
      first | (refine Reg.G_step (i := 12) rfl (by kernel_rfl) (by rfl) (fun K hK => ?_); go_big_quiet_op; refine hK _ ?_; clear hK K) | (refine Reg.G_skip (i := 12) rfl (by kernel_rfl) (by rfl) ?_; simp only [Act.put, List.setIfInBounds_toArray, List.set_cons_zero, List.set_cons_succ])
      first | (refine Reg.G_step (i := 13) rfl (by kernel_rfl) (by rfl) (fun K hK => ?_); go_big_quiet_op; refine hK _ ?_; clear hK K) | (refine Reg.G_skip (i := 13) rfl (by kernel_rfl) (by rfl) ?_; simp only [Act.put, List.setIfInBounds_toArray, List.set_cons_zero, List.set_cons_succ])
      first | (refine Reg.G_step (i := 14) rfl (by kernel_rfl) (by rfl) (fun K hK => ?_); go_big_quiet_op; refine hK _ ?_; clear hK K) | (refine Reg.G_skip (i := 14) rfl (by kernel_rfl) (by rfl) ?_; simp only [Act.put, List.setIfInBounds_toArray, List.set_cons_zero, List.set_cons_succ])
      first | (refine Reg.G_step (i := 15) rfl (by kernel_rfl) (by rfl) (fun K hK => ?_); go_big_quiet_op; refine hK _ ?_; clear hK K) | (refine Reg.G_skip (i := 15) rfl (by kernel_rfl) (by rfl) ?_; simp only [Act.put, List.setIfInBounds_toArray, List.set_cons_zero, List.set_cons_succ])
      refine Reg.G_event (i := 10) rfl (by kernel_rfl) (by rfl) (fun K hK => ?_)
      go_simp
      refine (Hput.out _).mono ?_
      rintro e w6 ⟨g6, cap6, rfl, _, _, hcap6, hB6, _, hb6⟩
      refine hK _ _ hb6 ?_
      clear hK K hcb
      have hcb := fun x : Reg.Later w6 => Hcp.out x.world _ cap6 (isB_kept hB6 x.ext)
      first | (refine Reg.G_step (i := 11) rfl (by kernel_rfl) (by rfl) (fun K hK => ?_); go_big_quiet_op; refine hK _ ?_; clear hK K) | (refine Reg.G_skip (i := 11) rfl (by kernel_rfl) (by rfl) ?_; simp only [Act.put, List.setIfInBounds_toArray, List.set_cons_zero, List.set_cons_succ])
      first | (refine Reg.G_step (i := 16) rfl (by kernel_rfl) (by rfl) (fun K hK => ?_); go_big_quiet_op; refine hK _ ?_; clear hK K) | (refine Reg.G_skip (i := 16) rfl (by kernel_rfl) (by rfl) ?_; simp only [Act.put, List.setIfInBounds_toArray, List.set_cons_zero, List.set_cons_succ])
      first | (refine Reg.G_step (i := 17) rfl (by kernel_rfl) (by rfl) (fun K hK => ?_); go_big_quiet_op; refine hK _ ?_; clear hK K) | (refine Reg.G_skip (i := 17) rfl (by kernel_rfl) (by rfl) ?_; simp only [Act.put, List.setIfInBounds_toArray, List.set_cons_zero, List.set_cons_succ])
      first | (refine Reg.G_step (i := 18) rfl (by kernel_rfl) (by rfl) (fun K hK => ?_); go_big_quiet_op; refine hK _ ?_; clear hK K) | (refine Reg.G_skip (i := 18) rfl (by kernel_rfl) (by rfl) ?_; simp only [Act.put, List.setIfInBounds_toArray, List.set_cons_zero, List.set_cons_succ])
      refine Reg.G_done (by kernel_rfl) ?_
      go_wp2
      go_ret
      exact ⟨ret_bool (by first | rfl | simp), Reg.below_trans (Reg.below_trans hbel4 hW) hb6⟩
end Go.Proofs.Ythkkokcghblkpaa.LeG
