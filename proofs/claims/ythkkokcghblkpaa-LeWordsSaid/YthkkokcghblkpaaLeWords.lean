/- The walk of LeWords: four bytes are read as what was put, and put as what was read, no others are; no condition. -/
import Derived.Test.YthkkokcghblkpaaLeAwake
import Derived.Test.YthkkokcghblkpaaLeWord
import Derived.BigQuiet
import Derived.Deep.QuietTactic
import Derived.Test.YthkkokcghblkpaaRegion
namespace Go.Proofs.Ythkkokcghblkpaa.LeG
open Go.RowKit Go.Proofs.Ythkkokcghblkpaa.LeM Go.Proofs.Ythkkokcghblkpaa.LeZ Go.Proofs.Ythkkokcghblkpaa.LeP

theorem readN_word {n : Int} (_h0 : 0 ≤ n) (_h1 : n ≤ 4294967295) : readN (wordL n) = n := by
  show n % 256 + 256 * (n / 256 % 256) + 65536 * (n / 65536 % 256) + 16777216 * (n / 16777216) = n
  omega

theorem readV_word {n : Int} (h0 : 0 ≤ n) (h1 : n ≤ 4294967295) : readV (wordL n) = .tuple #[.int .u32 n, .bool true] := by
  unfold readV
  rw [if_pos (show (wordL n).length = 4 from rfl), readN_word h0 h1]

theorem word_readN {xs : List Int} (hx : xs.length = 4) (hb : ∀ x ∈ xs, (0 : Int) ≤ x ∧ x < 256) : wordL (readN xs) = xs ∧ 0 ≤ readN xs ∧ readN xs ≤ 4294967295 := by
  match xs, hx with
  | [x0, x1, x2, x3], _ =>
    have b0 := hb x0 (by simp)
    have b1 := hb x1 (by simp)
    have b2 := hb x2 (by simp)
    have b3 := hb x3 (by simp)
    have e : readN [x0, x1, x2, x3] = x0 + 256 * x1 + 65536 * x2 + 16777216 * x3 := rfl
    refine ⟨?_, by omega, by omega⟩
    rw [e]
    unfold wordL
    have e0 : (x0 + 256 * x1 + 65536 * x2 + 16777216 * x3) % 256 = x0 := by omega
    have e1 : (x0 + 256 * x1 + 65536 * x2 + 16777216 * x3) / 256 % 256 = x1 := by omega
    have e2 : (x0 + 256 * x1 + 65536 * x2 + 16777216 * x3) / 65536 % 256 = x2 := by omega
    have e3 : (x0 + 256 * x1 + 65536 * x2 + 16777216 * x3) / 16777216 = x3 := by omega
    rw [e0, e1, e2, e3]

set_option maxRecDepth 100000 in
set_option maxHeartbeats 1000000 in
theorem words_walk (n : Int) (a : Option Addr) (len cap : Nat) (zs : List Int) (w : World) (w0 : (Lit.int .u32 n).wf = true) (w1 : RowU8 w a len cap zs) :
    Calls Try.prog 6 #[.int .u32 n, .slice a len cap] w fun e w' => e = .returned (.bool true) ∧ Below w.heap.size w w' := by
  obtain ⟨n0, n1⟩ := bounds_u32 w0
  obtain ⟨xs, hxl, hB, hcap, hmax⟩ := row_isB w1
  clear w0 w1
  have Haw := Lib.hid (awake_any w)
  by_cases h100 : 100 < len
  · go_enter Try.func6, Try.ntmps6
    go_wp2_with fail
    refine Haw.out.mono ?_
    rintro e w1 ⟨rfl, hb1⟩
    go_wp2_with fail
    go_ret
    exact ⟨rfl, hb1⟩
  · have HXL := Lib.hid hxl
    clear hxl
    go_enter Try.func6, Try.ntmps6
    go_wp2_with fail
    refine Haw.out.mono ?_
    rintro e w1 ⟨rfl, hb1⟩
    go_wp2_with fail
    refine (Word_mem n w1 n0 n1).mono ?_
    rintro e w2 ⟨rfl, hW, hb2⟩
    have hbel : Below w.heap.size w w2 := hb1.trans (hb2.mono hb1.size)
    have hr1 := Read_any _ (wordL n) 4 w2 (by show 4 ≤ _; decide) hW
    rw [show (wordL n).length = 4 from rfl, readV_word n0 n1] at hr1
    have Hr1 := Lib.hid hr1
    have hB2 := isB_kept hB hbel
    have hr2 := Read_any a xs cap w2 (by rw [HXL.out]; omega) hB2
    rw [HXL.out] at hr2
    have hcw := fun k => conv_any (w := w2.drewN k) hW 4 9 Try.underlying9
    clear hr1 hb1 hb2
    by_cases h4 : len = 4
    · subst h4
      obtain ⟨hwk, k0, k1⟩ := word_readN HXL.out hB.1
      rw [readV, if_pos HXL.out] at hr2
      obtain ⟨k, hk⟩ : ∃ k, k = readN xs := ⟨_, rfl⟩
      rw [← hk] at hr2 hwk k0 k1
      have Hcb := Lib.hid (fun (W : World) (h : Below w2.heap.size w2 W) => conv_any (w := W) (isB_kept hB2 h) cap 9 Try.underlying9)
      rw [HXL.out] at Hcb
      obtain ⟨s, hs⟩ : ∃ s, s = strOfNums xs := ⟨_, rfl⟩
      rw [← hs] at Hcb
      have Hwd := Lib.hid (fun W => Word_mem k W k0 k1)
      have Hcw := Lib.hid (fun (W : World) (g : Nat) (h : IsB W (some ⟨g, 0, none⟩) (wordL k)) => conv_any h 4 9 Try.underlying9)
      rw [hwk, ← hs, HXL.out] at Hcw
      rw [hwk] at Hwd
      have Hr2 := Lib.hid hr2
      clear hr2 hcw hs hk hwk
      go_wp2_with fail
      refine Hr1.out.mono ?_
      rintro e w3 ⟨rfl, rfl⟩
      go_wp2_with fail
      refine Hr2.out.mono ?_
      rintro e w3 ⟨rfl, rfl⟩
      go_wp2_with fail
      clear Haw Hr1 Hr2
      refine Reg.G_start (by kernel_rfl) (by repeat (first | exact Reg.frameless_bodyPost | refine Reg.frameless_then ?_ | refine Reg.frameless_inBlock ?_)) (fun W hW => ?_)
      have hcb := fun x : Reg.Later W => Hcb.out x.world (Reg.below_trans hW x.ext)
      first | (refine Reg.G_step (i := 0) rfl (by kernel_rfl) (by rfl) (fun K hK => ?_); go_big_quiet_op; refine hK _ ?_; clear hK K) | (refine Reg.G_skip (i := 0) rfl (by kernel_rfl) (by rfl) ?_; simp only [Act.put, List.setIfInBounds_toArray, List.set_cons_zero, List.set_cons_succ])
      first | (refine Reg.G_step (i := 1) rfl (by kernel_rfl) (by rfl) (fun K hK => ?_); go_big_quiet_op; refine hK _ ?_; clear hK K) | (refine Reg.G_skip (i := 1) rfl (by kernel_rfl) (by rfl) ?_; simp only [Act.put, List.setIfInBounds_toArray, List.set_cons_zero, List.set_cons_succ])
      first | (refine Reg.G_step (i := 2) rfl (by kernel_rfl) (by rfl) (fun K hK => ?_); go_big_quiet_op; refine hK _ ?_; clear hK K) | (refine Reg.G_skip (i := 2) rfl (by kernel_rfl) (by rfl) ?_; simp only [Act.put, List.setIfInBounds_toArray, List.set_cons_zero, List.set_cons_succ])
      first | (refine Reg.G_step (i := 3) rfl (by kernel_rfl) (by rfl) (fun K hK => ?_); go_big_quiet_op; refine hK _ ?_; clear hK K) | (refine Reg.G_skip (i := 3) rfl (by kernel_rfl) (by rfl) ?_; simp only [Act.put, List.setIfInBounds_toArray, List.set_cons_zero, List.set_cons_succ])
      first | (refine Reg.G_step (i := 4) rfl (by kernel_rfl) (by rfl) (fun K hK => ?_); go_big_quiet_op; refine hK _ ?_; clear hK K) | (refine Reg.G_skip (i := 4) rfl (by kernel_rfl) (by rfl) ?_; simp only [Act.put, List.setIfInBounds_toArray, List.set_cons_zero, List.set_cons_succ])
      first | (refine Reg.G_step (i := 5) rfl (by kernel_rfl) (by rfl) (fun K hK => ?_); go_big_quiet_op; refine hK _ ?_; clear hK K) | (refine Reg.G_skip (i := 5) rfl (by kernel_rfl) (by rfl) ?_; simp only [Act.put, List.setIfInBounds_toArray, List.set_cons_zero, List.set_cons_succ])
      first | (refine Reg.G_step (i := 6) rfl (by kernel_rfl) (by rfl) (fun K hK => ?_); go_big_quiet_op; refine hK _ ?_; clear hK K) | (refine Reg.G_skip (i := 6) rfl (by kernel_rfl) (by rfl) ?_; simp only [Act.put, List.setIfInBounds_toArray, List.set_cons_zero, List.set_cons_succ])
      first | (refine Reg.G_step (i := 7) rfl (by kernel_rfl) (by rfl) (fun K hK => ?_); go_big_quiet_op; refine hK _ ?_; clear hK K) | (refine Reg.G_skip (i := 7) rfl (by kernel_rfl) (by rfl) ?_; simp only [Act.put, List.setIfInBounds_toArray, List.set_cons_zero, List.set_cons_succ])
      first | (refine Reg.G_step (i := 8) rfl (by kernel_rfl) (by rfl) (fun K hK => ?_); go_big_quiet_op; refine hK _ ?_; clear hK K) | (refine Reg.G_skip (i := 8) rfl (by kernel_rfl) (by rfl) ?_; simp only [Act.put, List.setIfInBounds_toArray, List.set_cons_zero, List.set_cons_succ])
      first | (refine Reg.G_step (i := 9) rfl (by kernel_rfl) (by rfl) (fun K hK => ?_); go_big_quiet_op; refine hK _ ?_; clear hK K) | (refine Reg.G_skip (i := 9) rfl (by kernel_rfl) (by rfl) ?_; simp only [Act.put, List.setIfInBounds_toArray, List.set_cons_zero, List.set_cons_succ])
      first | (refine Reg.G_step (i := 10) rfl (by kernel_rfl) (by rfl) (fun K hK => ?_); go_big_quiet_op; refine hK _ ?_; clear hK K) | (refine Reg.G_skip (i := 10) rfl (by kernel_rfl) (by rfl) ?_; simp only [Act.put, List.setIfInBounds_toArray, List.set_cons_zero, List.set_cons_succ])
      first | (refine Reg.G_step (i := 11) rfl (by kernel_rfl) (by rfl) (fun K hK => ?_); go_big_quiet_op; refine hK _ ?_; clear hK K) | (refine Reg.G_skip (i := 11) rfl (by kernel_rfl) (by rfl) ?_; simp only [Act.put, List.setIfInBounds_toArray, List.set_cons_zero, List.set_cons_succ])
      first | (refine Reg.G_step (i := 12) rfl (by kernel_rfl) (by rfl) (fun K hK => ?_); go_big_quiet_op; refine hK _ ?_; clear hK K) | (refine Reg.G_skip (i := 12) rfl (by kernel_rfl) (by rfl) ?_; simp only [Act.put, List.setIfInBounds_toArray, List.set_cons_zero, List.set_cons_succ])
      first | (refine Reg.G_step (i := 13) rfl (by kernel_rfl) (by rfl) (fun K hK => ?_); go_big_quiet_op; refine hK _ ?_; clear hK K) | (refine Reg.G_skip (i := 13) rfl (by kernel_rfl) (by rfl) ?_; simp only [Act.put, List.setIfInBounds_toArray, List.set_cons_zero, List.set_cons_succ])
      first | (refine Reg.G_step (i := 14) rfl (by kernel_rfl) (by rfl) (fun K hK => ?_); go_big_quiet_op; refine hK _ ?_; clear hK K) | (refine Reg.G_skip (i := 14) rfl (by kernel_rfl) (by rfl) ?_; simp only [Act.put, List.setIfInBounds_toArray, List.set_cons_zero, List.set_cons_succ])
      first | (refine Reg.G_step (i := 15) rfl (by kernel_rfl) (by rfl) (fun K hK => ?_); go_big_quiet_op; refine hK _ ?_; clear hK K) | (refine Reg.G_skip (i := 15) rfl (by kernel_rfl) (by rfl) ?_; simp only [Act.put, List.setIfInBounds_toArray, List.set_cons_zero, List.set_cons_succ])
      first | (refine Reg.G_step (i := 16) rfl (by kernel_rfl) (by rfl) (fun K hK => ?_); go_big_quiet_op; refine hK _ ?_; clear hK K) | (refine Reg.G_skip (i := 16) rfl (by kernel_rfl) (by rfl) ?_; simp only [Act.put, List.setIfInBounds_toArray, List.set_cons_zero, List.set_cons_succ])
      first | (refine Reg.G_step (i := 17) rfl (by kernel_rfl) (by rfl) (fun K hK => ?_); go_big_quiet_op; refine hK _ ?_; clear hK K) | (refine Reg.G_skip (i := 17) rfl (by kernel_rfl) (by rfl) ?_; simp only [Act.put, List.setIfInBounds_toArray, List.set_cons_zero, List.set_cons_succ])
      first | (refine Reg.G_step (i := 18) rfl (by kernel_rfl) (by rfl) (fun K hK => ?_); go_big_quiet_op; refine hK _ ?_; clear hK K) | (refine Reg.G_skip (i := 18) rfl (by kernel_rfl) (by rfl) ?_; simp only [Act.put, List.setIfInBounds_toArray, List.set_cons_zero, List.set_cons_succ])
      first | (refine Reg.G_step (i := 19) rfl (by kernel_rfl) (by rfl) (fun K hK => ?_); go_big_quiet_op; refine hK _ ?_; clear hK K) | (refine Reg.G_skip (i := 19) rfl (by kernel_rfl) (by rfl) ?_; simp only [Act.put, List.setIfInBounds_toArray, List.set_cons_zero, List.set_cons_succ])
      first | (refine Reg.G_step (i := 20) rfl (by kernel_rfl) (by rfl) (fun K hK => ?_); go_big_quiet_op; refine hK _ ?_; clear hK K) | (refine Reg.G_skip (i := 20) rfl (by kernel_rfl) (by rfl) ?_; simp only [Act.put, List.setIfInBounds_toArray, List.set_cons_zero, List.set_cons_succ])
      first | (refine Reg.G_step (i := 21) rfl (by kernel_rfl) (by rfl) (fun K hK => ?_); go_big_quiet_op; refine hK _ ?_; clear hK K) | (refine Reg.G_skip (i := 21) rfl (by kernel_rfl) (by rfl) ?_; simp only [Act.put, List.setIfInBounds_toArray, List.set_cons_zero, List.set_cons_succ])
      first | (refine Reg.G_step (i := 22) rfl (by kernel_rfl) (by rfl) (fun K hK => ?_); go_big_quiet_op; refine hK _ ?_; clear hK K) | (refine Reg.G_skip (i := 22) rfl (by kernel_rfl) (by rfl) ?_; simp only [Act.put, List.setIfInBounds_toArray, List.set_cons_zero, List.set_cons_succ])
      first | (refine Reg.G_step (i := 23) rfl (by kernel_rfl) (by rfl) (fun K hK => ?_); go_big_quiet_op; refine hK _ ?_; clear hK K) | (refine Reg.G_skip (i := 23) rfl (by kernel_rfl) (by rfl) ?_; simp only [Act.put, List.setIfInBounds_toArray, List.set_cons_zero, List.set_cons_succ])
      first | (refine Reg.G_step (i := 24) rfl (by kernel_rfl) (by rfl) (fun K hK => ?_); go_big_quiet_op; refine hK _ ?_; clear hK K) | (refine Reg.G_skip (i := 24) rfl (by kernel_rfl) (by rfl) ?_; simp only [Act.put, List.setIfInBounds_toArray, List.set_cons_zero, List.set_cons_succ])
      first | (refine Reg.G_step (i := 25) rfl (by kernel_rfl) (by rfl) (fun K hK => ?_); go_big_quiet_op; refine hK _ ?_; clear hK K) | (refine Reg.G_skip (i := 25) rfl (by kernel_rfl) (by rfl) ?_; simp only [Act.put, List.setIfInBounds_toArray, List.set_cons_zero, List.set_cons_succ])
      first | (refine Reg.G_step (i := 26) rfl (by kernel_rfl) (by rfl) (fun K hK => ?_); go_big_quiet_op; refine hK _ ?_; clear hK K) | (refine Reg.G_skip (i := 26) rfl (by kernel_rfl) (by rfl) ?_; simp only [Act.put, List.setIfInBounds_toArray, List.set_cons_zero, List.set_cons_succ])
      first | (refine Reg.G_step (i := 27) rfl (by kernel_rfl) (by rfl) (fun K hK => ?_); go_big_quiet_op; refine hK _ ?_; clear hK K) | (refine Reg.G_skip (i := 27) rfl (by kernel_rfl) (by rfl) ?_; simp only [Act.put, List.setIfInBounds_toArray, List.set_cons_zero, List.set_cons_succ])
      first | (refine Reg.G_step (i := 28) rfl (by kernel_rfl) (by rfl) (fun K hK => ?_); go_big_quiet_op; refine hK _ ?_; clear hK K) | (refine Reg.G_skip (i := 28) rfl (by kernel_rfl) (by rfl) ?_; simp only [Act.put, List.setIfInBounds_toArray, List.set_cons_zero, List.set_cons_succ])
      first | (refine Reg.G_step (i := 31) rfl (by kernel_rfl) (by rfl) (fun K hK => ?_); go_big_quiet_op; refine hK _ ?_; clear hK K) | (refine Reg.G_skip (i := 31) rfl (by kernel_rfl) (by rfl) ?_; simp only [Act.put, List.setIfInBounds_toArray, List.set_cons_zero, List.set_cons_succ])
      first | (refine Reg.G_step (i := 32) rfl (by kernel_rfl) (by rfl) (fun K hK => ?_); go_big_quiet_op; refine hK _ ?_; clear hK K) | (refine Reg.G_skip (i := 32) rfl (by kernel_rfl) (by rfl) ?_; simp only [Act.put, List.setIfInBounds_toArray, List.set_cons_zero, List.set_cons_succ])
      refine Reg.G_event (i := 29) rfl (by kernel_rfl) (by rfl) (fun K hK => ?_)
      go_simp
      refine (Hwd.out _).mono ?_
      rintro e w4 ⟨rfl, hW4, hb4⟩
      refine hK _ _ hb4 ?_
      clear hK K hcb
      have hcb := fun x : Reg.Later w4 => Hcw.out x.world _ (isB_kept hW4 x.ext)
      first | (refine Reg.G_step (i := 30) rfl (by kernel_rfl) (by rfl) (fun K hK => ?_); go_big_quiet_op; refine hK _ ?_; clear hK K) | (refine Reg.G_skip (i := 30) rfl (by kernel_rfl) (by rfl) ?_; simp only [Act.put, List.setIfInBounds_toArray, List.set_cons_zero, List.set_cons_succ])
      first | (refine Reg.G_step (i := 33) rfl (by kernel_rfl) (by rfl) (fun K hK => ?_); go_big_quiet_op; refine hK _ ?_; clear hK K) | (refine Reg.G_skip (i := 33) rfl (by kernel_rfl) (by rfl) ?_; simp only [Act.put, List.setIfInBounds_toArray, List.set_cons_zero, List.set_cons_succ])
      first | (refine Reg.G_step (i := 34) rfl (by kernel_rfl) (by rfl) (fun K hK => ?_); go_big_quiet_op; refine hK _ ?_; clear hK K) | (refine Reg.G_skip (i := 34) rfl (by kernel_rfl) (by rfl) ?_; simp only [Act.put, List.setIfInBounds_toArray, List.set_cons_zero, List.set_cons_succ])
      first | (refine Reg.G_step (i := 35) rfl (by kernel_rfl) (by rfl) (fun K hK => ?_); go_big_quiet_op; refine hK _ ?_; clear hK K) | (refine Reg.G_skip (i := 35) rfl (by kernel_rfl) (by rfl) ?_; simp only [Act.put, List.setIfInBounds_toArray, List.set_cons_zero, List.set_cons_succ])
      first | (refine Reg.G_step (i := 36) rfl (by kernel_rfl) (by rfl) (fun K hK => ?_); go_big_quiet_op; refine hK _ ?_; clear hK K) | (refine Reg.G_skip (i := 36) rfl (by kernel_rfl) (by rfl) ?_; simp only [Act.put, List.setIfInBounds_toArray, List.set_cons_zero, List.set_cons_succ])
      first | (refine Reg.G_step (i := 37) rfl (by kernel_rfl) (by rfl) (fun K hK => ?_); go_big_quiet_op; refine hK _ ?_; clear hK K) | (refine Reg.G_skip (i := 37) rfl (by kernel_rfl) (by rfl) ?_; simp only [Act.put, List.setIfInBounds_toArray, List.set_cons_zero, List.set_cons_succ])
      refine Reg.G_done (by kernel_rfl) ?_
      go_wp2
      go_ret
      exact ⟨ret_bool (by first | rfl | simp), Reg.below_trans (Reg.below_trans hbel hW) hb4⟩
    · have hd4 : ((len : Int) == 4) = false := by rw [beq_eq_false_iff_ne]; omega
      rw [readV, if_neg (by rw [HXL.out]; omega)] at hr2
      have Hr2 := Lib.hid hr2
      clear hr2 hcw
      go_wp2_with fail
      refine Hr1.out.mono ?_
      rintro e w3 ⟨rfl, rfl⟩
      go_wp2_with fail
      refine Hr2.out.mono ?_
      rintro e w3 ⟨rfl, rfl⟩
      go_wp2_with fail
      go_quiet (fail)
      go_wp2
      go_ret
      exact ⟨ret_bool rfl, below_drewN hbel _⟩
end Go.Proofs.Ythkkokcghblkpaa.LeG
