/- The examples' check of the statements of layer 1: it answers true, and writes nothing that was there; nothing is asked. -/
import Derived.Test.YthkkokcghblkpaaLeMem
namespace Go.Proofs.Ythkkokcghblkpaa.LeG
open Go.RowKit Go.Proofs.Ythkkokcghblkpaa.LeM Go.Proofs.Ythkkokcghblkpaa.LeZ Go.Proofs.Ythkkokcghblkpaa.LeP

theorem put300 : putL 300 = [172, 2] := by rw [putL_ge (by decide), putL_lt (by decide)]; rfl

theorem awake_any (w : World) : Calls Try.prog 11 #[] w fun e w' => e = .returned (.bool true) ∧ Below w.heap.size w w' := by
  have Hput := Lib.hid (Put_any 300 w (by decide))
  go_enter Try.func11, Try.ntmps11
  go_wp2_with fail
  refine Hput.out.mono ?_
  rintro e w1 ⟨v, rfl, hown, hbel⟩
  rw [put300] at hown
  obtain ⟨g, cap, rfl, _, hg, hg2, hcap, hisb⟩ := isB_own hown (by decide) (by decide)
  have hgot := Get_any (some ⟨g, 0, none⟩) [172, 2] cap w1 (by decide) hisb
  rw [show gotV (getS [172, 2]) = .tuple #[.int .u64 300, .int .i64 2, .bool true] from by rw [show getS [172, 2] = some (300, 2) from by decide]; rfl] at hgot
  have Hgot := Lib.hid hgot
  obtain ⟨b, o, hbo, hc⟩ := hisb.2 (by decide)
  obtain rfl : b = g := by injection hbo with h; injection h with h1 h2; exact h1.symm
  obtain rfl : o = 0 := by injection hbo with h; injection h with h1 h2; exact h2.symm
  have hc0 := hc 0 (by decide)
  have hc1 := hc 1 (by decide)
  simp only [Nat.add_zero, Nat.zero_add, List.getD_cons_zero, List.getD_cons_succ] at hc0 hc1
  have Hz := Lib.hid (fun w => Zig_any (-2) w (by decide) (by decide))
  have Hy := Lib.hid (fun w => Zag_any 3 w (by decide) (by decide))
  clear hgot hisb hc hown hbo
  go_wp2_with fail
  refine Hgot.out.mono ?_
  rintro e w2 ⟨rfl, rfl⟩
  go_wp2_with fail
  refine (Hz.out _).mono ?_
  rintro e w3 ⟨rfl, rfl⟩
  rw [show zig (-2) = 3 from by decide]
  go_wp2_with fail
  refine (Hy.out _).mono ?_
  rintro e w3 ⟨rfl, rfl⟩
  rw [show zag 3 = -2 from by decide]
  go_wp2_with fail
  go_ret
  exact ⟨rfl, hbel⟩
end Go.Proofs.Ythkkokcghblkpaa.LeG
