/- The examples' check of the statements of layer 1: it answers true, and writes nothing that was there; nothing is asked. -/
import Derived.Test.YthkkokcghblkpaaLeGet
namespace Go.Proofs.Ythkkokcghblkpaa.LeG
open Go.RowKit Go.Proofs.Ythkkokcghblkpaa.LeM Go.Proofs.Ythkkokcghblkpaa.LeZ Go.Proofs.Ythkkokcghblkpaa.LeP

/-- What is owned reads as bytes. -/
theorem isB_own {w : World} {base n : Nat} {v : Value} {xs : List Int} (h : w.ownsRow base 5 1 v n (cs xs)) (hb : ∀ x ∈ xs, (0 : Int) ≤ x ∧ x < 256) (hn : 0 < n) :
    ∃ g cap, v = .slice (some ⟨g, 0, none⟩) xs.length cap ∧ n = xs.length ∧ base ≤ g ∧ g < w.heap.size ∧ xs.length ≤ cap ∧ IsB w (some ⟨g, 0, none⟩) xs := by
  have hl : xs.length = n := by have := h.1; simp [cs] at this; exact this
  subst hl
  rcases h.2 with ⟨_, h0⟩ | ⟨g, cap, cur, rfl, hg, hh, hcap, hrest⟩
  · omega
  · refine ⟨g, cap, rfl, rfl, hg, (h.lt g rfl).2, hcap, hb, fun _ => ⟨g, 0, rfl, fun j hj => ?_⟩⟩
    have hc := h.cells (g := g) rfl j (.int .u8 (xs.getD j 0)) (by simp [cs, List.getD_eq_getElem?_getD, hj])
    rw [Addr.add_lit] at hc
    exact hc

theorem put300 : putL 300 = [172, 2] := by rw [putL_ge (by decide), putL_lt (by decide)]; rfl

theorem awake_any (w : World) : Calls Try.prog 11 #[] w fun e w' => e = .returned (.bool true) ∧ Below w.heap.size w w' := by
  have Hput := Lib.hid (Put_any 300 w (by decide))
  go_enter Try.func11, Try.ntmps11
  go_wp2_with fail
  refine Hput.out.mono ?_
  rintro e w1 ⟨v, rfl, hown, hbel⟩
  rw [put300] at hown
  obtain ⟨g, cap, rfl, _, hg, hg2, hcap, hisb⟩ := isB_own hown (by decide) (by decide)
  have hgot := Get_any (some ⟨g, 0, none⟩) [172, 2] cap w1 (by decide) hisb
  rw [show gotV (getS [172, 2]) = .tuple #[.int .u64 300, .int .i64 2, .bool true] from by rw [show getS [172, 2] = some (300, 2) from by decide]; rfl] at hgot
  have Hgot := Lib.hid hgot
  obtain ⟨b, o, hbo, hc⟩ := hisb.2 (by decide)
  obtain rfl : b = g := by injection hbo with h; injection h with h1 h2; exact h1.symm
  obtain rfl : o = 0 := by injection hbo with h; injection h with h1 h2; exact h2.symm
  have hc0 := hc 0 (by decide)
  have hc1 := hc 1 (by decide)
  simp only [Nat.add_zero, Nat.zero_add, List.getD_cons_zero, List.getD_cons_succ] at hc0 hc1
  have Hz := Lib.hid (fun w => Zig_any (-2) w (by decide) (by decide))
  have Hy := Lib.hid (fun w => Zag_any 3 w (by decide) (by decide))
  clear hgot hisb hc hown hbo
  go_wp2_with fail
  refine Hgot.out.mono ?_
  rintro e w2 ⟨rfl, rfl⟩
  go_wp2_with fail
  refine (Hz.out _).mono ?_
  rintro e w3 ⟨rfl, rfl⟩
  rw [show zig (-2) = 3 from by decide]
  go_wp2_with fail
  refine (Hy.out _).mono ?_
  rintro e w3 ⟨rfl, rfl⟩
  rw [show zag 3 = -2 from by decide]
  go_wp2_with fail
  go_ret
  exact ⟨rfl, hbel⟩
end Go.Proofs.Ythkkokcghblkpaa.LeG
