/- The walk of LeZigs: Zag of Zig and Zig of Zag are the number, and Zig keeps the order of what is from 0 on, and of what is below; no condition. -/
import Derived.Test.YthkkokcghblkpaaLeAwake
import Derived.OpenShut
namespace Go.Proofs.Ythkkokcghblkpaa.LeG
open Go.RowKit Go.Proofs.Ythkkokcghblkpaa.LeM Go.Proofs.Ythkkokcghblkpaa.LeZ Go.Proofs.Ythkkokcghblkpaa.LeP

theorem zigs_walk (n m k : Int) (w : World) (w0 : (Lit.int .i64 n).wf = true) (w1 : (Lit.int .u64 m).wf = true) (w2 : (Lit.int .i64 k).wf = true) :
    Calls Try.prog 5 #[.int .i64 n, .int .u64 m, .int .i64 k] w fun e w' => e = .returned (.bool true) ∧ Below w.heap.size w w' := by
  obtain ⟨n0, n1⟩ := bounds_i64 w0
  obtain ⟨m0, m1⟩ := bounds_u64 w1
  obtain ⟨k0, k1⟩ := bounds_i64 w2
  clear w0 w1 w2
  have Haw := Lib.hid (awake_any w)
  have zr := zig_rng n0 n1
  have zr2 := zag_rng m0 m1
  have e1 := Lib.hid (zag_zig n)
  have e2 := Lib.hid (zig_zag m0)
  have H1 := Lib.hid (fun w => Zig_any n w n0 n1)
  have H2 := Lib.hid (fun w => Zag_any (zig n) w zr.1 zr.2)
  have H3 := Lib.hid (fun w => Zag_any m w m0 m1)
  have H4 := Lib.hid (fun w => Zig_any (zag m) w zr2.1 zr2.2)
  obtain ⟨z, hz⟩ : ∃ z, z = zig n := ⟨_, rfl⟩
  obtain ⟨y, hy⟩ : ∃ y, y = zag m := ⟨_, rfl⟩
  rw [← hz] at zr e1 H1 H2
  rw [← hy] at zr2 e2 H3 H4
  obtain ⟨z0, z1⟩ := zr
  obtain ⟨y0, y1⟩ := zr2
  have HZ := Lib.hid hz
  clear hz hy
  go_enter Try.func5, Try.ntmps5
  go_wp2_with fail
  refine Haw.out.mono ?_
  rintro e w1 ⟨rfl, hbel⟩
  go_wp2_with fail
  refine (H1.out _).mono ?_
  rintro e w2 ⟨rfl, rfl⟩
  go_wp2_with fail
  refine (H2.out _).mono ?_
  rintro e w2 ⟨rfl, rfl⟩
  rw [e1.out]
  go_wp2_with fail
  refine (H3.out _).mono ?_
  rintro e w2 ⟨rfl, rfl⟩
  go_wp2_with fail
  refine (H4.out _).mono ?_
  rintro e w2 ⟨rfl, rfl⟩
  rw [e2.out]
  go_wp2_with fail
  · go_ret
    exact ⟨rfl, hbel⟩
  · have hnk : 0 ≤ n ∧ 0 ≤ k := by assumption
    obtain ⟨hn0, hk0⟩ := hnk
    have H5 := Lib.hid (fun w => Zig_any k w k0 k1)
    have H6 := Lib.hid (fun w => Zig_any (-n) w (by omega) (by omega))
    have H7 := Lib.hid (fun w => Zig_any (-k) w (by omega) (by omega))
    obtain ⟨a, ha⟩ : ∃ a, a = zig k := ⟨_, rfl⟩
    obtain ⟨b, hb⟩ : ∃ b, b = zig (-n) := ⟨_, rfl⟩
    obtain ⟨c, hc⟩ : ∃ c, c = zig (-k) := ⟨_, rfl⟩
    have hord : (n < k ∧ z < a ∧ b < c) ∨ (k ≤ n ∧ a ≤ z ∧ c ≤ b) := by
      have hz := HZ.out
      unfold zig at ha hb hc hz
      by_cases h1 : n = 0 <;> by_cases h2 : k = 0
      · rw [if_neg (by omega)] at ha hb hc hz; omega
      · rw [if_neg (by omega)] at ha hb hz; rw [if_pos (by omega)] at hc; omega
      · rw [if_neg (by omega)] at ha hc hz; rw [if_pos (by omega)] at hb; omega
      · rw [if_neg (by omega)] at ha hz; rw [if_pos (by omega)] at hb hc; omega
    rw [← ha] at H5
    rw [← hb] at H6
    rw [← hc] at H7
    clear ha hb hc
    rcases hord with ⟨o1, o2, o3⟩ | ⟨o1, o2, o3⟩
    all_goals
      refine (H1.out _).mono ?_
      rintro e w2 ⟨rfl, rfl⟩
      go_wp2_with fail
      refine (H5.out _).mono ?_
      rintro e w2 ⟨rfl, rfl⟩
      go_wp2_with fail
      refine (H6.out _).mono ?_
      rintro e w2 ⟨rfl, rfl⟩
      go_wp2_with fail
      refine (H7.out _).mono ?_
      rintro e w2 ⟨rfl, rfl⟩
      go_wp2_with fail
      go_ret
      refine ⟨ret_bool ?_, hbel⟩
      first | rfl | (simp; omega)
  · go_ret
    exact ⟨rfl, hbel⟩
end Go.Proofs.Ythkkokcghblkpaa.LeG
