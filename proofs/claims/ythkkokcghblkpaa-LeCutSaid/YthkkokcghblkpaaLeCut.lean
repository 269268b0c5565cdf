/- The walk of LeCut: a beginning of a number's bytes is none, with a last byte of 0 more it is none; no condition. -/
import Derived.Test.YthkkokcghblkpaaLeAwake
import Derived.Test.YthkkokcghblkpaaRegion
namespace Go.Proofs.Ythkkokcghblkpaa.LeG
open Go.RowKit Go.Proofs.Ythkkokcghblkpaa.LeM Go.Proofs.Ythkkokcghblkpaa.LeZ Go.Proofs.Ythkkokcghblkpaa.LeP

/-- All bytes but the last one go on; the last one does not. -/
theorem put_init : ∀ n, ∃ (init : List Int) (x : Int), putL n = init ++ [x] ∧ (∀ y ∈ init, (128 : Int) ≤ y ∧ y < 256) ∧ 0 ≤ x ∧ x < 128 := by
  refine put_ind ?_ ?_
  · intro n h
    exact ⟨[], n, by rw [putL_lt h]; rfl, by simp, by omega, by omega⟩
  · intro n h ⟨init, x, e, hi, h0, h1⟩
    refine ⟨((n % 128 + 128 : Nat) : Int) :: init, x, by rw [putL_ge h, e]; rfl, ?_, h0, h1⟩
    intro y hy
    rcases List.mem_cons.1 hy with rfl | hy
    · omega
    · exact hi y hy

theorem getS_cut {init : List Int} {x : Int} (hi : ∀ y ∈ init, (128 : Int) ≤ y ∧ y < 256) (hl : init.length ≤ 9) (k : Nat) (hk : k ≤ init.length) : getS ((init ++ [x]).take k) = none := by
  refine getS_all (k := k) (.inl ?_) (by omega) ?_
  · rw [List.length_take, List.length_append]
    omega
  · intro y hy
    have h1 := List.mem_of_mem_take hy
    rw [List.take_append_of_le_length hk] at h1
    exact (hi y (List.mem_of_mem_take h1)).1

theorem getS_long {init : List Int} {x : Int} (hi : ∀ y ∈ init, (128 : Int) ≤ y ∧ y < 256) (h0 : 0 ≤ x) : getS (init ++ [x + 128] ++ [0]) = none := by
  have hge : ∀ y ∈ init ++ [x + 128], (128 : Int) ≤ y := by
    intro y hy
    rcases List.mem_append.1 hy with h | h
    · exact (hi y h).1
    · simp at h; omega
  have hlen : (init ++ [x + 128]).length = init.length + 1 := by simp
  by_cases h9 : (init ++ [x + 128]).length < 10
  · have ht : (init ++ [x + 128] ++ [0]).take (init ++ [x + 128]).length = init ++ [x + 128] := List.take_left
    have hg : (init ++ [x + 128] ++ [0]).getD (init ++ [x + 128]).length 0 = 0 := by
      rw [List.getD_eq_getElem?_getD, List.getElem?_append_right (Nat.le_refl _)]
      simp
    refine getS_zero (k := (init ++ [x + 128]).length) ?_ h9 ?_ (by rw [hg]; decide) (by rw [hlen]; omega) (by rw [hg]; decide)
    · rw [List.length_append]; simp
    · rw [ht]; exact hge
  · refine getS_all (k := 10) (.inr rfl) (Nat.le_refl _) ?_
    intro y hy
    rw [List.take_append_of_le_length (by omega)] at hy
    exact hge y (List.mem_of_mem_take hy)

set_option maxRecDepth 100000 in
theorem cut_walk (a t : Int) (w : World) (w0 : (Lit.int .u64 a).wf = true) (w1 : (Lit.int .i64 t).wf = true) :
    Calls Try.prog 9 #[.int .u64 a, .int .i64 t] w fun e w' => e = .returned (.bool true) ∧ Below w.heap.size w w' := by
  obtain ⟨i0, hi, hz0, hz1, hz2⟩ := info_parts info_u8
  obtain ⟨n0, n1⟩ := bounds_u64 w0
  obtain ⟨t0, t1⟩ := bounds_i64 w1
  obtain ⟨n, rfl⟩ := Int.eq_ofNat_of_zero_le n0
  have hn : n < 18446744073709551616 := by omega
  clear w0 w1 n0 n1
  have Haw := Lib.hid (awake_any w)
  have hm10 := putL_len64 hn
  go_enter Try.func9, Try.ntmps9
  go_wp2_with fail
  refine Haw.out.mono ?_
  rintro e w1 ⟨rfl, hb1⟩
  go_wp2_with fail
  refine (Put_mem n w1 hn).mono ?_
  rintro e w2 ⟨g, cap, rfl, hg1, hg2, hcap, hB, hown, hb2⟩
  have hbel : Below w.heap.size w w2 := hb1.trans (hb2.mono hb1.size)
  obtain ⟨init, x, hput, hini, x0, x1⟩ := put_init n
  have hpos := putL_pos n
  obtain ⟨L, hL⟩ : ∃ L, L = (putL n).length := ⟨_, rfl⟩
  have hL2 : L = init.length + 1 := by rw [hL, hput]; simp
  rw [← hL] at hcap hm10 hpos ⊢
  have HL := Lib.hid hL
  have HL2 := Lib.hid hL2
  have HI := Lib.hid hini
  have HP := Lib.hid hput
  clear hb1 hb2 hL hL2 hini hput Haw
  by_cases h1 : t < 0
  · go_wp2_with fail
    go_ret
    exact ⟨rfl, hbel⟩
  · obtain ⟨k, rfl⟩ := Int.eq_ofNat_of_zero_le (show 0 ≤ t by omega)
    by_cases h2 : L ≤ k
    · go_wp2_with fail
      go_ret
      exact ⟨rfl, hbel⟩
    · have hkc : (k : Int) ≤ (cap : Int) := by omega
      have hg1' := Get_any (some ⟨g, 0, none⟩) ((putL n).take k) cap w2 (by rw [List.length_take]; omega) (isB_take hB k)
      rw [List.length_take, Nat.min_eq_left (by rw [← HL.out]; omega), HP.out, getS_cut HI.out (by have := HL2.out; omega) k (by have := HL2.out; omega)] at hg1'
      have Hg1 := Lib.hid (show Calls Try.prog 12 #[.slice (some ⟨g, 0, none⟩) k cap] w2 fun e w' => e = .returned (.tuple #[.int .u64 0, .int .i64 0, .bool false]) ∧ w2 = w' from hg1')
      clear hg1'
      go_wp2_with fail
      refine Hg1.out.mono ?_
      rintro e w3 ⟨rfl, rfl⟩
      have hnc : (cs (putL n)).length = L * 1 := by rw [cs_len, Nat.mul_one]; exact HL.out.symm
      have hcc := hown.cells (g := g) rfl
      go_wp2_with (at_builtin; refine wpList_append_own _ rfl _ (.tmp 38) 24 rfl w2.heap.size 5 i0 (.int .u8 0) 1 1 Try.underlying24 hi hz0 hz1 hz2 rfl (by decide) _ _ _ rfl (World.ownsRow_nil _ _ _ _) ⟨g, 0, none⟩ L cap (cs (putL n)) rfl hnc hcc (ints_oneCell .u8 (putL n)) (by unfold maxLen; omega) (by omega) (Nat.le_refl _) ?_; intro v1 w3 hown1 hgrow1 _; simp only [Nat.zero_add, List.nil_append] at hown1; obtain ⟨g2, cap2, rfl, hl2, hg3, hg4, hcap2, hB2⟩ := own_form hown1 (putL_bytes n) hpos; refine pause ?_)
      have hL1 : L - 1 < (putL n).length := by omega
      have hcell := isB_cell hB2 (L - 1) hL1
      have hfro := hown1.frozenAt (L - 1)
      have hxx : (putL n).getD (L - 1) 0 = x := by
        rw [HP.out, List.getD_eq_getElem?_getD, show L - 1 = init.length from by have := HL2.out; omega, List.getElem?_append_right (Nat.le_refl _)]
        simp
      rw [hxx, Nat.zero_add] at hcell
      have hst := hown1.stored (L - 1) (.int .u8 (x + 128))
      have hset : (cs (putL n)).set (L - 1) (.int .u8 (x + 128)) = cs (init ++ [x + 128]) := by
        rw [HP.out, show L - 1 = init.length from by have := HL2.out; omega]
        simp [cs]
      rw [hset] at hst
      have hb3 : Below w2.heap.size w2 w3 := (Below.refl _ _).grown hgrow1 (Nat.le_refl _) (fun _ h => by cases h)
      have hLc : ((L : Int) - 1) < (L : Int) := by omega
      clear hnc hcc hset hxx hl2 hB2 hB hL1 hgrow1 hown1 hown
      unfold Pause
      go_wp2_with (at_builtin; refine wpList_append_own _ rfl (.tmp 52) (.tmp 53) 24 rfl w2.heap.size 5 i0 (.int .u8 0) 1 1 Try.underlying24 hi hz0 hz1 hz2 rfl (by decide) _ _ _ rfl (hst.1.alloc _) ⟨w3.heap.size, 0, none⟩ 1 1 [.int .u8 0] rfl rfl ?_ (fun x hx => by simp at hx; subst hx; rfl) (by unfold maxLen; omega) (by omega) ?_ ?_)
      · intro j u hj
        have h := cell_one_new (w3.setCell ⟨g2, L - 1, none⟩ (.int .u8 (x + 128))) (.int .u8 0) 5 j u hj
        simpa using h
      · have := hb3.size
        simp
        omega
      · intro v2 w4 hown2 hgrow2 _
        have hb4 : Below w2.heap.size w2 w4 := ((hb3.setCell (p := ⟨g2, L - 1, none⟩) hg3 _).alloc (by have := hb3.size; simp; omega) _).grown hgrow2 (by have := hb3.size; simp; omega) (fun q h => by simp [Value.ownBlock] at h; omega)
        rw [show cs (init ++ [x + 128]) ++ [.int .u8 0] = cs (init ++ [x + 128] ++ [0]) from by simp [cs]] at hown2
        obtain ⟨g3, cap3, rfl, hl3, hg5, hg6, hcap3, hB3⟩ := own_form hown2 (by
          intro y hy
          simp only [List.mem_append, List.mem_singleton] at hy
          rcases hy with (h | h) | h
          · have := HI.out y h; omega
          · omega
          · omega) (by omega)
        have hg2' := Get_any (some ⟨g3, 0, none⟩) _ cap3 w4 (by rw [hl3]; omega) hB3
        rw [hl3, getS_long HI.out x0] at hg2'
        have Hg2 := Lib.hid (show Calls Try.prog 12 #[.slice (some ⟨g3, 0, none⟩) (L + 1) cap3] w4 fun e w' => e = .returned (.tuple #[.int .u64 0, .int .i64 0, .bool false]) ∧ w4 = w' from hg2')
        clear hg2' hown2 hgrow2 hst hcell hfro hl3 hB3
        go_wp2_with fail
        refine Hg2.out.mono ?_
        rintro e w5 ⟨rfl, rfl⟩
        go_wp2_with fail
        go_ret
        exact ⟨rfl, Reg.below_trans hbel hb4⟩
end Go.Proofs.Ythkkokcghblkpaa.LeG
