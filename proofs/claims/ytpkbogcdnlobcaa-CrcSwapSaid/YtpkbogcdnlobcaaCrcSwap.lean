/- The walk of CrcSwap: two neighbours that are not the same, put the other way, have another check; no condition. -/
import Derived.Test.YtpkbogcdnlobcaaCrcOne
namespace Go.Proofs.Ytpkbogcdnlobcaa.Crc
open Go.RowKit Go.Proofs.Ytpkbogcdnlobcaa.CrcM Go.Proofs.Ytpkbogcdnlobcaa.BM

theorem xs_split2 (xs : List Int) (k : Nat) (hk : k + 1 < xs.length) : xs = xs.take k ++ xs.getD k 0 :: xs.getD (k + 1) 0 :: xs.drop (k + 2) := by
  rw [← drop_consB xs (k + 1) hk, ← drop_consB xs k (by omega), List.take_append_drop]

theorem swap_split (xs : List Int) (k : Nat) (x y : Int) (hk : k + 1 < xs.length) : (xs.set k y).set (k + 1) x = xs.take k ++ y :: x :: xs.drop (k + 2) := by
  rw [set_split xs k y (by omega)]
  rw [List.set_append_right _ _ (by rw [List.length_take]; omega), List.length_take, Nat.min_eq_left (by omega), show k + 1 - k = 0 + 1 from by omega, List.set_cons_succ, drop_consB xs (k + 1) hk, List.set_cons_zero]

theorem getD_mem (xs : List Int) (k : Nat) (hk : k < xs.length) : xs.getD k 0 ∈ xs := by
  rw [List.getD_eq_getElem?_getD, List.getElem?_eq_getElem hk]
  exact List.getElem_mem hk

set_option maxRecDepth 100000 in
set_option maxHeartbeats 2000000 in
theorem swap_walk (a : Option Addr) (len cap : Nat) (zs : List Int) (i : Int) (w : World) (w0 : RowU8 w a len cap zs) (w1 : (Lit.int .i64 i).wf = true) :
    Calls Try.prog 8 #[.slice a len cap, .int .i64 i] w fun e w' => e = .returned (.bool true) ∧ Below w.heap.size w w' := by
  obtain ⟨n0, n1⟩ := bounds_i64 w1
  obtain ⟨xs, hxl, hB, hcap, hmax⟩ := row_isB w0
  clear w0 w1
  have Haw := Lib.hid (awake_any w)
  by_cases hout : 100 < len ∨ i < 0 ∨ (len : Int) - 1 ≤ i
  · clear hxl
    rcases (show 100 < len ∨ (¬ 100 < len ∧ i < 0) ∨ (¬ 100 < len ∧ ¬ i < 0 ∧ (len : Int) - 1 ≤ i) from by omega) with h | ⟨h, h'⟩ | ⟨h, h', h''⟩
    all_goals
      clear hout
      go_enter Try.func8, Try.ntmps8
      go_wp2_with fail
      refine Haw.out.mono ?_
      rintro e w1 ⟨rfl, hb1⟩
      go_wp2_with fail
      go_ret
      exact ⟨rfl, hb1⟩
  · obtain ⟨k, rfl⟩ := Int.eq_ofNat_of_zero_le (show 0 ≤ i by omega)
    have hkl : k + 1 < len := by omega
    have h100 : ¬ 100 < len := by omega
    clear hout
    obtain ⟨b, o, rfl, hcells⟩ := hB.2 (by omega)
    have hcell1 := hcells k (by omega)
    have hcell2 := hcells (k + 1) (by omega)
    have hO := Of_later (some ⟨b, o, none⟩) xs len cap w hxl (by omega) hB
    have hb1 := hB.1 _ (getD_mem xs k (by omega))
    have hb2 := hB.1 _ (getD_mem xs (k + 1) (by omega))
    obtain ⟨y1, hy1⟩ : ∃ y, y = xs.getD k 0 := ⟨_, rfl⟩
    obtain ⟨y2, hy2⟩ : ∃ y, y = xs.getD (k + 1) 0 := ⟨_, rfl⟩
    rw [← hy1] at hcell1 hb1
    rw [← hy2] at hcell2 hb2
    have hT := fun (g cp : Nat) (W0 W : World) (hd : Below W0.heap.size W0 W) (h : IsB W0 (some ⟨g, 0, none⟩) ((xs.set k y2).set (k + 1) y1)) => Of_later (some ⟨g, 0, none⟩) ((xs.set k y2).set (k + 1) y1) len cp W0 (by rw [List.length_set, List.length_set]; exact hxl) (by omega) h W hd
    have hs1 := swap_split xs k y1 y2 (by omega)
    have hs2 := xs_split2 xs k (by omega)
    rw [← hy1, ← hy2] at hs2
    have hone : next 0 ((xs.set k y2).set (k + 1) y1) = next 0 xs → y1 = y2 := by
      intro e
      rw [hs1] at e
      conv at e => rhs; rw [hs2]
      exact next_swap (by decide) (isB_take hB k).1 (fun x hx => hB.1 x (List.mem_of_mem_drop hx)) hb1 hb2 e
    have hsame : y1 = y2 → next 0 ((xs.set k y2).set (k + 1) y1) = next 0 xs := by
      intro e
      rw [hs1]
      conv => rhs; rw [hs2]
      rw [e]
    have hbs : ∀ x ∈ (xs.set k y2).set (k + 1) y1, (0 : Int) ≤ x ∧ x < 256 := fun x hx => by
      rcases List.mem_or_eq_of_mem_set hx with h | rfl
      · rcases List.mem_or_eq_of_mem_set h with h | rfl
        · exact hB.1 x h
        · exact hb2
      · exact hb1
    obtain ⟨p, hp⟩ : ∃ p, p = next 0 ((xs.set k y2).set (k + 1) y1) := ⟨_, rfl⟩
    obtain ⟨q, hq⟩ : ∃ q, q = next 0 xs := ⟨_, rfl⟩
    rw [← hp] at hT hone hsame
    rw [← hq] at hO hone hsame
    have HO := Lib.hid hO
    have HT := Lib.hid hT
    have HPQ := Lib.hid (show (((p : Int) == (q : Int)) == (y1 == y2)) = true from by
      by_cases h : y1 = y2
      · rw [hsame h, h]; simp
      · have h1 : p ≠ q := fun e => h (hone e)
        have e1 : ((p : Int) == (q : Int)) = false := by rw [beq_eq_false_iff_ne]; omega
        have e2 : (y1 == y2) = false := by rw [beq_eq_false_iff_ne]; exact h
        rw [e1, e2]; rfl)
    have HXL := Lib.hid hxl
    clear hp hq hy1 hy2 hO hT hone hsame hxl hcells hs1 hs2
    obtain ⟨a1, b1⟩ := hb1
    obtain ⟨a2, b2⟩ := hb2
    go_enter Try.func8, Try.ntmps8
    go_wp2_with fail
    refine Haw.out.mono ?_
    rintro e w1 ⟨rfl, hb1⟩
    have hB1 := isB_kept hB hb1
    go_wp2_with (at_builtin; refine wp_append_b rfl (.const (.slice none 0 0)) (.tmp 27) rfl w1.heap.size _ 0 [] rfl (World.ownsRow_nil _ _ _ _) (some ⟨b, o, none⟩) len cap xs rfl HXL.out hB1 (by simp) (by omega) (Nat.le_refl _) ?_; intro v1 w2 hown1 hgrow1; refine pause ?_)
    simp only [Nat.zero_add, List.nil_append] at hown1
    have hb2 : Below w1.heap.size w1 w2 := (Below.refl _ _).grown hgrow1 (Nat.le_refl _) (fun _ h => by cases h)
    obtain ⟨g, cap1, rfl, _, hg1, hg2, hcap1, hBx⟩ := own_form hown1 hB.1 (by omega)
    have hcg := isB_cell hBx k (by have := HXL.out; omega)
    rw [Nat.zero_add] at hcg
    have hfr := hown1.frozenAt k
    have hset1 := set_own hown1 k y2
    have hcg2 := isB_cell hBx (k + 1) (by have := HXL.out; omega)
    rw [Nat.zero_add] at hcg2
    have hcg2' := own_cell hset1 (k + 1) (by omega)
    have hfr2 := hset1.frozenAt (k + 1)
    have hset := set_own hset1 (k + 1) y1
    have hBs := own_isB hset hbs
    have hb25 : Below w.heap.size w (w2.setCell ⟨g, k, none⟩ (.int .u8 y2)) := bt hb1 (hb2.setCell hg1 _)
    have hb3 : Below w.heap.size w ((w2.setCell ⟨g, k, none⟩ (.int .u8 y2)).setCell ⟨g, k + 1, none⟩ (.int .u8 y1)) := bt hb1 ((hb2.setCell hg1 _).setCell hg1 _)
    have hx2 := Reg.later_cell (bt hb1 hb2) hcell2 (Reg.Later.self _)
    have hx1 := Reg.later_cell hb25 hcell1 (Reg.Later.self _)
    simp only [Reg.Later.self] at hx1 hx2
    have HB3 := Lib.hid hb3
    have HBS := Lib.hid hBs
    clear hset hset1 hBx hgrow1 hown1 hb3 hBs hbs hB1 hcg2 hb25
    obtain ⟨W2, hW2⟩ : ∃ W2, W2 = (w2.setCell ⟨g, k, none⟩ (.int .u8 y2)).setCell ⟨g, k + 1, none⟩ (.int .u8 y1) := ⟨_, rfl⟩
    rw [← hW2] at HB3 HBS
    have HW2 := Lib.hid hW2
    clear hW2
    unfold Pause
    go_wp2_with fail
    rw [← HW2.out]
    clear Haw
    refine Reg.G_start (by kernel_rfl) (by repeat (first | exact Reg.frameless_bodyPost | refine Reg.frameless_then ?_ | refine Reg.frameless_inBlock ?_)) (fun W hW => ?_)
    have hbw := bt HB3.out hW
    have hcx := Reg.later_cell hbw hcell1
    have hcy := Reg.later_cell hbw hcell2
    first | (refine Reg.G_step (i := 0) rfl (by kernel_rfl) (by rfl) (fun K hK => ?_); go_big_quiet_op; refine hK _ ?_; clear hK K) | (refine Reg.G_skip (i := 0) rfl (by kernel_rfl) (by rfl) ?_; simp only [Act.put, List.setIfInBounds_toArray, List.set_cons_zero, List.set_cons_succ])
    first | (refine Reg.G_step (i := 2) rfl (by kernel_rfl) (by rfl) (fun K hK => ?_); go_big_quiet_op; refine hK _ ?_; clear hK K) | (refine Reg.G_skip (i := 2) rfl (by kernel_rfl) (by rfl) ?_; simp only [Act.put, List.setIfInBounds_toArray, List.set_cons_zero, List.set_cons_succ])
    first | (refine Reg.G_step (i := 5) rfl (by kernel_rfl) (by rfl) (fun K hK => ?_); go_big_quiet_op; refine hK _ ?_; clear hK K) | (refine Reg.G_skip (i := 5) rfl (by kernel_rfl) (by rfl) ?_; simp only [Act.put, List.setIfInBounds_toArray, List.set_cons_zero, List.set_cons_succ])
    first | (refine Reg.G_step (i := 6) rfl (by kernel_rfl) (by rfl) (fun K hK => ?_); go_big_quiet_op; refine hK _ ?_; clear hK K) | (refine Reg.G_skip (i := 6) rfl (by kernel_rfl) (by rfl) ?_; simp only [Act.put, List.setIfInBounds_toArray, List.set_cons_zero, List.set_cons_succ])
    first | (refine Reg.G_step (i := 7) rfl (by kernel_rfl) (by rfl) (fun K hK => ?_); go_big_quiet_op; refine hK _ ?_; clear hK K) | (refine Reg.G_skip (i := 7) rfl (by kernel_rfl) (by rfl) ?_; simp only [Act.put, List.setIfInBounds_toArray, List.set_cons_zero, List.set_cons_succ])
    first | (refine Reg.G_step (i := 8) rfl (by kernel_rfl) (by rfl) (fun K hK => ?_); go_big_quiet_op; refine hK _ ?_; clear hK K) | (refine Reg.G_skip (i := 8) rfl (by kernel_rfl) (by rfl) ?_; simp only [Act.put, List.setIfInBounds_toArray, List.set_cons_zero, List.set_cons_succ])
    first | (refine Reg.G_step (i := 9) rfl (by kernel_rfl) (by rfl) (fun K hK => ?_); go_big_quiet_op; refine hK _ ?_; clear hK K) | (refine Reg.G_skip (i := 9) rfl (by kernel_rfl) (by rfl) ?_; simp only [Act.put, List.setIfInBounds_toArray, List.set_cons_zero, List.set_cons_succ])
    first | (refine Reg.G_step (i := 10) rfl (by kernel_rfl) (by rfl) (fun K hK => ?_); go_big_quiet_op; refine hK _ ?_; clear hK K) | (refine Reg.G_skip (i := 10) rfl (by kernel_rfl) (by rfl) ?_; simp only [Act.put, List.setIfInBounds_toArray, List.set_cons_zero, List.set_cons_succ])
    first | (refine Reg.G_step (i := 11) rfl (by kernel_rfl) (by rfl) (fun K hK => ?_); go_big_quiet_op; refine hK _ ?_; clear hK K) | (refine Reg.G_skip (i := 11) rfl (by kernel_rfl) (by rfl) ?_; simp only [Act.put, List.setIfInBounds_toArray, List.set_cons_zero, List.set_cons_succ])
    first | (refine Reg.G_step (i := 12) rfl (by kernel_rfl) (by rfl) (fun K hK => ?_); go_big_quiet_op; refine hK _ ?_; clear hK K) | (refine Reg.G_skip (i := 12) rfl (by kernel_rfl) (by rfl) ?_; simp only [Act.put, List.setIfInBounds_toArray, List.set_cons_zero, List.set_cons_succ])
    first | (refine Reg.G_step (i := 13) rfl (by kernel_rfl) (by rfl) (fun K hK => ?_); go_big_quiet_op; refine hK _ ?_; clear hK K) | (refine Reg.G_skip (i := 13) rfl (by kernel_rfl) (by rfl) ?_; simp only [Act.put, List.setIfInBounds_toArray, List.set_cons_zero, List.set_cons_succ])
    first | (refine Reg.G_step (i := 14) rfl (by kernel_rfl) (by rfl) (fun K hK => ?_); go_big_quiet_op; refine hK _ ?_; clear hK K) | (refine Reg.G_skip (i := 14) rfl (by kernel_rfl) (by rfl) ?_; simp only [Act.put, List.setIfInBounds_toArray, List.set_cons_zero, List.set_cons_succ])
    refine Reg.G_event (i := 1) rfl (by kernel_rfl) (by rfl) (fun K hK => ?_)
    go_simp
    refine (HT.out g cap1 _ _ hW HBS.out).mono ?_
    rintro e v0 ⟨rfl, hv0⟩
    refine hK _ _ hv0 ?_
    clear hK K hcx hcy
    have hw0 := bt hbw hv0
    have hcx := Reg.later_cell hw0 hcell1
    have hcy := Reg.later_cell hw0 hcell2
    refine Reg.G_event (i := 3) rfl (by kernel_rfl) (by rfl) (fun K hK => ?_)
    go_simp
    refine (HO.out _ hw0).mono ?_
    rintro e v1 ⟨rfl, hv1⟩
    refine hK _ _ hv1 ?_
    clear hK K hcx hcy
    have hw1 := bt hw0 hv1
    have hpq := HPQ.out
    first | (refine Reg.G_step (i := 4) rfl (by kernel_rfl) (by rfl) (fun K hK => ?_); go_big_quiet_op; refine hK _ ?_; clear hK K) | (refine Reg.G_skip (i := 4) rfl (by kernel_rfl) (by rfl) ?_; simp only [Act.put, List.setIfInBounds_toArray, List.set_cons_zero, List.set_cons_succ])
    first | (refine Reg.G_step (i := 15) rfl (by kernel_rfl) (by rfl) (fun K hK => ?_); go_big_quiet_op; refine hK _ ?_; clear hK K) | (refine Reg.G_skip (i := 15) rfl (by kernel_rfl) (by rfl) ?_; simp only [Act.put, List.setIfInBounds_toArray, List.set_cons_zero, List.set_cons_succ])
    first | (refine Reg.G_step (i := 16) rfl (by kernel_rfl) (by rfl) (fun K hK => ?_); go_big_quiet_op; refine hK _ ?_; clear hK K) | (refine Reg.G_skip (i := 16) rfl (by kernel_rfl) (by rfl) ?_; simp only [Act.put, List.setIfInBounds_toArray, List.set_cons_zero, List.set_cons_succ])
    refine Reg.G_done (by kernel_rfl) ?_
    go_wp2
    go_ret
    exact ⟨ret_bool (by first | rfl | exact HPQ.out | simp), hw1⟩
end Go.Proofs.Ytpkbogcdnlobcaa.Crc
