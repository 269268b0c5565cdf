/- The walk of CrcOne: bytes that differ in one place alone have other checks; no condition. -/
import Derived.Test.YtpkbogcdnlobcaaCrcNextLaw
import Derived.Test.YtpkbogcdnlobcaaRegion
namespace Go.Proofs.Ytpkbogcdnlobcaa.Crc
open Go.RowKit Go.Proofs.Ytpkbogcdnlobcaa.CrcM Go.Proofs.Ytpkbogcdnlobcaa.BM

/-- A copy of bytes with one place turned. -/
theorem set_split (xs : List Int) (k : Nat) (c : Int) (hk : k < xs.length) : xs.set k c = xs.take k ++ c :: xs.drop (k + 1) := by
  rw [List.set_eq_take_append_cons_drop, if_pos hk]

theorem xs_split (xs : List Int) (k : Nat) (hk : k < xs.length) : xs = xs.take k ++ xs.getD k 0 :: xs.drop (k + 1) := by
  rw [← drop_consB xs k hk, List.take_append_drop]

set_option maxRecDepth 100000 in
set_option maxHeartbeats 1000000 in
theorem one_walk (a : Option Addr) (len cap : Nat) (zs : List Int) (i c : Int) (w : World) (w0 : RowU8 w a len cap zs) (w1 : (Lit.int .i64 i).wf = true) (w2 : (Lit.int .u8 c).wf = true) :
    Calls Try.prog 5 #[.slice a len cap, .int .i64 i, .int .u8 c] w fun e w' => e = .returned (.bool true) ∧ Below w.heap.size w w' := by
  obtain ⟨n0, n1⟩ := bounds_i64 w1
  obtain ⟨c0, c1⟩ := bounds_u8 w2
  obtain ⟨xs, hxl, hB, hcap, hmax⟩ := row_isB w0
  clear w0 w1 w2
  have Haw := Lib.hid (awake_any w)
  by_cases hout : 400 < len ∨ i < 0 ∨ (len : Int) ≤ i
  · clear hxl
    rcases (show 400 < len ∨ (¬ 400 < len ∧ i < 0) ∨ (¬ 400 < len ∧ ¬ i < 0 ∧ (len : Int) ≤ i) from by omega) with h | ⟨h, h'⟩ | ⟨h, h', h''⟩
    all_goals
      clear hout
      go_enter Try.func5, Try.ntmps5
      go_wp2_with fail
      refine Haw.out.mono ?_
      rintro e w1 ⟨rfl, hb1⟩
      go_wp2_with fail
      go_ret
      exact ⟨rfl, hb1⟩
  · obtain ⟨k, rfl⟩ := Int.eq_ofNat_of_zero_le (show 0 ≤ i by omega)
    have hkl : k < len := by omega
    have h400 : ¬ 400 < len := by omega
    clear hout
    obtain ⟨b, o, rfl, hcells⟩ := hB.2 (by omega)
    have hcell := hcells k (by omega)
    have hbl := World.block_lt_of_cell? w _ hcell
    have hO := Of_later (some ⟨b, o, none⟩) xs len cap w hxl (by omega) hB
    have hT := fun (g cp : Nat) (W0 W : World) (hd : Below W0.heap.size W0 W) (h : IsB W0 (some ⟨g, 0, none⟩) (xs.set k c)) => Of_later (some ⟨g, 0, none⟩) (xs.set k c) len cp W0 (by rw [List.length_set]; exact hxl) (by omega) h W hd
    have hone : next 0 (xs.set k c) = next 0 xs → c = xs.getD k 0 := by
      intro e
      rw [set_split xs k c (by omega)] at e
      conv at e => rhs; rw [xs_split xs k (by omega)]
      refine next_one (by decide) (isB_take hB k).1 (fun x hx => hB.1 x (List.mem_of_mem_drop hx)) ?_ (by omega) e
      rw [List.getD_eq_getElem?_getD, List.getElem?_eq_getElem (by omega)]
      exact hB.1 _ (List.getElem_mem _)
    have hsame : c = xs.getD k 0 → next 0 (xs.set k c) = next 0 xs := by
      intro e
      rw [set_split xs k c (by omega), e, ← xs_split xs k (by omega)]
    have hbs : ∀ x ∈ xs.set k c, (0 : Int) ≤ x ∧ x < 256 := fun x hx => by
      rcases List.mem_or_eq_of_mem_set hx with h | rfl
      · exact hB.1 x h
      · omega
    obtain ⟨p, hp⟩ : ∃ p, p = next 0 (xs.set k c) := ⟨_, rfl⟩
    obtain ⟨q, hq⟩ : ∃ q, q = next 0 xs := ⟨_, rfl⟩
    obtain ⟨y, hy⟩ : ∃ y, y = xs.getD k 0 := ⟨_, rfl⟩
    rw [← hy] at hcell hone hsame
    rw [← hp] at hT hone hsame
    rw [← hq] at hO hone hsame
    have HO := Lib.hid hO
    have HT := Lib.hid hT
    have HPQ := Lib.hid (show (((p : Int) == (q : Int)) == (c == y)) = true from by
      by_cases h : c = y
      · rw [hsame h, h]; simp
      · have h1 : p ≠ q := fun e => h (hone e)
        have e1 : ((p : Int) == (q : Int)) = false := by rw [beq_eq_false_iff_ne]; omega
        have e2 : (c == y) = false := by rw [beq_eq_false_iff_ne]; exact h
        rw [e1, e2]; rfl)
    have HXL := Lib.hid hxl
    clear hp hq hy hO hT hone hsame hxl hcells
    go_enter Try.func5, Try.ntmps5
    go_wp2_with fail
    refine Haw.out.mono ?_
    rintro e w1 ⟨rfl, hb1⟩
    have hB1 := isB_kept hB hb1
    go_wp2_with (at_builtin; refine wp_append_b rfl (.const (.slice none 0 0)) (.tmp 28) rfl w1.heap.size _ 0 [] rfl (World.ownsRow_nil _ _ _ _) (some ⟨b, o, none⟩) len cap xs rfl HXL.out hB1 (by simp) (by omega) (Nat.le_refl _) ?_; intro v1 w2 hown1 hgrow1; refine pause ?_)
    simp only [Nat.zero_add, List.nil_append] at hown1
    have hb2 : Below w1.heap.size w1 w2 := (Below.refl _ _).grown hgrow1 (Nat.le_refl _) (fun _ h => by cases h)
    obtain ⟨g, cap1, rfl, _, hg1, hg2, hcap1, hBx⟩ := own_form hown1 hB.1 (by omega)
    have hcg := isB_cell hBx k (by have := HXL.out; omega)
    rw [Nat.zero_add] at hcg
    have hfr := hown1.frozenAt k
    have hset := set_own hown1 k c
    have hBs := own_isB hset hbs
    have hb3 : Below w.heap.size w (w2.setCell ⟨g, k, none⟩ (.int .u8 c)) := bt hb1 (hb2.setCell hg1 _)
    have HB3 := Lib.hid hb3
    have HBS := Lib.hid hBs
    clear hset hBx hgrow1 hown1 hb3 hBs hbs hB1
    have hcw : (w2.setCell ⟨g, k, none⟩ (.int .u8 c)).cell? ⟨b, o + k, none⟩ = some (.int .u8 y) := by
      rw [HB3.out.cell (p := ⟨b, o + k, none⟩) hbl]
      exact hcell
    obtain ⟨W2, hW2⟩ : ∃ W2, W2 = w2.setCell ⟨g, k, none⟩ (.int .u8 c) := ⟨_, rfl⟩
    rw [← hW2] at HB3 HBS hcw
    have HW2 := Lib.hid hW2
    clear hW2
    unfold Pause
    go_wp2_with fail
    rw [← HW2.out]
    clear Haw
    refine Reg.G_start (by kernel_rfl) (by repeat (first | exact Reg.frameless_bodyPost | refine Reg.frameless_then ?_ | refine Reg.frameless_inBlock ?_)) (fun W hW => ?_)
    have hbw := bt HB3.out hW
    have hcx := Reg.later_cell hbw hcell
    first | (refine Reg.G_step (i := 0) rfl (by kernel_rfl) (by rfl) (fun K hK => ?_); go_big_quiet_op; refine hK _ ?_; clear hK K) | (refine Reg.G_skip (i := 0) rfl (by kernel_rfl) (by rfl) ?_; simp only [Act.put, List.setIfInBounds_toArray, List.set_cons_zero, List.set_cons_succ])
    first | (refine Reg.G_step (i := 2) rfl (by kernel_rfl) (by rfl) (fun K hK => ?_); go_big_quiet_op; refine hK _ ?_; clear hK K) | (refine Reg.G_skip (i := 2) rfl (by kernel_rfl) (by rfl) ?_; simp only [Act.put, List.setIfInBounds_toArray, List.set_cons_zero, List.set_cons_succ])
    first | (refine Reg.G_step (i := 5) rfl (by kernel_rfl) (by rfl) (fun K hK => ?_); go_big_quiet_op; refine hK _ ?_; clear hK K) | (refine Reg.G_skip (i := 5) rfl (by kernel_rfl) (by rfl) ?_; simp only [Act.put, List.setIfInBounds_toArray, List.set_cons_zero, List.set_cons_succ])
    first | (refine Reg.G_step (i := 6) rfl (by kernel_rfl) (by rfl) (fun K hK => ?_); go_big_quiet_op; refine hK _ ?_; clear hK K) | (refine Reg.G_skip (i := 6) rfl (by kernel_rfl) (by rfl) ?_; simp only [Act.put, List.setIfInBounds_toArray, List.set_cons_zero, List.set_cons_succ])
    first | (refine Reg.G_step (i := 7) rfl (by kernel_rfl) (by rfl) (fun K hK => ?_); go_big_quiet_op; refine hK _ ?_; clear hK K) | (refine Reg.G_skip (i := 7) rfl (by kernel_rfl) (by rfl) ?_; simp only [Act.put, List.setIfInBounds_toArray, List.set_cons_zero, List.set_cons_succ])
    first | (refine Reg.G_step (i := 8) rfl (by kernel_rfl) (by rfl) (fun K hK => ?_); go_big_quiet_op; refine hK _ ?_; clear hK K) | (refine Reg.G_skip (i := 8) rfl (by kernel_rfl) (by rfl) ?_; simp only [Act.put, List.setIfInBounds_toArray, List.set_cons_zero, List.set_cons_succ])
    first | (refine Reg.G_step (i := 9) rfl (by kernel_rfl) (by rfl) (fun K hK => ?_); go_big_quiet_op; refine hK _ ?_; clear hK K) | (refine Reg.G_skip (i := 9) rfl (by kernel_rfl) (by rfl) ?_; simp only [Act.put, List.setIfInBounds_toArray, List.set_cons_zero, List.set_cons_succ])
    first | (refine Reg.G_step (i := 10) rfl (by kernel_rfl) (by rfl) (fun K hK => ?_); go_big_quiet_op; refine hK _ ?_; clear hK K) | (refine Reg.G_skip (i := 10) rfl (by kernel_rfl) (by rfl) ?_; simp only [Act.put, List.setIfInBounds_toArray, List.set_cons_zero, List.set_cons_succ])
    refine Reg.G_event (i := 1) rfl (by kernel_rfl) (by rfl) (fun K hK => ?_)
    go_simp
    refine (HT.out g cap1 _ _ hW HBS.out).mono ?_
    rintro e v0 ⟨rfl, hv0⟩
    refine hK _ _ hv0 ?_
    clear hK K hcx
    have hw0 := bt hbw hv0
    have hcx := Reg.later_cell hw0 hcell
    refine Reg.G_event (i := 3) rfl (by kernel_rfl) (by rfl) (fun K hK => ?_)
    go_simp
    refine (HO.out _ hw0).mono ?_
    rintro e v1 ⟨rfl, hv1⟩
    refine hK _ _ hv1 ?_
    clear hK K hcx
    have hw1 := bt hw0 hv1
    have hpq := HPQ.out
    first | (refine Reg.G_step (i := 4) rfl (by kernel_rfl) (by rfl) (fun K hK => ?_); go_big_quiet_op; refine hK _ ?_; clear hK K) | (refine Reg.G_skip (i := 4) rfl (by kernel_rfl) (by rfl) ?_; simp only [Act.put, List.setIfInBounds_toArray, List.set_cons_zero, List.set_cons_succ])
    first | (refine Reg.G_step (i := 11) rfl (by kernel_rfl) (by rfl) (fun K hK => ?_); go_big_quiet_op; refine hK _ ?_; clear hK K) | (refine Reg.G_skip (i := 11) rfl (by kernel_rfl) (by rfl) ?_; simp only [Act.put, List.setIfInBounds_toArray, List.set_cons_zero, List.set_cons_succ])
    first | (refine Reg.G_step (i := 12) rfl (by kernel_rfl) (by rfl) (fun K hK => ?_); go_big_quiet_op; refine hK _ ?_; clear hK K) | (refine Reg.G_skip (i := 12) rfl (by kernel_rfl) (by rfl) ?_; simp only [Act.put, List.setIfInBounds_toArray, List.set_cons_zero, List.set_cons_succ])
    refine Reg.G_done (by kernel_rfl) ?_
    go_wp2
    go_ret
    exact ⟨ret_bool (by first | rfl | exact HPQ.out | simp), hw1⟩
end Go.Proofs.Ytpkbogcdnlobcaa.Crc
