/- The walk of FrameLong: what is too long is not packed, and its length alone makes a framer dead; no condition. -/
import Derived.Test.YtofmgbncaokmdaaFrameAwake
import Derived.Deep.OwnRows
namespace Go.Proofs.Ytofmgbncaokmdaa.Fr
open Go.RowKit Go.Proofs.Ytofmgbncaokmdaa.BM Go.Proofs.Ytofmgbncaokmdaa.LM Go.Proofs.Ytofmgbncaokmdaa.Std Go.Proofs.Ytofmgbncaokmdaa.FrM

theorem zeros_row (m : Nat) : madeCells #[.int .u8 0] m = (cs (List.replicate m 0)).toArray := by
  apply Array.toList_inj.1
  rw [toList_madeCells_one]
  simp [cs]

theorem make_zeros (m : Nat) (hm : m ≤ 100000000) (W : World) : (Instr.makeSlice 22 (.int .i64 (m : Int)) (.int .i64 (m : Int))).run Try.prog W = .ok (.slice (some ⟨W.heap.size, 0, none⟩) m m) (W.alloc (.cells (cs (List.replicate m 0)).toArray 5)) := by
  rw [← zeros_row]
  exact run_make_row' 22 5 (.int .u8 0) 1 Try.underlying22 info_u8 rfl .i64 .i64 m (by omega) (by omega) W

set_option maxRecDepth 100000 in
set_option maxHeartbeats 1000000 in
theorem long_walk (n : Int) (a : Option Addr) (len cap : Nat) (zs : List Int) (w : World) (w0 : (Lit.int .u32 n).wf = true) (w1 : RowU8 w a len cap zs) :
    Calls Try.prog 8 #[.int .u32 n, .slice a len cap] w fun e w' => e = .returned (.bool true) ∧ Below w.heap.size w w' := by
  obtain ⟨n0, n1⟩ := bounds_u32 w0
  obtain ⟨N, rfl⟩ := Int.eq_ofNat_of_zero_le n0
  obtain ⟨xs, hxl, hS⟩ := row_slB w1
  have hcap := hS.2.1
  have hcm := hS.2.2.2
  unfold maxLen at hcm
  rw [hxl] at hcap
  clear w0 w1
  have Haw := Lib.hid (awake_any w)
  by_cases h4 : len = 4
  · subst h4
    obtain ⟨m, hm⟩ : ∃ m, m = N % 2000 := ⟨_, rfl⟩
    have hme : (N : Int) % 2000 = (m : Int) := by rw [hm]; omega
    have hm2 : m < 2000 := by omega
    obtain ⟨Z, hZ⟩ : ∃ Z : List Int, Z = List.replicate m 0 := ⟨_, rfl⟩
    have hZl : Z.length = m := by rw [hZ]; simp
    have hZb : CrcM.Bytes Z := by
      intro y hy
      rw [hZ] at hy
      have := List.eq_of_mem_replicate hy
      omega
    obtain ⟨C, hC⟩ : ∃ C, C = (cs Z).toArray := ⟨_, rfl⟩
    have hmk : ∀ W, (Instr.makeSlice 22 (.int .i64 (m : Int)) (.int .i64 (m : Int))).run Try.prog W = .ok (.slice (some ⟨W.heap.size, 0, none⟩) m m) (W.alloc (.cells C 5)) := by
      intro W
      rw [hC, hZ]
      exact make_zeros m (by omega) W
    have HC := Lib.hid hC
    have HZl := Lib.hid hZl
    have HZb := Lib.hid hZb
    have HS := Lib.hid hS
    have HX := Lib.hid hxl
    clear hm hZ hC hZl hZb hS hxl
    go_enter Try.func8, Try.ntmps8
    go_wp2_with fail
    refine Haw.out.mono ?_
    rintro e w1 ⟨rfl, hb1⟩
    have Hb1 := Lib.hid hb1
    clear hb1
    go_wp2_with fail
    have hbA : Below w1.heap.size w1 (w1.alloc (.cells C 5)) := (Below.refl _ _).alloc (Nat.le_refl _) _
    have hSZ : SlB (w1.alloc (.cells C 5)) (some ⟨w1.heap.size, 0, none⟩) Z m := by
      rw [HC.out]
      have := slB_lit w1 Z HZb.out (by have := HZl.out; omega)
      rw [HZl.out] at this
      exact this
    have HbA := Lib.hid (bt Hb1.out hbA)
    by_cases hm5 : m ≤ 512
    · have hp := Pack_yes _ Z m _ hSZ (by rw [HZl.out]; exact hm5)
      rw [pk_len, HZl.out] at hp
      refine hp.mono ?_
      rintro e w2 ⟨A2, c2, rfl, _, _, hB2⟩
      have HB2 := Lib.hid (bt HbA.out hB2)
      clear hp hSZ hbA hB2
      have hBw : IsB (w2.alloc (.cells #[.int .u8 ((N : Int) % 256), .int .u8 ((N : Int) / 256 % 256), .int .u8 ((N : Int) / 65536 % 256), .int .u8 ((N : Int) / 16777216)] 5)) (some ⟨w2.heap.size, 0, none⟩) (wd (N : Int)) := isB_new w2 (wd (N : Int)) (wd_bytes n0 n1)
      have HBw := Lib.hid hBw
      have HB3 := Lib.hid (bt HB2.out ((Below.refl w2.heap.size w2).alloc (Nat.le_refl _) (.cells #[.int .u8 ((N : Int) % 256), .int .u8 ((N : Int) / 256 % 256), .int .u8 ((N : Int) / 65536 % 256), .int .u8 ((N : Int) / 16777216)] 5)))
      clear hBw
      go_wp2_with (at_builtin; refine wp_append_b rfl (.const (.slice none 0 0)) (.tmp 44) rfl _ (.slice none 0 0) 0 [] rfl (World.ownsRow_nil _ _ _ _) (some ⟨w2.heap.size, 0, none⟩) 4 4 (wd (N : Int)) rfl rfl HBw.out (fun h => by cases h) (by omega) (Nat.le_refl _) ?_; intro v3 w3 hown3 hgrow3; refine pause ?_)
      have h23 := (Below.refl _ _).grown hgrow3 (Nat.le_refl _) (fun _ h => by cases h)
      have hB4 := bt HB3.out h23
      have HOwn3 := Lib.hid hown3
      have HB4 := Lib.hid hB4
      have hsz3 := hgrow3.size
      have HS4 := Lib.hid (HS.out.kept hB4)
      clear hown3 hgrow3 h23 hB4
      unfold Pause
      go_wp2_with (at_builtin; refine wp_append_b rfl (.tmp 45) (.tmp 46) rfl _ v3 (0 + 4) ([] ++ wd (N : Int)) rfl HOwn3.out a 4 cap xs rfl HX.out HS4.out.1 HS4.out.2.2.1 (by omega) hsz3 ?_; intro v5 w5 hown5 hgrow5; refine pause ?_)
      have hB5 : Below w.heap.size w w5 := HB4.out.grown hgrow5 (by have := HB4.out.size; omega) (fun q hq => by
        have := (HOwn3.out.lt q hq).1
        have := HB3.out.size
        omega)
      rw [List.nil_append] at hown5
      obtain ⟨A5, c5, rfl, hl5, hS5, _⟩ := own_slB hown5 (bytes_app (wd_bytes n0 n1) HS.out.1.1)
      obtain ⟨Y, hY⟩ : ∃ Y, Y = wd (N : Int) ++ xs := ⟨_, rfl⟩
      have hYl : Y.length = 8 := by rw [hY, ← hl5]
      rw [← hY] at hS5 ⊢
      obtain ⟨d, left, fs, hr⟩ : ∃ d left fs, feed' false [] Y = ⟨d, left, fs⟩ := ⟨_, _, _, rfl⟩
      have hlong : 512 < N → d = true ∧ fs = [] := by
        intro h
        rw [feed'_live, List.nil_append, hY, feed_long (N : Int) xs (by omega) HX.out] at hr
        injection hr with q1 _ q3
        exact ⟨q1.symm, q3.symm⟩
      have hmany : fs.length ≤ 8 := by
        have := feed'_many false [] Y
        rw [hr, hYl] at this
        exact this
      have hleft : left.length ≤ 8 := by
        have := feed'_len false [] Y
        rw [hr, hYl] at this
        exact this
      have HF := Lib.hid (Feed_later false none A5 [] Y 0 8 0 c5 w5 (slB_none _) hS5 rfl hYl (by omega) _ hr w5 (Below.refl _ _))
      have HB5 := Lib.hid hB5
      have HLong := Lib.hid hlong
      clear hB5 hS5 hown5 hgrow5 hl5 hr hY hlong
      rw [hYl]
      clear hYl
      unfold Pause
      by_cases hN : 512 < N
      · obtain ⟨rfl, rfl⟩ := HLong.out hN
        go_wp2_with fail
        refine HF.out.mono ?_
        rintro e w6 ⟨A6, c6, V6, k6, rfl, h6, hl6, hB6⟩
        simp only [frm, List.length_nil]
        have HBe := Lib.hid (bt (bt HB5.out hB6) ((Below.refl w6.heap.size w6).alloc (Nat.le_refl _) (.cells #[.slice A6 left.length c6, .bool true] 24)))
        clear h6 hl6 hB6
        go_wp2_with fail
        go_ret
        exact ⟨ret_bool (by first | rfl | simp), HBe.out⟩
      · have hN5 : N ≤ 512 := by omega
        go_wp2_with fail
        refine HF.out.mono ?_
        rintro e w6 ⟨A6, c6, V6, k6, rfl, h6, hl6, hB6⟩
        simp only [frm]
        have HBe := Lib.hid (bt (bt HB5.out hB6) ((Below.refl w6.heap.size w6).alloc (Nat.le_refl _) (.cells #[.slice A6 left.length c6, .bool d] 24)))
        clear h6 hl6 hB6
        go_wp2_with fail
        go_ret
        exact ⟨ret_bool (by first | rfl | simp), HBe.out⟩
    · have hp := Pack_no (some ⟨w1.heap.size, 0, none⟩) m m (w1.alloc (.cells C 5)) (by omega) (by omega)
      refine hp.mono ?_
      rintro e w2 ⟨rfl, hw2⟩
      have HB2 := Lib.hid (show Below w.heap.size w w2 from by rw [← hw2]; exact HbA.out)
      clear hp hSZ hbA hw2
      have hBw : IsB (w2.alloc (.cells #[.int .u8 ((N : Int) % 256), .int .u8 ((N : Int) / 256 % 256), .int .u8 ((N : Int) / 65536 % 256), .int .u8 ((N : Int) / 16777216)] 5)) (some ⟨w2.heap.size, 0, none⟩) (wd (N : Int)) := isB_new w2 (wd (N : Int)) (wd_bytes n0 n1)
      have HBw := Lib.hid hBw
      have HB3 := Lib.hid (bt HB2.out ((Below.refl w2.heap.size w2).alloc (Nat.le_refl _) (.cells #[.int .u8 ((N : Int) % 256), .int .u8 ((N : Int) / 256 % 256), .int .u8 ((N : Int) / 65536 % 256), .int .u8 ((N : Int) / 16777216)] 5)))
      clear hBw
      go_wp2_with (at_builtin; refine wp_append_b rfl (.const (.slice none 0 0)) (.tmp 44) rfl _ (.slice none 0 0) 0 [] rfl (World.ownsRow_nil _ _ _ _) (some ⟨w2.heap.size, 0, none⟩) 4 4 (wd (N : Int)) rfl rfl HBw.out (fun h => by cases h) (by omega) (Nat.le_refl _) ?_; intro v3 w3 hown3 hgrow3; refine pause ?_)
      have h23 := (Below.refl _ _).grown hgrow3 (Nat.le_refl _) (fun _ h => by cases h)
      have hB4 := bt HB3.out h23
      have HOwn3 := Lib.hid hown3
      have HB4 := Lib.hid hB4
      have hsz3 := hgrow3.size
      have HS4 := Lib.hid (HS.out.kept hB4)
      clear hown3 hgrow3 h23 hB4
      unfold Pause
      go_wp2_with (at_builtin; refine wp_append_b rfl (.tmp 45) (.tmp 46) rfl _ v3 (0 + 4) ([] ++ wd (N : Int)) rfl HOwn3.out a 4 cap xs rfl HX.out HS4.out.1 HS4.out.2.2.1 (by omega) hsz3 ?_; intro v5 w5 hown5 hgrow5; refine pause ?_)
      have hB5 : Below w.heap.size w w5 := HB4.out.grown hgrow5 (by have := HB4.out.size; omega) (fun q hq => by
        have := (HOwn3.out.lt q hq).1
        have := HB3.out.size
        omega)
      rw [List.nil_append] at hown5
      obtain ⟨A5, c5, rfl, hl5, hS5, _⟩ := own_slB hown5 (bytes_app (wd_bytes n0 n1) HS.out.1.1)
      obtain ⟨Y, hY⟩ : ∃ Y, Y = wd (N : Int) ++ xs := ⟨_, rfl⟩
      have hYl : Y.length = 8 := by rw [hY, ← hl5]
      rw [← hY] at hS5 ⊢
      obtain ⟨d, left, fs, hr⟩ : ∃ d left fs, feed' false [] Y = ⟨d, left, fs⟩ := ⟨_, _, _, rfl⟩
      have hlong : 512 < N → d = true ∧ fs = [] := by
        intro h
        rw [feed'_live, List.nil_append, hY, feed_long (N : Int) xs (by omega) HX.out] at hr
        injection hr with q1 _ q3
        exact ⟨q1.symm, q3.symm⟩
      have hmany : fs.length ≤ 8 := by
        have := feed'_many false [] Y
        rw [hr, hYl] at this
        exact this
      have hleft : left.length ≤ 8 := by
        have := feed'_len false [] Y
        rw [hr, hYl] at this
        exact this
      have HF := Lib.hid (Feed_later false none A5 [] Y 0 8 0 c5 w5 (slB_none _) hS5 rfl hYl (by omega) _ hr w5 (Below.refl _ _))
      have HB5 := Lib.hid hB5
      have HLong := Lib.hid hlong
      clear hB5 hS5 hown5 hgrow5 hl5 hr hY hlong
      rw [hYl]
      clear hYl
      unfold Pause
      by_cases hN : 512 < N
      · obtain ⟨rfl, rfl⟩ := HLong.out hN
        go_wp2_with fail
        refine HF.out.mono ?_
        rintro e w6 ⟨A6, c6, V6, k6, rfl, h6, hl6, hB6⟩
        simp only [frm, List.length_nil]
        have HBe := Lib.hid (bt (bt HB5.out hB6) ((Below.refl w6.heap.size w6).alloc (Nat.le_refl _) (.cells #[.slice A6 left.length c6, .bool true] 24)))
        clear h6 hl6 hB6
        go_wp2_with fail
        go_ret
        exact ⟨ret_bool (by first | rfl | simp), HBe.out⟩
      · exfalso
        have : m ≤ 512 := by omega
        omega
  · have hd : ((len : Int) != 4) = true := by rw [bne_iff_ne]; omega
    clear hxl h4
    go_enter Try.func8, Try.ntmps8
    go_wp2_with fail
    refine Haw.out.mono ?_
    rintro e w1 ⟨rfl, hb1⟩
    go_wp2_with fail
    go_ret
    exact ⟨rfl, hb1⟩
end Go.Proofs.Ytofmgbncaokmdaa.Fr
