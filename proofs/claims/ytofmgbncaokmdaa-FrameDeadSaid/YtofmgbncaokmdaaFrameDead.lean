/- The walk of FrameDead: what is dead stays so; what is told is never too long; no condition. -/
import Derived.Test.YtofmgbncaokmdaaFrameAwake
namespace Go.Proofs.Ytofmgbncaokmdaa.Fr
open Go.RowKit Go.Proofs.Ytofmgbncaokmdaa.BM Go.Proofs.Ytofmgbncaokmdaa.LM Go.Proofs.Ytofmgbncaokmdaa.Std Go.Proofs.Ytofmgbncaokmdaa.FrM

set_option maxRecDepth 100000 in
set_option maxHeartbeats 1000000 in
theorem dead_up (a0 : Option Addr) (len0 cap0 : Nat) (d : Bool) (a1 : Option Addr) (len1 cap1 : Nat) (a2 : Option Addr) (len2 cap2 : Nat) (w : World) (l0 : len0 ≤ 9223372036854775807) (l1 : len1 ≤ 9223372036854775807) (l2 : len2 ≤ 9223372036854775807)
    (h : 1500 < len0 ∨ 1500 < len1 ∨ 1500 < len2) :
    Calls Try.prog 6 #[.agg #[.slice a0 len0 cap0, .bool d], .slice a1 len1 cap1, .slice a2 len2 cap2] w fun e w' => e = .returned (.bool true) ∧ Below w.heap.size w w' := by
  have ha := (Below.refl w.heap.size w).alloc (Nat.le_refl _) (.cells #[.slice a0 len0 cap0, .bool d] 24)
  have Haw := Lib.hid (awake_any (w.alloc (.cells #[.slice a0 len0 cap0, .bool d] 24)))
  have HA := Lib.hid ha
  have HBx := Lib.hid (box_new w (.slice a0 len0 cap0) (.bool d))
  clear ha
  by_cases h0 : 1500 < len0
  · clear h
    go_enter Try.func6, Try.ntmps6
    go_wp2_with fail
    refine Haw.out.mono ?_
    rintro e w1 ⟨rfl, hb1⟩
    obtain ⟨p0, p1, p2, p3⟩ := HBx.out.kept hb1
    have HB := Lib.hid (bt HA.out hb1)
    clear hb1
    go_wp2_with fail
    go_ret
    exact ⟨rfl, HB.out⟩
  · by_cases h1 : 1500 < len1
    · clear h
      go_enter Try.func6, Try.ntmps6
      go_wp2_with fail
      refine Haw.out.mono ?_
      rintro e w1 ⟨rfl, hb1⟩
      obtain ⟨p0, p1, p2, p3⟩ := HBx.out.kept hb1
      have HB := Lib.hid (bt HA.out hb1)
      clear hb1
      go_wp2_with fail
      go_ret
      exact ⟨rfl, HB.out⟩
    · have h2 : 1500 < len2 := by omega
      clear h
      go_enter Try.func6, Try.ntmps6
      go_wp2_with fail
      refine Haw.out.mono ?_
      rintro e w1 ⟨rfl, hb1⟩
      obtain ⟨p0, p1, p2, p3⟩ := HBx.out.kept hb1
      have HB := Lib.hid (bt HA.out hb1)
      clear hb1
      go_wp2_with fail
      go_ret
      exact ⟨rfl, HB.out⟩

set_option maxRecDepth 100000 in
set_option maxHeartbeats 1000000 in
theorem dead_in (a0 : Option Addr) (fb : List Int) (len0 cap0 : Nat) (d : Bool) (a1 : Option Addr) (b : List Int) (len1 cap1 : Nat) (a2 : Option Addr) (more : List Int) (len2 cap2 : Nat) (w : World) (l0 : len0 ≤ 1500) (l1 : len1 ≤ 1500) (l2 : len2 ≤ 1500)
    (e0 : fb.length = len0) (e1 : b.length = len1) (e2 : more.length = len2) (s0 : SlB w a0 fb cap0) (s1 : SlB w a1 b cap1) (s2 : SlB w a2 more cap2) :
    Calls Try.prog 6 #[.agg #[.slice a0 len0 cap0, .bool d], .slice a1 len1 cap1, .slice a2 len2 cap2] w fun e w' => e = .returned (.bool true) ∧ Below w.heap.size w w' := by
  have ha := (Below.refl w.heap.size w).alloc (Nat.le_refl _) (.cells #[.slice a0 len0 cap0, .bool d] 24)
  have Haw := Lib.hid (awake_any (w.alloc (.cells #[.slice a0 len0 cap0, .bool d] 24)))
  have HA := Lib.hid ha
  have HBx := Lib.hid (box_new w (.slice a0 len0 cap0) (.bool d))
  obtain ⟨d2, left, fs, hr⟩ : ∃ d2 left fs, feed' d fb b = ⟨d2, left, fs⟩ := ⟨_, _, _, rfl⟩
  have hF := Feed_later d a0 a1 fb b len0 len1 cap0 cap1 w s0 s1 e0 e1 (by omega) _ hr
  have hfs : ∀ f ∈ fs, f.length ≤ 512 := by have := feed'_fs d fb b; rw [hr] at this; exact this
  have hleft : d2 = false → left.length < 520 := by have := feed'_left d fb b; rw [hr] at this; exact this
  have hlen : left.length ≤ len0 + len1 := by have := feed'_len d fb b; rw [hr, e0, e1] at this; exact this
  have hmany : fs.length ≤ len0 + len1 := by have := feed'_many d fb b; rw [hr, e0, e1] at this; exact this
  obtain ⟨d4, left4, fs4, hr4⟩ : ∃ d4 left4 fs4, feed' d2 left more = ⟨d4, left4, fs4⟩ := ⟨_, _, _, rfl⟩
  have hlen4 : left4.length ≤ 4500 := by have := feed'_len d2 left more; rw [hr4, e2] at this; simp only at this; omega
  have hmany4 : fs4.length ≤ 4500 := by have := feed'_many d2 left more; rw [hr4, e2] at this; simp only at this; omega
  have hcase : (d = true ∧ d2 = true ∧ fs = [] ∧ d4 = true ∧ fs4 = []) ∨ (d = false ∧ d2 = true ∧ d4 = true ∧ fs4 = []) ∨ (d = false ∧ d2 = false) := by
    cases d with
    | true =>
      rw [feed'_dead] at hr
      injection hr with q1 q2 q3
      subst q1
      rw [feed'_dead] at hr4
      injection hr4 with r1 r2 r3
      exact .inl ⟨rfl, rfl, q3.symm, r1.symm, r3.symm⟩
    | false =>
      cases d2 with
      | true =>
        rw [feed'_dead] at hr4
        injection hr4 with r1 r2 r3
        exact .inr (.inl ⟨rfl, rfl, r1.symm, r3.symm⟩)
      | false => exact .inr (.inr ⟨rfl, rfl⟩)
  have HF := Lib.hid hF
  have HFS := Lib.hid hfs
  have HR4 := Lib.hid hr4
  have HS2 := Lib.hid s2
  have E2 := Lib.hid e2
  have HLeft := Lib.hid hleft
  obtain ⟨n2, hn2⟩ : ∃ n2, n2 = left.length := ⟨_, rfl⟩
  have HN2 := Lib.hid hn2
  rw [← hn2] at hlen
  clear hF hfs hr hr4 s0 s1 s2 e0 e1 e2 ha hleft hn2
  rcases hcase with ⟨rfl, rfl, rfl, rfl, rfl⟩ | ⟨rfl, rfl, rfl, rfl⟩ | ⟨rfl, rfl⟩
  · go_enter Try.func6, Try.ntmps6
    go_wp2_with fail
    refine Haw.out.mono ?_
    rintro e w1 ⟨rfl, hb1⟩
    have hbx1 := HBx.out.kept hb1
    have HBx1 := Lib.hid hbx1
    obtain ⟨p0, p1, p2, p3⟩ := hbx1
    have HB1 := Lib.hid (bt HA.out hb1)
    clear hb1
    go_wp2_with fail
    refine (HF.out _ HB1.out).mono ?_
    rintro e w2 ⟨A2, c2, V2, k2, rfl, h2, hl2, hB2⟩
    simp only [frm, ← HN2.out, List.length_nil]
    have ha3 := (Below.refl w2.heap.size w2).alloc (Nat.le_refl _) (.cells #[.slice A2 n2 c2, .bool true] 24)
    have hB3 := bt (bt HB1.out hB2) ha3
    have HG := Lib.hid (Feed_later true A2 a2 left more n2 len2 c2 cap2 _ (h2.kept ha3) (HS2.out.kept hB3) HN2.out.symm E2.out (by omega) _ HR4.out _ (Below.refl _ _))
    have HB3 := Lib.hid hB3
    have HL3 := Lib.hid (hl2.kept ha3)
    have HX3 := Lib.hid (box_new w2 (.slice A2 n2 c2) (.bool true))
    have HF3 := Lib.hid ((HBx1.out.kept hB2).kept ha3)
    clear p0 p1 p2 p3 h2 hl2 hB2 ha3 hB3
    go_wp2_with fail
    refine HG.out.mono ?_
    rintro e w4 ⟨A4, c4, V4, k4, rfl, h4, hl4, hB4⟩
    simp only [frm, List.length_nil]
    have ha5 := (Below.refl w4.heap.size w4).alloc (Nat.le_refl _) (.cells #[.slice A4 left4.length c4, .bool true] 24)
    have hx4 := HX3.out.kept hB4
    have hf4 := HF3.out.kept hB4
    have hltx := hx4.lt
    have hltf := hf4.lt
    obtain ⟨p0, p1, p2, p3⟩ := hx4.kept ha5
    obtain ⟨q0, q1, q2, q3⟩ := hf4.kept ha5
    obtain ⟨r0, r1, r2, r3⟩ := hx4
    obtain ⟨s0, s1, s2, s3⟩ := hf4
    have HL5 := Lib.hid ((HL3.out.kept hB4).kept ha5)
    have HB5 := Lib.hid (bt (bt HB3.out hB4) ha5)
    clear h4 hl4 hB4 ha5
    go_wp2_with fail
    refine wp_loop_rounds 1 ?_
    rw [rounds_succ]
    go_wp2_with fail
    go_ret
    exact ⟨ret_bool (by simp), HB5.out⟩
  · go_enter Try.func6, Try.ntmps6
    go_wp2_with fail
    refine Haw.out.mono ?_
    rintro e w1 ⟨rfl, hb1⟩
    have hbx1 := HBx.out.kept hb1
    have HBx1 := Lib.hid hbx1
    obtain ⟨p0, p1, p2, p3⟩ := hbx1
    have HB1 := Lib.hid (bt HA.out hb1)
    clear hb1
    go_wp2_with fail
    refine (HF.out _ HB1.out).mono ?_
    rintro e w2 ⟨A2, c2, V2, k2, rfl, h2, hl2, hB2⟩
    simp only [frm, ← HN2.out]
    have ha3 := (Below.refl w2.heap.size w2).alloc (Nat.le_refl _) (.cells #[.slice A2 n2 c2, .bool true] 24)
    have hB3 := bt (bt HB1.out hB2) ha3
    have HG := Lib.hid (Feed_later true A2 a2 left more n2 len2 c2 cap2 _ (h2.kept ha3) (HS2.out.kept hB3) HN2.out.symm E2.out (by omega) _ HR4.out _ (Below.refl _ _))
    have HB3 := Lib.hid hB3
    have HL3 := Lib.hid (hl2.kept ha3)
    have HX3 := Lib.hid (box_new w2 (.slice A2 n2 c2) (.bool true))
    have HF3 := Lib.hid ((HBx1.out.kept hB2).kept ha3)
    clear p0 p1 p2 p3 h2 hl2 hB2 ha3 hB3
    go_wp2_with fail
    refine HG.out.mono ?_
    rintro e w4 ⟨A4, c4, V4, k4, rfl, h4, hl4, hB4⟩
    simp only [frm, List.length_nil]
    have ha5 := (Below.refl w4.heap.size w4).alloc (Nat.le_refl _) (.cells #[.slice A4 left4.length c4, .bool true] 24)
    have hx4 := HX3.out.kept hB4
    have hf4 := HF3.out.kept hB4
    have hltx := hx4.lt
    have hltf := hf4.lt
    obtain ⟨p0, p1, p2, p3⟩ := hx4.kept ha5
    obtain ⟨q0, q1, q2, q3⟩ := hf4.kept ha5
    obtain ⟨r0, r1, r2, r3⟩ := hx4
    obtain ⟨s0, s1, s2, s3⟩ := hf4
    have HL5 := Lib.hid ((HL3.out.kept hB4).kept ha5)
    have HB5 := Lib.hid (bt (bt HB3.out hB4) ha5)
    clear h4 hl4 hB4 ha5
    go_wp2_with fail
    go_loop [12] (fun i => ∃ k : Nat, k ≤ fs.length ∧ i = .int .i64 k) (fun i => fs.length - (intOf i).toNat)
    case atStart => exact ⟨0, by omega, rfl⟩
    case round =>
      obtain ⟨k, hk, rfl⟩ := hrel
      by_cases hlt : k < fs.length
      · obtain ⟨b5, o5, A', c', rfl, hcell, _⟩ := HL5.out.at k hlt
        have hsm : (fs.getD k []).length ≤ 512 := HFS.out _ (by rw [List.getD_eq_getElem?_getD, List.getElem?_eq_getElem hlt]; exact List.getElem_mem hlt)
        obtain ⟨m, hm⟩ : ∃ m, m = (fs.getD k []).length := ⟨_, rfl⟩
        rw [← hm] at hcell hsm
        clear hm
        go_wp2_with fail
        go_round
        case rel => exact ⟨k + 1, by omega, by go_num⟩
        case measure => simp [intOf]; omega
      · obtain rfl : k = fs.length := by omega
        go_wp2_with fail
        go_ret
        exact ⟨ret_bool (by simp), HB5.out⟩
  · go_enter Try.func6, Try.ntmps6
    go_wp2_with fail
    refine Haw.out.mono ?_
    rintro e w1 ⟨rfl, hb1⟩
    have hbx1 := HBx.out.kept hb1
    have HBx1 := Lib.hid hbx1
    obtain ⟨p0, p1, p2, p3⟩ := hbx1
    have HB1 := Lib.hid (bt HA.out hb1)
    clear hb1
    go_wp2_with fail
    refine (HF.out _ HB1.out).mono ?_
    rintro e w2 ⟨A2, c2, V2, k2, rfl, h2, hl2, hB2⟩
    simp only [frm, ← HN2.out]
    have ha3 := (Below.refl w2.heap.size w2).alloc (Nat.le_refl _) (.cells #[.slice A2 n2 c2, .bool false] 24)
    have hB3 := bt (bt HB1.out hB2) ha3
    have HG := Lib.hid (Feed_later false A2 a2 left more n2 len2 c2 cap2 _ (h2.kept ha3) (HS2.out.kept hB3) HN2.out.symm E2.out (by omega) _ HR4.out _ (Below.refl _ _))
    have HB3 := Lib.hid hB3
    have HL3 := Lib.hid (hl2.kept ha3)
    have HX3 := Lib.hid (box_new w2 (.slice A2 n2 c2) (.bool false))
    have HF3 := Lib.hid ((HBx1.out.kept hB2).kept ha3)
    clear p0 p1 p2 p3 h2 hl2 hB2 ha3 hB3
    go_wp2_with fail
    refine HG.out.mono ?_
    rintro e w4 ⟨A4, c4, V4, k4, rfl, h4, hl4, hB4⟩
    simp only [frm]
    have ha5 := (Below.refl w4.heap.size w4).alloc (Nat.le_refl _) (.cells #[.slice A4 left4.length c4, .bool d4] 24)
    have hx4 := HX3.out.kept hB4
    have hf4 := HF3.out.kept hB4
    have hltx := hx4.lt
    have hltf := hf4.lt
    obtain ⟨p0, p1, p2, p3⟩ := hx4.kept ha5
    obtain ⟨q0, q1, q2, q3⟩ := hf4.kept ha5
    obtain ⟨r0, r1, r2, r3⟩ := hx4
    obtain ⟨s0, s1, s2, s3⟩ := hf4
    have HL5 := Lib.hid ((HL3.out.kept hB4).kept ha5)
    have HB5 := Lib.hid (bt (bt HB3.out hB4) ha5)
    clear h4 hl4 hB4 ha5
    go_wp2_with fail
    go_loop [12] (fun i => ∃ k : Nat, k ≤ fs.length ∧ i = .int .i64 k) (fun i => fs.length - (intOf i).toNat)
    case atStart => exact ⟨0, by omega, rfl⟩
    case round =>
      obtain ⟨k, hk, rfl⟩ := hrel
      by_cases hlt : k < fs.length
      · obtain ⟨b5, o5, A', c', rfl, hcell, _⟩ := HL5.out.at k hlt
        have hsm : (fs.getD k []).length ≤ 512 := HFS.out _ (by rw [List.getD_eq_getElem?_getD, List.getElem?_eq_getElem hlt]; exact List.getElem_mem hlt)
        obtain ⟨m, hm⟩ : ∃ m, m = (fs.getD k []).length := ⟨_, rfl⟩
        rw [← hm] at hcell hsm
        clear hm
        go_wp2_with fail
        go_round
        case rel => exact ⟨k + 1, by omega, by go_num⟩
        case measure => simp [intOf]; omega
      · obtain rfl : k = fs.length := by omega
        have h520 : n2 < 520 := by
          rw [HN2.out]
          have := HLeft.out
          simpa using this
        go_wp2_with fail
        go_ret
        exact ⟨ret_bool (by simp; omega), HB5.out⟩

theorem dead_walk (a0 : Option Addr) (len0 cap0 : Nat) (z0 : List Int) (d0 : Bool) (a1 : Option Addr) (len1 cap1 : Nat) (z1 : List Int) (a2 : Option Addr) (len2 cap2 : Nat) (z2 : List Int) (w : World) (w0 : RowU8 w a0 len0 cap0 z0) (w1 : RowU8 w a1 len1 cap1 z1) (w2 : RowU8 w a2 len2 cap2 z2) :
    Calls Try.prog 6 #[.agg #[.slice a0 len0 cap0, .bool d0], .slice a1 len1 cap1, .slice a2 len2 cap2] w fun e w' => e = .returned (.bool true) ∧ Below w.heap.size w w' := by
  obtain ⟨x0, e0, s0⟩ := row_slB w0
  obtain ⟨x1, e1, s1⟩ := row_slB w1
  obtain ⟨x2, e2, s2⟩ := row_slB w2
  have m0 := s0.2.1
  have m1 := s1.2.1
  have m2 := s2.2.1
  have c0 := s0.2.2.2
  have c1 := s1.2.2.2
  have c2 := s2.2.2.2
  unfold maxLen at c0 c1 c2
  by_cases h : 1500 < len0 ∨ 1500 < len1 ∨ 1500 < len2
  · exact dead_up a0 len0 cap0 d0 a1 len1 cap1 a2 len2 cap2 w (by omega) (by omega) (by omega) h
  · exact dead_in a0 x0 len0 cap0 d0 a1 x1 len1 cap1 a2 x2 len2 cap2 w (by omega) (by omega) (by omega) e0 e1 e2 s0 s1 s2
end Go.Proofs.Ytofmgbncaokmdaa.Fr
