/- The walk of FrameBack: what is packed is one frame; of several each is one, in order; no condition. -/
import Derived.Test.YtofmgbncaokmdaaFrameTells
import Derived.Test.YtofmgbncaokmdaaRowL
namespace Go.Proofs.Ytofmgbncaokmdaa.Fr
open Go.RowKit Go.Proofs.Ytofmgbncaokmdaa.BM Go.Proofs.Ytofmgbncaokmdaa.LM Go.Proofs.Ytofmgbncaokmdaa.Std Go.Proofs.Ytofmgbncaokmdaa.FrM

theorem pks_take (ls : List (List Int)) (k : Nat) (hk : k < ls.length) : pks (ls.take (k + 1)) = pks (ls.take k) ++ pk (ls.getD k []) := by
  rw [List.take_succ_eq_append_getElem hk, pks_app]
  simp [pks, List.getD_eq_getElem?_getD, hk]

theorem pks_bytes : ∀ ls : List (List Int), (∀ x ∈ ls, CrcM.Bytes x ∧ x.length ≤ 500) → CrcM.Bytes (pks ls)
  | [], _ => fun x hx => by cases hx
  | x :: l, h => bytes_app (pk_bytes (h x (by simp)).1 (by have := (h x (by simp)).2; omega)) (pks_bytes l fun y hy => h y (by simp [hy]))

set_option maxRecDepth 100000 in
set_option maxHeartbeats 1000000 in
theorem back_up (a0 : Option Addr) (len0 cap0 : Nat) (a1 : Option Addr) (len1 cap1 : Nat) (w : World) (l0 : len0 ≤ 9223372036854775807) (l1 : len1 ≤ 9223372036854775807)
    (h : 10 < len0 ∨ (¬ 10 < len0 ∧ 7 < len1)) :
    Calls Try.prog 5 #[.slice a0 len0 cap0, .slice a1 len1 cap1] w fun e w' => e = .returned (.bool true) ∧ Below w.heap.size w w' := by
  have Haw := Lib.hid (awake_any w)
  rcases h with h | ⟨h, h'⟩
  all_goals
    go_enter Try.func5, Try.ntmps5
    go_wp2_with fail
    refine Haw.out.mono ?_
    rintro e w1 ⟨rfl, hb1⟩
    go_wp2_with fail
    go_ret
    exact ⟨rfl, hb1⟩

set_option maxRecDepth 100000 in
set_option maxHeartbeats 2000000 in
theorem back_in (a0 : Option Addr) (ls : List (List Int)) (len0 cap0 : Nat) (a1 : Option Addr) (b : List Int) (len1 cap1 : Nat) (w : World) (l0 : len0 ≤ 10) (l1 : len1 ≤ 7)
    (e0 : ls.length = len0) (e1 : b.length = len1) (s0 : IsL (fun _ => True) w a0 cap0 ls) (s1 : SlB w a1 b cap1) :
    Calls Try.prog 5 #[.slice a0 len0 cap0, .slice a1 len1 cap1] w fun e w' => e = .returned (.bool true) ∧ Below w.heap.size w w' := by
  have Haw := Lib.hid (awake_any w)
  have HS0 := Lib.hid s0
  have HS1 := Lib.hid s1
  have E0 := Lib.hid e0
  have E1 := Lib.hid e1
  clear s0 s1 e0 e1
  go_enter Try.func5, Try.ntmps5
  go_wp2_with fail
  refine Haw.out.mono ?_
  rintro e w1 ⟨rfl, hb1⟩
  have HB1 := Lib.hid hb1
  clear hb1 Haw
  go_wp2_with fail
  go_loopw [6, 7] (fun v i wr => ∃ k : Nat, i = .int .i64 k ∧ k ≤ len0 ∧ (∀ j, j < k → (ls.getD j []).length ≤ 500) ∧ (pks (ls.take k)).length ≤ 508 * k ∧ wr.ownsRow w1.heap.size 5 1 v (pks (ls.take k)).length (cs (pks (ls.take k))) ∧ Below w1.heap.size w1 wr) (fun _ i _ => len0 - (intOf i).toNat)
  case atStart => exact ⟨0, rfl, Nat.zero_le _, fun j hj => by omega, Nat.zero_le _, World.ownsRow_nil _ _ _ _, Below.refl _ _⟩
  case round =>
    obtain ⟨k, rfl, hk, hsm, hpl, hown, hb⟩ := hrel
    have HSm := Lib.hid hsm
    have HOwn := Lib.hid hown
    have HB := Lib.hid hb
    have hbr := hb.size
    have HBr := Lib.hid (bt HB1.out hb)
    clear hsm hown hb
    by_cases hlt : k < len0
    · have hkl : k < ls.length := by rw [E0.out]; exact hlt
      obtain ⟨bb, oo, A', c', rfl, hcell0, hsl0⟩ := HS0.out.at k hkl
      have hcell : wr.cell? ⟨bb, oo + k, none⟩ = some (.slice A' (ls.getD k []).length c') := by
        rw [HBr.out.cell (p := ⟨bb, oo + k, none⟩) (World.block_lt_of_cell? w _ hcell0)]
        exact hcell0
      have hsl := hsl0.kept HBr.out
      have hP := pks_take ls k hkl
      obtain ⟨x, hx⟩ : ∃ x, x = ls.getD k [] := ⟨_, rfl⟩
      rw [← hx] at hcell hsl hP
      have hxc := hsl.2.1
      have hxm := hsl.2.2.2
      unfold maxLen at hxm
      have hcW := fun W (hW : Below wr.heap.size wr W) => (hW.cell (p := ⟨bb, oo + k, none⟩) (World.block_lt_of_cell? wr _ hcell)).trans hcell
      have hpk := Pack_any A' x c' wr hsl
      obtain ⟨n, hn⟩ : ∃ n, n = x.length := ⟨_, rfl⟩
      rw [← hn] at hpk hcell hxc hcW
      have HCW := Lib.hid hcW
      have HPk := Lib.hid hpk
      have HX := Lib.hid hx
      have HN := Lib.hid hn
      have HP := Lib.hid hP
      have HSl := Lib.hid hsl
      clear hcW hpk hx hn hP hsl hcell0 hsl0 hkl
      by_cases h5 : n ≤ 500
      · have hpr : packR x = (pk x, true) := by rw [packR, if_pos (by have := HN.out; omega)]
        have hpk := HPk.out
        rw [hpr] at hpk
        simp only [pk_len, ← HN.out] at hpk
        have HPk2 := Lib.hid hpk
        clear hpr hpk
        go_wp2_with fail
        refine HPk2.out.mono ?_
        rintro e w2 ⟨A2, c2, rfl, h2, hB2⟩
        have hcell2 := HCW.out _ hB2
        have hown2 := own_below HOwn.out hB2
        have hz2 := hB2.size
        have H2 := Lib.hid h2
        have HOwn2 := Lib.hid hown2
        have HB2 := Lib.hid (bt HB.out hB2)
        have HB2' := Lib.hid (bt HBr.out hB2)
        clear h2 hown2 hB2 hcell
        go_wp2_with (at_builtin; refine wp_append_b rfl (.tmp 60) (.tmp 61) rfl w1.heap.size _ _ (pks (ls.take k)) rfl HOwn2.out A2 (n + 8) c2 (pk x) rfl (by rw [pk_len, HN.out]) H2.out.1 H2.out.2.2.1 (by omega) (by omega) ?_; intro v3 w3 hown3 hgrow3; refine pause ?_)
        have hB3 : Below w1.heap.size w1 w3 := HB2.out.grown hgrow3 (by omega) (fun q hq => (HOwn2.out.lt q hq).1)
        have hPl : (pks (ls.take k)).length + (n + 8) = (pks (ls.take (k + 1))).length := by rw [HP.out, List.length_append, pk_len, HN.out]
        rw [← HP.out, hPl] at hown3
        have HOwn3 := Lib.hid hown3
        have HB3 := Lib.hid hB3
        have HPl := Lib.hid hPl
        clear hown3 hgrow3 hB3 hPl hcell2
        unfold Pause
        go_wp2_with fail
        go_roundw
        case rel =>
          refine ⟨k + 1, by go_num, by omega, fun j hj => ?_, by have := HPl.out; omega, HOwn3.out, HB3.out⟩
          by_cases hjk : j < k
          · exact HSm.out j hjk
          · obtain rfl : j = k := by omega
            rw [← HX.out, ← HN.out]
            exact h5
        case measure => simp [intOf]; omega
      · by_cases h512 : n ≤ 512
        · have hpr : packR x = (pk x, true) := by rw [packR, if_pos (by have := HN.out; omega)]
          have hpk := HPk.out
          rw [hpr] at hpk
          simp only [pk_len, ← HN.out] at hpk
          have HPk2 := Lib.hid hpk
          clear hpr hpk
          go_wp2_with fail
          refine HPk2.out.mono ?_
          rintro e w2 ⟨A2, c2, rfl, h2, hB2⟩
          have hcell2 := HCW.out _ hB2
          have HB2' := Lib.hid (bt HBr.out hB2)
          clear h2 hB2 hcell
          go_wp2_with fail
          go_ret
          exact ⟨ret_bool (by first | rfl | (simp; omega)), HB2'.out⟩
        · have hpr : packR x = ([], false) := by rw [packR, if_neg (by have := HN.out; omega)]
          have hpk := HPk.out
          rw [hpr] at hpk
          simp only [List.length_nil] at hpk
          have HPk2 := Lib.hid hpk
          clear hpr hpk
          go_wp2_with fail
          refine HPk2.out.mono ?_
          rintro e w2 ⟨A2, c2, rfl, h2, hB2⟩
          have hcell2 := HCW.out _ hB2
          have HB2' := Lib.hid (bt HBr.out hB2)
          clear h2 hB2 hcell
          go_wp2_with fail
          go_ret
          exact ⟨ret_bool (by first | rfl | (simp; omega)), HB2'.out⟩
    · obtain rfl : k = len0 := by omega
      have htk : ls.take k = ls := List.take_of_length_le (by rw [E0.out]; exact Nat.le_refl _)
      have hall : ∀ x ∈ ls, CrcM.Bytes x ∧ x.length ≤ 500 := by
        intro x hx
        obtain ⟨j, hj, rfl⟩ := List.getElem_of_mem hx
        obtain ⟨_, _, _, _, _, _, hs⟩ := HS0.out.at j hj
        have hl := HSm.out j (by rw [← E0.out]; exact hj)
        have e : ls.getD j [] = ls[j] := by simp [List.getD_eq_getElem?_getD, hj]
        rw [e] at hs hl
        exact ⟨hs.1.1, hl⟩
      have hPb := pks_bytes ls hall
      have hfeed : feed' false [] (pks ls ++ b) = ⟨false, b, ls⟩ := by
        rw [feed'_live, List.nil_append]
        exact feed_pks b (by rw [E1.out]; omega) ls (fun x hx => by have := (hall x hx).2; omega)
      have hown := HOwn.out
      rw [htk] at hown hpl
      obtain ⟨P, hP⟩ : ∃ P, P = pks ls := ⟨_, rfl⟩
      rw [← hP] at hown hpl hPb hfeed
      obtain ⟨A3, c3, rfl, _, hS3, _⟩ := own_slB hown hPb
      obtain ⟨n, hn⟩ : ∃ n, n = P.length := ⟨_, rfl⟩
      rw [← hn] at hpl ⊢
      have HN := Lib.hid hn
      have HS3 := Lib.hid hS3
      have HPb := Lib.hid hPb
      have HFd := Lib.hid hfeed
      clear htk hall hPb hfeed hown hP hS3 hn HOwn
      go_wp2_with (at_builtin; refine wp_append_b rfl (.const (.slice none 0 0)) (.tmp 65) rfl wr.heap.size (.slice none 0 0) 0 [] rfl (World.ownsRow_nil _ _ _ _) A3 n c3 P rfl HN.out.symm HS3.out.1 HS3.out.2.2.1 (by omega) (Nat.le_refl _) ?_; intro v4 w4 hown4 hgrow4; refine pause ?_)
      have hB4 : Below wr.heap.size wr w4 := (Below.refl _ _).grown hgrow4 (Nat.le_refl _) (fun _ h => by cases h)
      have HOwn4 := Lib.hid hown4
      have HB4 := Lib.hid hB4
      have hz4 := hB4.size
      have HS4 := Lib.hid (HS1.out.kept (bt HBr.out hB4))
      clear hown4 hgrow4 hB4
      unfold Pause
      go_wp2_with (at_builtin; refine wp_append_b rfl (.tmp 66) (.tmp 67) rfl wr.heap.size v4 (0 + n) ([] ++ P) rfl HOwn4.out a1 len1 cap1 b rfl E1.out HS4.out.1 HS4.out.2.2.1 (by omega) hz4 ?_; intro v5 w5 hown5 hgrow5; refine pause ?_)
      have hB5 : Below wr.heap.size wr w5 := HB4.out.grown hgrow5 hz4 (fun q hq => (HOwn4.out.lt q hq).1)
      rw [List.nil_append] at hown5
      obtain ⟨A5, c5, rfl, _, hS5, _⟩ := own_slB hown5 (bytes_app HPb.out HS1.out.1.1)
      obtain ⟨Y, hY⟩ : ∃ Y, Y = P ++ b := ⟨_, rfl⟩
      have hYl : Y.length = n + len1 := by rw [hY, List.length_append, ← HN.out, E1.out]
      have hfd := HFd.out
      rw [← hY] at hS5 hfd ⊢
      rw [hYl]
      have HF := Lib.hid (Feed_later false none A5 [] Y 0 (n + len1) 0 c5 w5 (slB_none _) hS5 rfl hYl (by omega) _ hfd w5 (Below.refl _ _))
      have HB5 := Lib.hid (bt HBr.out hB5)
      clear hB5 hS5 hown5 hgrow5 hY hYl hfd
      unfold Pause
      go_wp2_with fail
      refine HF.out.mono ?_
      rintro e w6 ⟨A6, c6, V6, k6, rfl, h6, hl6, hB6⟩
      simp only [frm]
      rw [E0.out, E1.out]
      have ha7 := (Below.refl w6.heap.size w6).alloc (Nat.le_refl _) (.cells #[.slice A6 len1 c6, .bool false] 24)
      have hB7 := bt (bt HB5.out hB6) ha7
      have HBx7 := Lib.hid (box_new w6 (.slice A6 len1 c6) (.bool false))
      have hli := Lists_any a0 V6 ls ls cap0 k6 _ (HS0.out.kept hB7) (hl6.kept ha7)
      simp only [decide_true] at hli
      rw [E0.out] at hli
      have HLi := Lib.hid hli
      have HX7 := Lib.hid (h6.kept ha7)
      have HB7 := Lib.hid hB7
      clear ha7 hB7 hli h6 hl6 hB6
      go_wp2_with fail
      refine HLi.out.mono ?_
      rintro e w8 ⟨rfl, hB8⟩
      have HB8 := Lib.hid (bt HB7.out hB8)
      obtain ⟨p0, p1, p2, p3⟩ := HBx7.out.kept hB8
      have cv1 := conv_any (HX7.out.kept hB8).1 c6 9 Try.underlying9
      have cv2 := conv_any (HS1.out.kept (bt HB7.out hB8)).1 cap1 9 Try.underlying9
      simp only [E1.out] at cv1 cv2
      clear hB8
      go_wp2_with fail
      go_ret
      exact ⟨ret_bool (by first | rfl | simp), HB8.out⟩

theorem back_walk (a0 : Option Addr) (len0 cap0 : Nat) (a1 : Option Addr) (len1 cap1 : Nat) (z1 : List Int) (w : World) (w0 : RowL w a0 len0 cap0) (w1 : RowU8 w a1 len1 cap1 z1) :
    Calls Try.prog 5 #[.slice a0 len0 cap0, .slice a1 len1 cap1] w fun e w' => e = .returned (.bool true) ∧ Below w.heap.size w w' := by
  obtain ⟨ls, e0, s0⟩ := rowL_isL w0
  obtain ⟨x1, e1, s1⟩ := row_slB w1
  have m0 := s0.2.1
  have m1 := s1.2.1
  have c0 := s0.2.2.2
  have c1 := s1.2.2.2
  unfold maxLen at c0 c1
  by_cases h : 10 < len0 ∨ (¬ 10 < len0 ∧ 7 < len1)
  · exact back_up a0 len0 cap0 a1 len1 cap1 w (by omega) (by omega) h
  · exact back_in a0 ls len0 cap0 a1 x1 len1 cap1 w (by omega) (by omega) e0 e1 s0 s1
end Go.Proofs.Ytofmgbncaokmdaa.Fr
