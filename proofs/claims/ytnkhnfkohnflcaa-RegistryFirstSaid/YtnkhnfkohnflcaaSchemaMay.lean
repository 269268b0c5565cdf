/- mayField, has and May: which fields, and which schemas, may be; asked: the fields lie where the slice says. -/
import Derived.Test.YtnkhnfkohnflcaaSchemaName
import Derived.Test.YtnkhnfkohnflcaaSchemaRow
import Derived.Test.YtnkhnfkohnflcaaRegion
namespace Go.Proofs.Ytnkhnfkohnflcaa.Sc
open Go.RowKit Go.Proofs.Ytnkhnfkohnflcaa.BM Go.Proofs.Ytnkhnfkohnflcaa.VaM Go.Proofs.Ytnkhnfkohnflcaa.Va Go.Proofs.Ytnkhnfkohnflcaa.ScM

set_option maxRecDepth 100000 in
theorem mayField_any (s : ByteArray) (k : Int) (w : World) (hs : s.size ≤ maxLen) :
    Calls Try.prog 32 #[.agg #[.string s, .int .i64 k]] w fun e w' => e = .returned (.bool (decide (FOk ⟨s, k⟩))) ∧ Below w.heap.size w w' := by
  have HB := Lib.hid ((Below.refl w.heap.size w).alloc (Nat.le_refl _) (.cells #[.string s, .int .i64 k] 39))
  have HX := Lib.hid (bx2_new w 39 (.string s) (.int .i64 k))
  have HN := Lib.hid (fun W => Name_any s W hs)
  have hd : decide (FOk ⟨s, k⟩) = (decide (Nm s) && (decide (0 ≤ k) && decide (k < 4))) := by
    rw [Bool.eq_iff_iff, decide_eq_true_iff]
    simp [FOk]
  have HD := Lib.hid hd
  obtain ⟨N, hN⟩ : ∃ N, N = decide (Nm s) := ⟨_, rfl⟩
  simp only [← hN] at HN HD
  clear hd hN
  go_enter Try.func32, Try.ntmps32
  go_wp2_with fail
  refine (HN.out _).mono ?_
  rintro e w1 ⟨rfl, hb⟩
  have HB1 := Lib.hid (bt HB.out hb)
  obtain ⟨⟨p0, p1⟩, _⟩ := HX.out.kept hb
  clear hb HB HX
  cases N
  · go_wp2_with fail
    go_ret
    exact ⟨ret_v (x := .bool false) (by rw [HD.out]; rfl), HB1.out⟩
  · have hw : k < 0 ∨ (0 ≤ k ∧ k < 4) ∨ (0 ≤ k ∧ 4 ≤ k) := by omega
    rcases hw with h0 | ⟨h0, h4⟩ | ⟨h0, h4⟩
    · have d0 : decide (0 ≤ k) = false := by rw [decide_eq_false_iff_not]; omega
      go_wp2_with fail
      go_ret
      exact ⟨ret_v (x := .bool false) (by rw [HD.out]; simp [d0]), HB1.out⟩
    · go_wp2_with fail
      go_ret
      exact ⟨ret_v (x := .bool true) (by rw [HD.out]; simp [h0, h4]), HB1.out⟩
    · have d4 : decide (k < 4) = false := by rw [decide_eq_false_iff_not]; omega
      go_wp2_with fail
      go_ret
      exact ⟨ret_v (x := .bool false) (by rw [HD.out]; simp [h0, d4]), HB1.out⟩

theorem has_take {l : List F} {s : ByteArray} : ∀ {j : Nat} (_ : j ≤ l.length), (¬ Has (l.take j) s ↔ ∀ i, i < j → (l.getD i d0).s ≠ s) := by
  intro j hj
  constructor
  · intro h i hi e
    refine h ⟨l.getD i d0, ?_, e⟩
    have e2 : (l.take j).getD i d0 = l.getD i d0 := by
      rw [List.getD_eq_getElem?_getD, List.getD_eq_getElem?_getD, List.getElem?_take, if_pos hi]
    rw [← e2]
    exact getD_mem (by rw [List.length_take]; omega)
  · rintro h ⟨f, hf, e⟩
    obtain ⟨i, hi, rfl⟩ := List.getElem_of_mem hf
    rw [List.length_take] at hi
    refine h i (by omega) ?_
    rw [← e, List.getElem_take, List.getD_eq_getElem?_getD, List.getElem?_eq_getElem (by omega)]
    rfl

set_option maxRecDepth 100000 in
theorem has_any (A : Option Addr) (l : List F) (c : Nat) (s : ByteArray) (w : World) (h : SlF w A l c) :
    Calls Try.prog 33 #[.slice A l.length c, .string s] w fun e w' => e = .returned (.bool (decide (Has l s))) ∧ Below w.heap.size w w' := by
  have hl := slF_len h
  have hno : ¬ Has l s ↔ ∀ i, i < l.length → (l.getD i d0).s ≠ s := by
    have h1 := has_take (s := s) (Nat.le_refl l.length)
    rw [List.take_length] at h1
    exact h1
  obtain ⟨n, hn⟩ : ∃ n, n = l.length := ⟨_, rfl⟩
  rw [← hn] at hl hno ⊢
  have HNo := Lib.hid hno
  have HLen := Lib.hid hn
  have HS := Lib.hid h
  clear hno hn h
  go_enter Try.func33, Try.ntmps33
  go_wp2_with fail
  go_loopw [9] (fun i wr => ∃ j : Nat, i = .int .i64 j ∧ j ≤ n ∧ (∀ r, r < j → (l.getD r d0).s ≠ s) ∧ Below w.heap.size w wr) (fun i _ => n - (intOf i).toNat)
  case atStart => exact ⟨0, rfl, Nat.zero_le _, fun r hr => absurd hr (Nat.not_lt_zero r), Below.refl _ _⟩
  case round =>
    obtain ⟨j, rfl, hj, hne, hbel⟩ := hrel
    have HNe := Lib.hid hne
    have HBl := Lib.hid hbel
    clear hne hbel
    by_cases hjn : j < n
    · obtain ⟨b, q, hix, hc, _⟩ := HS.out.at j (by rw [← HLen.out]; exact hjn)
      obtain ⟨⟨fs, fk⟩, hf⟩ : ∃ f, f = l.getD j d0 := ⟨_, rfl⟩
      rw [← hf] at hc
      obtain ⟨c0, c1⟩ := hc wr HBl.out
      simp only at c0 c1
      have hi := fun W => hix W n c hjn
      have HF := Lib.hid hf
      obtain ⟨⟨p0, p1⟩, _⟩ := bx2_new wr 39 (.string fs) (.int .i64 fk)
      have HB2 := Lib.hid (bt HBl.out ((Below.refl wr.heap.size wr).alloc (Nat.le_refl _) (.cells #[.string fs, .int .i64 fk] 39)))
      clear hc hix hf
      by_cases he : fs = s
      · have hee : (fs.toList == s.toList) = true := by rw [he]; simp
        have HY := Lib.hid (show Has l s from Classical.byContradiction fun hh => HNo.out.1 hh j hjn (by rw [← HF.out]; exact he))
        clear he
        go_wp2_with fail
        go_ret
        exact ⟨ret_v (x := .bool true) (by rw [decide_eq_true HY.out]), HB2.out⟩
      · have hee := str_ne he
        have HX := Lib.hid he
        clear he
        go_wp2_with fail
        go_roundw
        case rel =>
          refine ⟨j + 1, by go_num, by omega, fun r hr => ?_, HB2.out⟩
          by_cases e : r = j
          · rw [e, ← HF.out]
            exact HX.out
          · exact HNe.out r (by omega)
        case measure => simp [intOf]; omega
    · obtain rfl : j = n := by omega
      have HY := Lib.hid (HNo.out.2 HNe.out)
      go_wp2_with fail
      go_ret
      exact ⟨ret_v (x := .bool false) (by rw [decide_eq_false HY.out]), HBl.out⟩

set_option maxRecDepth 100000 in
set_option maxHeartbeats 2000000 in
theorem May_any (s : Sc) (A : Option Addr) (c : Nat) (w : World) (hS : SlF w A s.f c) (hz : Fine s) :
    Calls Try.prog 21 #[.agg #[.string s.s, .int .i64 s.v, .slice A s.f.length c]] w fun e w' => e = .returned (.bool (decide (May s))) ∧ Below w.heap.size w w' := by
  obtain ⟨nm, v, l⟩ := s
  simp only at hS ⊢
  have hl := slF_len hS
  have hcap := hS.2.1
  have HN := Lib.hid (fun W => Name_any nm W hz.1)
  have hmay : May ⟨nm, v, l⟩ ↔ Nm nm ∧ 1 ≤ v ∧ v ≤ 1000 ∧ l.length ≤ 6 ∧ Gd l l.length := Iff.rfl
  obtain ⟨n, hn⟩ : ∃ n, n = l.length := ⟨_, rfl⟩
  rw [← hn] at hl hmay hcap ⊢
  have HLen := Lib.hid hn
  have HS := Lib.hid hS
  have HMay := Lib.hid hmay
  have HX0 := Lib.hid (bx_new_t w 25 (.string nm) (.int .i64 v) (.slice A n c))
  have HB0 := Lib.hid ((Below.refl w.heap.size w).alloc (Nat.le_refl _) (.cells #[.string nm, .int .i64 v, .slice A n c] 25))
  clear hn hS hmay hz
  go_enter Try.func21, Try.ntmps21
  go_wp2_with fail
  refine (HN.out _).mono ?_
  rintro e w1 ⟨rfl, hb1⟩
  have HX1 := Lib.hid (HX0.out.kept hb1)
  have HB1 := Lib.hid (bt HB0.out hb1)
  obtain ⟨⟨p0, p1, p2⟩, _⟩ := HX1.out
  clear hb1 HX0 HB0 HN
  have hways : ¬ Nm nm ∨ (Nm nm ∧ v < 1) ∨ (Nm nm ∧ 1 ≤ v ∧ 1000 < v) ∨ (Nm nm ∧ 1 ≤ v ∧ v ≤ 1000 ∧ 6 < n) ∨ (Nm nm ∧ 1 ≤ v ∧ v ≤ 1000 ∧ n ≤ 6) := by
    by_cases h : Nm nm
    · simp only [h, true_and, not_true, false_or]
      omega
    · exact Or.inl h
  rcases hways with m1 | ⟨m1, m2⟩ | ⟨m1, m2, m3⟩ | ⟨m1, m2, m3, m4⟩ | ⟨m1, m2, m3, m4⟩
  · rw [decide_eq_false m1]
    have HM := Lib.hid (show ¬ May ⟨nm, v, l⟩ from fun h => m1 (HMay.out.1 h).1)
    clear m1
    go_wp2_with fail
    go_ret
    exact ⟨ret_v (x := .bool false) (by rw [decide_eq_false HM.out]), HB1.out⟩
  · rw [decide_eq_true m1]
    have HM := Lib.hid (show ¬ May ⟨nm, v, l⟩ from fun h => by have := (HMay.out.1 h).2.1; omega)
    clear m1
    go_wp2_with fail
    go_ret
    exact ⟨ret_v (x := .bool false) (by rw [decide_eq_false HM.out]), HB1.out⟩
  · rw [decide_eq_true m1]
    have HM := Lib.hid (show ¬ May ⟨nm, v, l⟩ from fun h => by have := (HMay.out.1 h).2.2.1; omega)
    clear m1
    go_wp2_with fail
    go_ret
    exact ⟨ret_v (x := .bool false) (by rw [decide_eq_false HM.out]), HB1.out⟩
  · rw [decide_eq_true m1]
    have HM := Lib.hid (show ¬ May ⟨nm, v, l⟩ from fun h => by have := (HMay.out.1 h).2.2.2.1; omega)
    clear m1
    go_wp2_with fail
    go_ret
    exact ⟨ret_v (x := .bool false) (by rw [decide_eq_false HM.out]), HB1.out⟩
  · rw [decide_eq_true m1]
    have HM := Lib.hid (show May ⟨nm, v, l⟩ ↔ Gd l n from ⟨fun h => (HMay.out.1 h).2.2.2.2, fun h => HMay.out.2 ⟨m1, m2, m3, m4, h⟩⟩)
    clear m1 HMay
    go_wp2_with fail
    clear p0 p1 p2
    go_loopw [28] (fun i wr => ∃ j : Nat, i = .int .i64 j ∧ j ≤ n ∧ Gd l j ∧ Below w1.heap.size w1 wr) (fun i _ => n - (intOf i).toNat)
    case atStart => exact ⟨0, rfl, Nat.zero_le _, fun r hr => absurd hr (Nat.not_lt_zero r), Below.refl _ _⟩
    case round =>
      obtain ⟨j, rfl, hj, hgood, hbel⟩ := hrel
      have HG := Lib.hid hgood
      have HBl := Lib.hid hbel
      clear hgood hbel
      by_cases hjn : j < n
      · obtain ⟨b, q, hix, hc, hsz⟩ := HS.out.at j (by rw [← HLen.out]; exact hjn)
        have hiff : GdAt l j ↔ FOk (l.getD j d0) ∧ ¬ Has (l.take j) (l.getD j d0).s := Iff.rfl
        obtain ⟨⟨fs, fk⟩, hf⟩ : ∃ f, f = l.getD j d0 := ⟨_, rfl⟩
        rw [← hf] at hc hsz hiff
        obtain ⟨c0, c1⟩ := hc wr (bt HB1.out HBl.out)
        simp only at c0 c1 hsz hiff
        have hi := fun W => hix W n c hjn
        have HIff := Lib.hid hiff
        have HF := Lib.hid (fun W => mayField_any fs fk W hsz)
        have ha2 := (Below.refl wr.heap.size wr).alloc (Nat.le_refl _) (.cells #[.string fs, .int .i64 fk] 39)
        have HX2 := Lib.hid ((HX1.out.kept HBl.out).kept ha2)
        have HY2 := Lib.hid (bx2_new wr 39 (.string fs) (.int .i64 fk))
        have HB2 := Lib.hid (bt HBl.out ha2)
        have hlt : (l.take j).length = j := by rw [List.length_take, ← HLen.out]; omega
        have hHas := fun W (hW : Below w.heap.size w W) => has_any A (l.take j) c fs W ((HS.out.take j).kept hW)
        simp only [hlt] at hHas
        have HHas := Lib.hid hHas
        have hcut := fun W => cut_f W A n c j (by omega)
        clear hc hix hf ha2 hiff hlt hHas
        go_wp2_with fail
        obtain ⟨b2, hb2⟩ : ∃ b2, b2 = wr.heap.size := ⟨_, rfl⟩
        obtain ⟨w2, hw2⟩ : ∃ w2, w2 = wr.alloc (.cells #[.string fs, .int .i64 fk] 39) := ⟨_, rfl⟩
        rw [← hw2] at HX2 HY2 HB2 ⊢
        rw [← hb2] at HY2 ⊢
        clear hw2 hb2 c0 c1 hi
        by_cases hok : FOk ⟨fs, fk⟩
        · rw [decide_eq_true hok] at HF
          have HOk := Lib.hid hok
          clear hok
          refine Reg.G_start (by kernel_rfl) (by repeat (first | exact Reg.frameless_bodyPost | refine Reg.frameless_then ?_ | refine Reg.frameless_inBlock ?_)) (fun W hW => ?_)
          obtain ⟨⟨y0, y1⟩, _⟩ := HY2.out
          have x0 := Reg.later_cell hW y0
          have x1 := Reg.later_cell hW y1
          clear y0 y1
          first | (refine Reg.G_step (i := 0) rfl (by kernel_rfl) (by rfl) (fun K hK => ?_); go_big_quiet_op; refine hK _ ?_; clear hK K) | (refine Reg.G_skip (i := 0) rfl (by kernel_rfl) (by rfl) ?_; simp only [Act.put, List.setIfInBounds_toArray, List.set_cons_zero, List.set_cons_succ])
          refine Reg.G_event (i := 1) rfl (by kernel_rfl) (by rfl) (fun K hK => ?_)
          go_simp
          refine (HF.out _).mono ?_
          rintro e v0 ⟨rfl, hv0⟩
          refine hK _ _ hv0 ?_
          clear hK K x0 x1
          have hw0 := bt hW hv0
          obtain ⟨⟨y0, _⟩, _⟩ := HY2.out.kept hW
          obtain ⟨⟨_, _, z2⟩, _⟩ := HX2.out.kept hW
          have x0 := Reg.later_cell hv0 y0
          have x2 := Reg.later_cell hv0 z2
          clear y0 z2
          first | (refine Reg.G_step (i := 2) rfl (by kernel_rfl) (by rfl) (fun K hK => ?_); go_big_quiet_op; refine hK _ ?_; clear hK K) | (refine Reg.G_skip (i := 2) rfl (by kernel_rfl) (by rfl) ?_; simp only [Act.put, List.setIfInBounds_toArray, List.set_cons_zero, List.set_cons_succ])
          first | (refine Reg.G_step (i := 3) rfl (by kernel_rfl) (by rfl) (fun K hK => ?_); go_big_quiet_op; refine hK _ ?_; clear hK K) | (refine Reg.G_skip (i := 3) rfl (by kernel_rfl) (by rfl) ?_; simp only [Act.put, List.setIfInBounds_toArray, List.set_cons_zero, List.set_cons_succ])
          first | (refine Reg.G_step (i := 4) rfl (by kernel_rfl) (by rfl) (fun K hK => ?_); go_big_quiet_op; refine hK _ ?_; clear hK K) | (refine Reg.G_skip (i := 4) rfl (by kernel_rfl) (by rfl) ?_; simp only [Act.put, List.setIfInBounds_toArray, List.set_cons_zero, List.set_cons_succ])
          first | (refine Reg.G_step (i := 5) rfl (by kernel_rfl) (by rfl) (fun K hK => ?_); go_big_quiet_op; refine hK _ ?_; clear hK K) | (refine Reg.G_skip (i := 5) rfl (by kernel_rfl) (by rfl) ?_; simp only [Act.put, List.setIfInBounds_toArray, List.set_cons_zero, List.set_cons_succ])
          first | (refine Reg.G_step (i := 6) rfl (by kernel_rfl) (by rfl) (fun K hK => ?_); go_big_quiet_op; refine hK _ ?_; clear hK K) | (refine Reg.G_skip (i := 6) rfl (by kernel_rfl) (by rfl) ?_; simp only [Act.put, List.setIfInBounds_toArray, List.set_cons_zero, List.set_cons_succ])
          first | (refine Reg.G_step (i := 7) rfl (by kernel_rfl) (by rfl) (fun K hK => ?_); go_big_quiet_op; refine hK _ ?_; clear hK K) | (refine Reg.G_skip (i := 7) rfl (by kernel_rfl) (by rfl) ?_; simp only [Act.put, List.setIfInBounds_toArray, List.set_cons_zero, List.set_cons_succ])
          first | (refine Reg.G_step (i := 8) rfl (by kernel_rfl) (by rfl) (fun K hK => ?_); go_big_quiet_op; refine hK _ ?_; clear hK K) | (refine Reg.G_skip (i := 8) rfl (by kernel_rfl) (by rfl) ?_; simp only [Act.put, List.setIfInBounds_toArray, List.set_cons_zero, List.set_cons_succ])
          first | (refine Reg.G_step (i := 9) rfl (by kernel_rfl) (by rfl) (fun K hK => ?_); go_big_quiet_op; refine hK _ ?_; clear hK K) | (refine Reg.G_skip (i := 9) rfl (by kernel_rfl) (by rfl) ?_; simp only [Act.put, List.setIfInBounds_toArray, List.set_cons_zero, List.set_cons_succ])
          refine Reg.G_event (i := 10) rfl (by kernel_rfl) (by rfl) (fun K hK => ?_)
          go_simp
          refine (HHas.out _ (bt HB1.out (bt HB2.out hw0))).mono ?_
          rintro e v1 ⟨rfl, hv1⟩
          refine hK _ _ hv1 ?_
          clear hK K x0 x2
          have hw1 := bt hw0 hv1
          first | (refine Reg.G_step (i := 11) rfl (by kernel_rfl) (by rfl) (fun K hK => ?_); go_big_quiet_op; refine hK _ ?_; clear hK K) | (refine Reg.G_skip (i := 11) rfl (by kernel_rfl) (by rfl) ?_; simp only [Act.put, List.setIfInBounds_toArray, List.set_cons_zero, List.set_cons_succ])
          refine Reg.G_done (by kernel_rfl) ?_
          have HB3 := Lib.hid (bt HB2.out hw1)
          by_cases hh : Has (l.take j) fs
          · rw [decide_eq_true hh]
            have HNo := Lib.hid (show ¬ May ⟨nm, v, l⟩ from fun h => (HIff.out.1 (HM.out.1 h j hjn)).2 hh)
            clear hh hw0 hw1 hv0 hv1 hW
            go_wp2_with fail
            go_ret
            exact ⟨ret_v (x := .bool false) (by rw [decide_eq_false HNo.out]), bt HB1.out HB3.out⟩
          · rw [decide_eq_false hh]
            have HGo := Lib.hid (HG.out.succ (HIff.out.2 ⟨HOk.out, hh⟩))
            clear hh hw0 hw1 hv0 hv1 hW
            go_wp2_with fail
            go_roundw
            case rel => exact ⟨j + 1, by go_num, by omega, HGo.out, HB3.out⟩
            case measure => simp [intOf]; omega
        · rw [decide_eq_false hok] at HF
          have HNo := Lib.hid (show ¬ May ⟨nm, v, l⟩ from fun h => hok (HIff.out.1 (HM.out.1 h j hjn)).1)
          clear hok
          refine Reg.G_start (by kernel_rfl) (by repeat (first | exact Reg.frameless_bodyPost | refine Reg.frameless_then ?_ | refine Reg.frameless_inBlock ?_)) (fun W hW => ?_)
          obtain ⟨⟨y0, y1⟩, _⟩ := HY2.out
          have x0 := Reg.later_cell hW y0
          have x1 := Reg.later_cell hW y1
          clear y0 y1
          first | (refine Reg.G_step (i := 0) rfl (by kernel_rfl) (by rfl) (fun K hK => ?_); go_big_quiet_op; refine hK _ ?_; clear hK K) | (refine Reg.G_skip (i := 0) rfl (by kernel_rfl) (by rfl) ?_; simp only [Act.put, List.setIfInBounds_toArray, List.set_cons_zero, List.set_cons_succ])
          refine Reg.G_event (i := 1) rfl (by kernel_rfl) (by rfl) (fun K hK => ?_)
          go_simp
          refine (HF.out _).mono ?_
          rintro e v0 ⟨rfl, hv0⟩
          refine hK _ _ hv0 ?_
          clear hK K x0 x1
          have hw0 := bt hW hv0
          first | (refine Reg.G_step (i := 2) rfl (by kernel_rfl) (by rfl) (fun K hK => ?_); go_big_quiet_op; refine hK _ ?_; clear hK K) | (refine Reg.G_skip (i := 2) rfl (by kernel_rfl) (by rfl) ?_; simp only [Act.put, List.setIfInBounds_toArray, List.set_cons_zero, List.set_cons_succ])
          first | (refine Reg.G_step (i := 3) rfl (by kernel_rfl) (by rfl) (fun K hK => ?_); go_big_quiet_op; refine hK _ ?_; clear hK K) | (refine Reg.G_skip (i := 3) rfl (by kernel_rfl) (by rfl) ?_; simp only [Act.put, List.setIfInBounds_toArray, List.set_cons_zero, List.set_cons_succ])
          first | (refine Reg.G_step (i := 4) rfl (by kernel_rfl) (by rfl) (fun K hK => ?_); go_big_quiet_op; refine hK _ ?_; clear hK K) | (refine Reg.G_skip (i := 4) rfl (by kernel_rfl) (by rfl) ?_; simp only [Act.put, List.setIfInBounds_toArray, List.set_cons_zero, List.set_cons_succ])
          first | (refine Reg.G_step (i := 5) rfl (by kernel_rfl) (by rfl) (fun K hK => ?_); go_big_quiet_op; refine hK _ ?_; clear hK K) | (refine Reg.G_skip (i := 5) rfl (by kernel_rfl) (by rfl) ?_; simp only [Act.put, List.setIfInBounds_toArray, List.set_cons_zero, List.set_cons_succ])
          first | (refine Reg.G_step (i := 6) rfl (by kernel_rfl) (by rfl) (fun K hK => ?_); go_big_quiet_op; refine hK _ ?_; clear hK K) | (refine Reg.G_skip (i := 6) rfl (by kernel_rfl) (by rfl) ?_; simp only [Act.put, List.setIfInBounds_toArray, List.set_cons_zero, List.set_cons_succ])
          first | (refine Reg.G_step (i := 7) rfl (by kernel_rfl) (by rfl) (fun K hK => ?_); go_big_quiet_op; refine hK _ ?_; clear hK K) | (refine Reg.G_skip (i := 7) rfl (by kernel_rfl) (by rfl) ?_; simp only [Act.put, List.setIfInBounds_toArray, List.set_cons_zero, List.set_cons_succ])
          first | (refine Reg.G_step (i := 8) rfl (by kernel_rfl) (by rfl) (fun K hK => ?_); go_big_quiet_op; refine hK _ ?_; clear hK K) | (refine Reg.G_skip (i := 8) rfl (by kernel_rfl) (by rfl) ?_; simp only [Act.put, List.setIfInBounds_toArray, List.set_cons_zero, List.set_cons_succ])
          first | (refine Reg.G_step (i := 9) rfl (by kernel_rfl) (by rfl) (fun K hK => ?_); go_big_quiet_op; refine hK _ ?_; clear hK K) | (refine Reg.G_skip (i := 9) rfl (by kernel_rfl) (by rfl) ?_; simp only [Act.put, List.setIfInBounds_toArray, List.set_cons_zero, List.set_cons_succ])
          refine Reg.G_skip (i := 10) rfl (by kernel_rfl) (by rfl) ?_
          simp only [Act.put, List.setIfInBounds_toArray, List.set_cons_zero, List.set_cons_succ]
          first | (refine Reg.G_step (i := 11) rfl (by kernel_rfl) (by rfl) (fun K hK => ?_); go_big_quiet_op; refine hK _ ?_; clear hK K) | (refine Reg.G_skip (i := 11) rfl (by kernel_rfl) (by rfl) ?_; simp only [Act.put, List.setIfInBounds_toArray, List.set_cons_zero, List.set_cons_succ])
          refine Reg.G_done (by kernel_rfl) ?_
          have HB3 := Lib.hid (bt HB2.out hw0)
          clear hw0 hv0 hW
          go_wp2_with fail
          go_ret
          exact ⟨ret_v (x := .bool false) (by rw [decide_eq_false HNo.out]), bt HB1.out HB3.out⟩
      · obtain rfl : j = n := by omega
        have HYes := Lib.hid (HM.out.2 HG.out)
        go_wp2_with fail
        go_ret
        exact ⟨ret_v (x := .bool true) (by rw [decide_eq_true HYes.out]), bt HB1.out HBl.out⟩
end Go.Proofs.Ytnkhnfkohnflcaa.Sc
