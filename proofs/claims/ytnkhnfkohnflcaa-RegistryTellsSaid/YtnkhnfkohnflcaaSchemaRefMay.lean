/- May, Same and Fits of the document's answers; asked: the fields lie where the slices say. -/
import Derived.Test.YtnkhnfkohnflcaaSchemaMay
namespace Go.Proofs.Ytnkhnfkohnflcaa.Sc
open Go.RowKit Go.Proofs.Ytnkhnfkohnflcaa.BM Go.Proofs.Ytnkhnfkohnflcaa.VaM Go.Proofs.Ytnkhnfkohnflcaa.Va Go.Proofs.Ytnkhnfkohnflcaa.ScM

set_option maxRecDepth 100000 in
set_option maxHeartbeats 4000000 in
theorem refMay_any (s : Sc) (A : Option Addr) (c : Nat) (w : World) (hS : SlF w A s.f c) (hz : Fine s) :
    Calls Try.prog 25 #[.agg #[.string s.s, .int .i64 s.v, .slice A s.f.length c]] w fun e w' => e = .returned (.bool (decide (May s))) ∧ Below w.heap.size w w' := by
  obtain ⟨nm, v, l⟩ := s
  simp only at hS ⊢
  have hl := slF_len hS
  have HN := Lib.hid (fun W => refName_any nm W hz.1)
  have hmay : May ⟨nm, v, l⟩ ↔ Nm nm ∧ 1 ≤ v ∧ v ≤ 1000 ∧ l.length ≤ 6 ∧ Gd l l.length := Iff.rfl
  obtain ⟨n, hn⟩ : ∃ n, n = l.length := ⟨_, rfl⟩
  rw [← hn] at hl hmay ⊢
  have HLen := Lib.hid hn
  have HS := Lib.hid hS
  have HMay := Lib.hid hmay
  have HX0 := Lib.hid (bx_new_t w 25 (.string nm) (.int .i64 v) (.slice A n c))
  have HB0 := Lib.hid ((Below.refl w.heap.size w).alloc (Nat.le_refl _) (.cells #[.string nm, .int .i64 v, .slice A n c] 25))
  clear hn hS hmay hz
  obtain ⟨⟨p0, p1, p2⟩, _⟩ := HX0.out
  go_enter Try.func25, Try.ntmps25
  go_wp2_with fail
  refine (HN.out _).mono ?_
  rintro e w1 ⟨rfl, rfl⟩
  obtain ⟨w1, hw1⟩ : ∃ w1, w1 = w.alloc (.cells #[.string nm, .int .i64 v, .slice A n c] 25) := ⟨_, rfl⟩
  rw [← hw1] at HB0 HX0 p0 p1 p2 ⊢
  clear HN hw1
  have hways : ¬ Nm nm ∨ (Nm nm ∧ v < 1) ∨ (Nm nm ∧ 1 ≤ v ∧ 1000 < v) ∨ (Nm nm ∧ 1 ≤ v ∧ v ≤ 1000 ∧ 6 < n) ∨ (Nm nm ∧ 1 ≤ v ∧ v ≤ 1000 ∧ n ≤ 6) := by
    by_cases h : Nm nm
    · simp only [h, true_and, not_true, false_or]
      omega
    · exact Or.inl h
  rcases hways with m1 | ⟨m1, m2⟩ | ⟨m1, m2, m3⟩ | ⟨m1, m2, m3, m4⟩ | ⟨m1, m2, m3, m4⟩
  · rw [decide_eq_false m1]
    have HM := Lib.hid (show ¬ May ⟨nm, v, l⟩ from fun h => m1 (HMay.out.1 h).1)
    clear m1
    go_wp2_with fail
    go_ret
    exact ⟨ret_v (x := .bool false) (by rw [decide_eq_false HM.out]), HB0.out⟩
  · rw [decide_eq_true m1]
    have HM := Lib.hid (show ¬ May ⟨nm, v, l⟩ from fun h => by have := (HMay.out.1 h).2.1; omega)
    clear m1
    go_wp2_with fail
    go_ret
    exact ⟨ret_v (x := .bool false) (by rw [decide_eq_false HM.out]), HB0.out⟩
  · rw [decide_eq_true m1]
    have HM := Lib.hid (show ¬ May ⟨nm, v, l⟩ from fun h => by have := (HMay.out.1 h).2.2.1; omega)
    clear m1
    go_wp2_with fail
    go_ret
    exact ⟨ret_v (x := .bool false) (by rw [decide_eq_false HM.out]), HB0.out⟩
  · rw [decide_eq_true m1]
    have HM := Lib.hid (show ¬ May ⟨nm, v, l⟩ from fun h => by have := (HMay.out.1 h).2.2.2.1; omega)
    clear m1
    go_wp2_with fail
    go_ret
    exact ⟨ret_v (x := .bool false) (by rw [decide_eq_false HM.out]), HB0.out⟩
  · rw [decide_eq_true m1]
    have HM := Lib.hid (show May ⟨nm, v, l⟩ ↔ Gd l n from ⟨fun h => (HMay.out.1 h).2.2.2.2, fun h => HMay.out.2 ⟨m1, m2, m3, m4, h⟩⟩)
    clear m1 HMay
    go_wp2_with fail
    clear p0 p1 p2
    go_loopw [4] (fun i wr => ∃ j : Nat, i = .int .i64 j ∧ j ≤ n ∧ Gd l j ∧ Below w1.heap.size w1 wr) (fun i _ => n - (intOf i).toNat)
    case atStart => exact ⟨0, rfl, Nat.zero_le _, fun r hr => absurd hr (Nat.not_lt_zero r), Below.refl _ _⟩
    case round =>
      obtain ⟨j, rfl, hj, hgood, hbel⟩ := hrel
      have HG := Lib.hid hgood
      have HBl := Lib.hid hbel
      clear hgood hbel
      obtain ⟨⟨_, _, x2⟩, _⟩ := HX0.out.kept HBl.out
      by_cases hjn : j < n
      · obtain ⟨b, q, hix, hc, hsz⟩ := HS.out.at j (by rw [← HLen.out]; exact hjn)
        have hiff : GdAt l j ↔ FOk (l.getD j d0) ∧ ¬ Has (l.take j) (l.getD j d0).s := Iff.rfl
        obtain ⟨⟨fs, fk⟩, hf⟩ : ∃ f, f = l.getD j d0 := ⟨_, rfl⟩
        rw [← hf] at hc hsz hiff
        obtain ⟨c0, c1⟩ := hc wr (bt HB0.out HBl.out)
        simp only at c0 c1 hsz hiff
        rw [has_take (by rw [← HLen.out]; exact hj)] at hiff
        have hi := fun W => hix W n c hjn
        have HIff := Lib.hid hiff
        have HC := Lib.hid hc
        have HNf := Lib.hid (fun W => refName_any fs W hsz)
        clear hc hix hf hiff
        go_wp2_with fail
        refine (HNf.out _).mono ?_
        rintro e w2 ⟨rfl, rfl⟩
        have hfw : ¬ Nm fs ∨ (Nm fs ∧ fk < 0) ∨ (Nm fs ∧ 0 ≤ fk ∧ 4 ≤ fk) ∨ (Nm fs ∧ 0 ≤ fk ∧ fk < 4) := by
          by_cases h : Nm fs
          · simp only [h, true_and, not_true, false_or]
            omega
          · exact Or.inl h
        rcases hfw with k1 | ⟨k1, k2⟩ | ⟨k1, k2, k3⟩ | ⟨k1, k2, k3⟩
        · rw [decide_eq_false k1]
          have HNo := Lib.hid (show ¬ May ⟨nm, v, l⟩ from fun h => k1 (HIff.out.1 (HM.out.1 h j hjn)).1.1)
          clear k1
          go_wp2_with fail
          go_ret
          exact ⟨ret_v (x := .bool false) (by rw [decide_eq_false HNo.out]), bt HB0.out HBl.out⟩
        · rw [decide_eq_true k1]
          have HNo := Lib.hid (show ¬ May ⟨nm, v, l⟩ from fun h => by have := (HIff.out.1 (HM.out.1 h j hjn)).1.2.1; simp only at this; omega)
          clear k1
          go_wp2_with fail
          go_ret
          exact ⟨ret_v (x := .bool false) (by rw [decide_eq_false HNo.out]), bt HB0.out HBl.out⟩
        · rw [decide_eq_true k1]
          have HNo := Lib.hid (show ¬ May ⟨nm, v, l⟩ from fun h => by have := (HIff.out.1 (HM.out.1 h j hjn)).1.2.2; simp only at this; omega)
          clear k1
          go_wp2_with fail
          go_ret
          exact ⟨ret_v (x := .bool false) (by rw [decide_eq_false HNo.out]), bt HB0.out HBl.out⟩
        · have HOk := Lib.hid (show FOk ⟨fs, fk⟩ from ⟨k1, k2, k3⟩)
          rw [decide_eq_true k1]
          clear k1
          go_wp2_with fail
          clear c0 c1 x2
          go_loopw [6] (fun i wt => ∃ r : Nat, i = .int .i64 r ∧ r ≤ j ∧ (∀ x, x < r → (l.getD x d0).s ≠ fs) ∧ Below w1.heap.size w1 wt) (fun i _ => j - (intOf i).toNat)
          case atStart => exact ⟨0, rfl, Nat.zero_le _, fun r hr => absurd hr (Nat.not_lt_zero r), HBl.out⟩
          case round =>
            obtain ⟨r, rfl, hr, hne, hbel⟩ := hrel
            have HNe := Lib.hid hne
            have HBt := Lib.hid hbel
            clear hne hbel
            by_cases hrj : r < j
            · obtain ⟨b', q', hix', hc', _⟩ := HS.out.at r (by rw [← HLen.out]; omega)
              obtain ⟨⟨gs, gk⟩, hg⟩ : ∃ f, f = l.getD r d0 := ⟨_, rfl⟩
              rw [← hg] at hc'
              have HGs := Lib.hid hg
              have hi' := fun W => hix' W n c (by omega)
              obtain ⟨⟨_, _, x2⟩, _⟩ := HX0.out.kept HBt.out
              obtain ⟨c0, _⟩ := HC.out wr (bt HB0.out HBt.out)
              obtain ⟨g0, _⟩ := hc' wr (bt HB0.out HBt.out)
              simp only at c0 g0
              clear hc' hix' hg
              by_cases he : gs = fs
              · have hee : (gs.toList == fs.toList) = true := by rw [he]; simp
                have HNo := Lib.hid (show ¬ May ⟨nm, v, l⟩ from fun h => (HIff.out.1 (HM.out.1 h j hjn)).2 r hrj (by rw [← HGs.out]; exact he))
                clear he
                go_wp2_with fail
                go_quiet (fail)
                go_wp2_with fail
                go_ret
                exact ⟨ret_v (x := .bool false) (by rw [decide_eq_false HNo.out]), below_drewN (bt HB0.out HBt.out) _⟩
              · have hee := str_ne he
                have HE := Lib.hid he
                clear he
                go_wp2_with fail
                go_quiet (fail)
                go_wp2_with fail
                go_roundw
                case rel =>
                  refine ⟨r + 1, by go_num, by omega, fun x hx => ?_, below_drewN HBt.out _⟩
                  by_cases e : x = r
                  · rw [e, ← HGs.out]
                    exact HE.out
                  · exact HNe.out x (by omega)
                case measure => simp [intOf]; omega
            · obtain rfl : r = j := by omega
              have HGo := Lib.hid (HG.out.succ (HIff.out.2 ⟨HOk.out, HNe.out⟩))
              go_wp2_with fail
              go_roundw
              case rel => exact ⟨r + 1, by go_num, by omega, HGo.out, HBt.out⟩
              case measure => simp [intOf]; omega
      · obtain rfl : j = n := by omega
        have HYes := Lib.hid (HM.out.2 HG.out)
        go_wp2_with fail
        go_ret
        exact ⟨ret_v (x := .bool true) (by rw [decide_eq_true HYes.out]), bt HB0.out HBl.out⟩
end Go.Proofs.Ytnkhnfkohnflcaa.Sc
