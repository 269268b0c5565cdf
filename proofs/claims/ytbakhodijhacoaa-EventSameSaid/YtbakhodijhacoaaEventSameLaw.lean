/- The walk of EventSame: an event is the same as itself; at another time it is not; what is put of two that may be is the same just if they are; the events' parts lie where they say. -/
import Derived.Test.YtbakhodijhacoaaEventAwake
import Derived.Test.YtbakhodijhacoaaEventFew
import Derived.Test.YtbakhodijhacoaaEventSame
import Derived.Test.YtbakhodijhacoaaOpenEvent
namespace Go.Proofs.Ytbakhodijhacoaa.Ev
open Go.RowKit Go.Proofs.Ytbakhodijhacoaa.BM Go.Proofs.Ytbakhodijhacoaa.LM Go.Proofs.Ytbakhodijhacoaa.EvM
open Go.Proofs.Ytbakhodijhacoaa.VaM (V e0)
open Go.Proofs.Ytbakhodijhacoaa.Va (SlV slV_len bx_new_t Bx ret_v)

/-- Two events that came in, as the walk meets them. -/
structure Two (w : World) (s1 s2 : ByteArray) (v1 v2 : Int) (a1 a2 : Option Addr) (n1 n2 c1 c2 : Nat) (l1 l2 : List V) : Prop where
  e1 : l1.length = n1
  e2 : l2.length = n2
  h1 : SlV w a1 l1 c1
  h2 : SlV w a2 l2 c2
  f1 : Fine ⟨s1, v1, l1⟩
  f2 : Fine ⟨s2, v2, l2⟩

set_option maxRecDepth 100000 in
set_option maxHeartbeats 8000000 in
theorem same_walk' (s1 s2 : ByteArray) (v1 v2 : Int) (a1 a2 : Option Addr) (n1 n2 c1 c2 : Nat) (l1 l2 : List V) (w : World) (h : Two w s1 s2 v1 v2 a1 a2 n1 n2 c1 c2 l1 l2) :
    Calls Try.prog 7 #[.agg #[.string s1, .int .i64 v1, .slice a1 n1 c1], .agg #[.string s2, .int .i64 v2, .slice a2 n2 c2]] w fun e w' => e = .returned (.bool true) ∧ Below w.heap.size w w' := by
  have hF1 := fun W (hW : Below w.heap.size w W) => Few_any ⟨s1, v1, l1⟩ a1 c1 W (h.h1.kept hW) h.f1.1
  have hF2 := fun W (hW : Below w.heap.size w W) => Few_any ⟨s2, v2, l2⟩ a2 c2 W (h.h2.kept hW) h.f2.1
  have hP1 := fun W (hW : Below w.heap.size w W) => Put_any ⟨s1, v1, l1⟩ a1 c1 W (h.h1.kept hW) h.f1
  have hP2 := fun W (hW : Below w.heap.size w W) => Put_any ⟨s2, v2, l2⟩ a2 c2 W (h.h2.kept hW) h.f2
  have hvc : wrap64 (v1 + 1) ≠ v1 := by
    have h1 := h.f1.2.1
    have h2 := h.f1.2.2
    simp only at h1 h2
    unfold wrap64
    omega
  have hnc : (⟨s1, v1, l1⟩ : Ev) ≠ ⟨s1, wrap64 (v1 + 1), l1⟩ := fun e => hvc (congrArg Ev.t e).symm
  have hSab := fun W (hW : Below w.heap.size w W) => Same_any ⟨s1, v1, l1⟩ ⟨s2, v2, l2⟩ a1 c1 a2 c2 W (h.h1.kept hW) (h.h2.kept hW)
  have hSba := fun W (hW : Below w.heap.size w W) => Same_any ⟨s2, v2, l2⟩ ⟨s1, v1, l1⟩ a2 c2 a1 c1 W (h.h2.kept hW) (h.h1.kept hW)
  have hSaa := fun W (hW : Below w.heap.size w W) => Same_any ⟨s1, v1, l1⟩ ⟨s1, v1, l1⟩ a1 c1 a1 c1 W (h.h1.kept hW) (h.h1.kept hW)
  have hSac := fun W (hW : Below w.heap.size w W) => Same_any ⟨s1, v1, l1⟩ ⟨s1, wrap64 (v1 + 1), l1⟩ a1 c1 a1 c1 W (h.h1.kept hW) (h.h1.kept hW)
  have hcomm : decide ((⟨s2, v2, l2⟩ : Ev) = ⟨s1, v1, l1⟩) = decide ((⟨s1, v1, l1⟩ : Ev) = ⟨s2, v2, l2⟩) := by rw [decide_eq_decide]; exact eq_comm
  simp only [h.e1, h.e2, decide_true, decide_eq_false hnc, hcomm] at hF1 hF2 hP1 hP2 hSab hSba hSaa hSac
  obtain ⟨vc, hvcd⟩ : ∃ x, x = wrap64 (v1 + 1) := ⟨_, rfl⟩
  simp only [← hvcd] at hSac
  obtain ⟨E, hE⟩ : ∃ E, E = decide ((⟨s1, v1, l1⟩ : Ev) = ⟨s2, v2, l2⟩) := ⟨_, rfl⟩
  simp only [← hE] at hSab hSba
  have HE := Lib.hid hE
  have hn1 := slV_len h.h1
  rw [h.e1] at hn1
  have HVc := Lib.hid hvcd
  have HF1 := Lib.hid hF1
  have HF2 := Lib.hid hF2
  have HP1 := Lib.hid hP1
  have HP2 := Lib.hid hP2
  have HSab := Lib.hid hSab
  have HSba := Lib.hid hSba
  have HSaa := Lib.hid hSaa
  have HSac := Lib.hid hSac
  have HR1 := Lib.hid (show Rngs l1 from fun x hx => (h.h1.2 x hx).2)
  have HR2 := Lib.hid (show Rngs l2 from fun x hx => (h.h2.2 x hx).2)
  have hb1 := (Below.refl w.heap.size w).alloc (Nat.le_refl _) (.cells #[.string s1, .int .i64 v1, .slice a1 n1 c1] 27)
  have hk := (Below.refl (w.alloc (.cells #[.string s1, .int .i64 v1, .slice a1 n1 c1] 27)).heap.size (w.alloc (.cells #[.string s1, .int .i64 v1, .slice a1 n1 c1] 27))).alloc (Nat.le_refl _) (.cells #[.string s2, .int .i64 v2, .slice a2 n2 c2] 27)
  have hx2 := bx_new_t (w.alloc (.cells #[.string s1, .int .i64 v1, .slice a1 n1 c1] 27)) 27 (.string s2) (.int .i64 v2) (.slice a2 n2 c2)
  rw [show (w.alloc (.cells #[.string s1, .int .i64 v1, .slice a1 n1 c1] 27)).heap.size = w.heap.size + 1 from by simp] at hx2
  have HX1 := Lib.hid ((bx_new_t w 27 (.string s1) (.int .i64 v1) (.slice a1 n1 c1)).kept hk)
  have HX2 := Lib.hid hx2
  have HB := Lib.hid (bt hb1 hk)
  clear hb1 hk hx2 hF1 hF2 hP1 hP2 hSab hSba hSaa hSac hcomm hnc hvc hvcd hE h
  go_enter Try.func7, Try.ntmps7
  go_wp2_with fail
  refine (awake_any _).mono ?_
  rintro e w1 ⟨rfl, hb⟩
  have HB1 := Lib.hid (bt HB.out hb)
  have HY1 := Lib.hid (HX1.out.kept hb)
  have HY2 := Lib.hid (HX2.out.kept hb)
  clear hb HB HX1 HX2
  obtain ⟨⟨p0, p1, p2⟩, _⟩ := HY1.out
  go_wp2_with fail
  refine (HF1.out _ HB1.out).mono ?_
  rintro e w2 ⟨rfl, hb⟩
  have HB2 := Lib.hid (bt HB1.out hb)
  have HX1 := Lib.hid (HY1.out.kept hb)
  have HX2 := Lib.hid (HY2.out.kept hb)
  obtain ⟨P, hP⟩ : ∃ P, P = decide (Few ⟨s1, v1, l1⟩) := ⟨_, rfl⟩
  rw [← hP]
  clear hb HB1 HY1 HY2 p0 p1 p2 hP HF1
  obtain ⟨⟨p0, p1, p2⟩, _⟩ := HX2.out
  go_wp2_with fail
  refine (HF2.out _ HB2.out).mono ?_
  rintro e w0 ⟨rfl, hb⟩
  have HB0 := Lib.hid (bt HB2.out hb)
  have HY1 := Lib.hid (HX1.out.kept hb)
  have HY2 := Lib.hid (HX2.out.kept hb)
  obtain ⟨Q, hQ⟩ : ∃ P, P = decide (Few ⟨s2, v2, l2⟩) := ⟨_, rfl⟩
  rw [← hQ]
  clear hb HB2 HX1 HX2 p0 p1 p2 hQ HF2
  by_cases hpq : P = true ∧ Q = true
  · obtain ⟨rfl, rfl⟩ := hpq
    have hat := (Below.refl w0.heap.size w0).alloc (Nat.le_refl _) (.cells #[.string s1, .int .i64 vc, .slice a1 n1 c1] 27)
    have HC5 := Lib.hid (bx_new_t w0 27 (.string s1) (.int .i64 vc) (.slice a1 n1 c1))
    have HX5 := Lib.hid (HY1.out.kept hat)
    have HY5 := Lib.hid (HY2.out.kept hat)
    have HB5 := Lib.hid (bt HB0.out hat)
    obtain ⟨⟨p0, p1, p2⟩, _⟩ := HY1.out
    obtain ⟨v5, hv5⟩ : ∃ v5, v5 = w0.alloc (.cells #[.string s1, .int .i64 vc, .slice a1 n1 c1] 27) := ⟨_, rfl⟩
    rw [← hv5] at HC5 HX5 HY5 HB5
    have ht := (Below.refl w0.heap.size w0).alloc (Nat.le_refl _) (.cells #[.string s1, .int .i64 v1, .slice a1 n1 c1] 27)
    obtain ⟨⟨_, z1, _⟩, _⟩ := HY1.out.kept ht
    obtain ⟨y0, y1, y2⟩ := HX5.out.1
    rw [hv5, HVc.out] at y0 y1 y2
    have HV5 := Lib.hid hv5
    clear hat hv5 ht
    go_wp2_with fail
    rw [← HVc.out, ← HV5.out]
    clear p0 p1 p2 z1 y0 y1 y2
    refine (HP1.out _ HB5.out).mono ?_
    rintro e w6 ⟨A1, d1, rfl, hx1, _, hb6⟩
    have HB6 := Lib.hid hb6
    have HT1 := Lib.hid hx1
    clear hb6 hx1
    obtain ⟨L1, hL1⟩ : ∃ L, L = (pv ⟨s1, v1, l1⟩).length := ⟨_, rfl⟩
    rw [← hL1]
    obtain ⟨⟨q0, q1, q2⟩, _⟩ := HY5.out.kept HB6.out
    have HLa := Lib.hid hL1
    clear hL1
    go_wp2_with fail
    refine (HP2.out _ (bt HB5.out HB6.out)).mono ?_
    rintro e w7 ⟨A2, d2, rfl, hx2, _, hb7⟩
    have HT2 := Lib.hid hx2
    have HT17 := Lib.hid (HT1.out.kept hb7)
    have HB7 := Lib.hid (bt HB6.out hb7)
    clear hb7 hx2 HB6 q0 q1 q2 HT1
    obtain ⟨L2, hL2⟩ : ∃ L, L = (pv ⟨s2, v2, l2⟩).length := ⟨_, rfl⟩
    rw [← hL2]
    have HLb := Lib.hid hL2
    clear hL2
    obtain ⟨⟨p0, p1, p2⟩, _⟩ := HX5.out.kept HB7.out
    obtain ⟨⟨q0, q1, q2⟩, _⟩ := HY5.out.kept HB7.out
    go_wp2_with fail
    refine (HSab.out _ (bt HB5.out HB7.out)).mono ?_
    rintro e w8 ⟨rfl, hb⟩
    have HB8 := Lib.hid (bt HB7.out hb)
    have HT18 := Lib.hid (HT17.out.kept hb)
    have HT28 := Lib.hid (HT2.out.kept hb)
    clear hb HB7 HT17 HT2 p0 p1 p2 q0 q1 q2
    obtain ⟨⟨p0, p1, p2⟩, _⟩ := HX5.out.kept HB8.out
    go_wp2_with fail
    refine (HSaa.out _ (bt HB5.out HB8.out)).mono ?_
    rintro e w9 ⟨rfl, hb⟩
    have HB9 := Lib.hid (bt HB8.out hb)
    have HT19 := Lib.hid (HT18.out.kept hb)
    have HT29 := Lib.hid (HT28.out.kept hb)
    clear hb HB8 HT18 HT28 p0 p1 p2
    obtain ⟨⟨p0, p1, p2⟩, _⟩ := HX5.out.kept HB9.out
    obtain ⟨⟨q0, q1, q2⟩, _⟩ := HC5.out.kept HB9.out
    go_wp2_with fail
    refine (HSac.out _ (bt HB5.out HB9.out)).mono ?_
    rintro e w10 ⟨rfl, hb⟩
    have HB10 := Lib.hid (bt HB9.out hb)
    have HT1x := Lib.hid (HT19.out.kept hb)
    have HT2x := Lib.hid (HT29.out.kept hb)
    clear hb HB9 HT19 HT29 p0 p1 p2 q0 q1 q2
    obtain ⟨⟨p0, p1, p2⟩, _⟩ := HX5.out.kept HB10.out
    obtain ⟨⟨q0, q1, q2⟩, _⟩ := HY5.out.kept HB10.out
    go_wp2_with fail
    refine (HSba.out _ (bt HB5.out HB10.out)).mono ?_
    rintro e w12 ⟨rfl, hb⟩
    have HB12 := Lib.hid (bt HB5.out (bt HB10.out hb))
    have hcx := conv_any (HT1x.out.kept hb).1 d1 9 Try.underlying9
    have hcy := conv_any (HT2x.out.kept hb).1 d2 9 Try.underlying9
    rw [← HLa.out] at hcx
    rw [← HLb.out] at hcy
    clear hb HB10 HT1x HT2x p0 p1 p2 q0 q1 q2
    by_cases m1 : May ⟨s1, v1, l1⟩
    · by_cases m2 : May ⟨s2, v2, l2⟩
      · rw [decide_eq_true m1, decide_eq_true m2]
        cases E
        · have hab := decide_eq_false_iff_not.1 HE.out.symm
          have hne : strOfNums (pv ⟨s1, v1, l1⟩) ≠ strOfNums (pv ⟨s2, v2, l2⟩) := fun e => by
            have h := str_inj (pv_bytes _) (pv_bytes _) e
            rw [pv, if_pos m1, pv, if_pos m2] at h
            exact hab (pE_inj m1 m2 HR1.out HR2.out h)
          obtain ⟨S, hS⟩ : ∃ S, S = strOfNums (pv ⟨s1, v1, l1⟩) := ⟨_, rfl⟩
          obtain ⟨T, hT⟩ : ∃ S, S = strOfNums (pv ⟨s2, v2, l2⟩) := ⟨_, rfl⟩
          rw [← hS] at hcx hne
          rw [← hT] at hcy hne
          have hee := str_ne hne
          clear hab hS hT m1 m2 hne HE
          go_wp2_with fail
          go_ret
          exact ⟨ret_bool (by first | rfl | simp), HB12.out⟩
        · have hab := decide_eq_true_iff.1 HE.out.symm
          rw [← hab] at hcy
          obtain ⟨S, hS⟩ : ∃ S, S = strOfNums (pv ⟨s1, v1, l1⟩) := ⟨_, rfl⟩
          rw [← hS] at hcx hcy
          have hee : (S.toList == S.toList) = true := by simp
          clear hab hS m1 m2 HE
          go_wp2_with fail
          go_ret
          exact ⟨ret_bool (by first | rfl | simp), HB12.out⟩
      · rw [decide_eq_true m1, decide_eq_false m2]
        clear m1 m2 hcx hcy HE
        cases E
        all_goals
          go_wp2_with fail
          go_ret
          exact ⟨ret_bool (by first | rfl | simp), HB12.out⟩
    · rw [decide_eq_false m1]
      obtain ⟨M2, hM2⟩ : ∃ M, M = decide (May ⟨s2, v2, l2⟩) := ⟨_, rfl⟩
      rw [← hM2]
      clear m1 hM2 hcx hcy HE
      cases E
      all_goals
        go_wp2_with fail
        go_ret
        exact ⟨ret_bool (by first | rfl | simp), HB12.out⟩
  · have hw : P = false ∨ (P = true ∧ Q = false) := by cases P <;> cases Q <;> simp_all
    clear hpq
    rcases hw with rfl | ⟨rfl, rfl⟩
    all_goals
      go_wp2_with fail
      go_ret
      exact ⟨ret_bool (by first | rfl | simp), HB0.out⟩

theorem same_walk (s1 : ByteArray) (v1 : Int) (a1 : Option Addr) (n1 c1 : Nat) (s2 : ByteArray) (v2 : Int) (a2 : Option Addr) (n2 c2 : Nat) (w : World)
    (h1 : Op.ArgE w s1 v1 a1 n1 c1) (h2 : Op.ArgE w s2 v2 a2 n2 c2) :
    Calls Try.prog 7 #[.agg #[.string s1, .int .i64 v1, .slice a1 n1 c1], .agg #[.string s2, .int .i64 v2, .slice a2 n2 c2]] w fun e w' => e = .returned (.bool true) ∧ Below w.heap.size w w' := by
  obtain ⟨l1, e1, g1, f1⟩ := h1
  obtain ⟨l2, e2, g2, f2⟩ := h2
  exact same_walk' s1 s2 v1 v2 a1 a2 n1 n2 c1 c2 l1 l2 w ⟨e1, e2, g1, g2, f1, f2⟩
end Go.Proofs.Ytbakhodijhacoaa.Ev
