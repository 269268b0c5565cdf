/- The walk of ValueKinds: no value of one kind has the bytes of one of another kind; no condition. -/
import Derived.Test.YtkjfofljjgifdaaValueLaw
import Derived.BigQuiet
import Derived.Deep.QuietTactic
namespace Go.Proofs.Ytkjfofljjgifdaa.Va
open Go.RowKit Go.Proofs.Ytkjfofljjgifdaa.BM Go.Proofs.Ytkjfofljjgifdaa.LM Go.Proofs.Ytkjfofljjgifdaa.VaM

theorem str_same {a b : V} (ra : Rng a) (rb : Rng b) (ma : May a) (mb : May b) : ((strOfNums (putV a)).toList == (strOfNums (putV b)).toList) = same a b := by
  rw [toList_beq, Bool.eq_iff_iff, same_iff, decide_eq_true_iff]
  constructor
  · intro h
    exact putV_inj ra rb ma mb (str_inj (putV_bytes ma) (putV_bytes mb) h)
  · rintro rfl
    rfl

set_option maxRecDepth 100000 in
set_option maxHeartbeats 2000000 in
theorem kinds_walk (k n : Int) (s : ByteArray) (j m : Int) (t : ByteArray) (w : World) (hv : (Lit.int .i64 k).wf = true ∧ (Lit.int .i64 n).wf = true ∧ s.size ≤ maxLen) (hu : (Lit.int .i64 j).wf = true ∧ (Lit.int .i64 m).wf = true ∧ t.size ≤ maxLen) :
    Calls Try.prog 6 #[.agg #[.int .i64 k, .int .i64 n, .string s], .agg #[.int .i64 j, .int .i64 m, .string t]] w fun e w' => e = .returned (.bool true) ∧ Below w.heap.size w w' := by
  have ra : Rng ⟨k, n, s⟩ := rng_of hv.2.1
  have rb : Rng ⟨j, m, t⟩ := rng_of hu.2.1
  have HPa := Lib.hid (fun W => Put_any k n s W ra)
  have HPb := Lib.hid (fun W => Put_any j m t W rb)
  have HFa := Lib.hid (fun W => few_any k n s W hv.2.2)
  have HFb := Lib.hid (fun W => few_any j m t W hu.2.2)
  have hb1 := (Below.refl w.heap.size w).alloc (Nat.le_refl _) (.cells #[.int .i64 k, .int .i64 n, .string s] 23)
  have hk := (Below.refl (w.alloc (.cells #[.int .i64 k, .int .i64 n, .string s] 23)).heap.size (w.alloc (.cells #[.int .i64 k, .int .i64 n, .string s] 23))).alloc (Nat.le_refl _) (.cells #[.int .i64 j, .int .i64 m, .string t] 23)
  have hx2 := bx_new (w.alloc (.cells #[.int .i64 k, .int .i64 n, .string s] 23)) (.int .i64 j) (.int .i64 m) (.string t)
  rw [show (w.alloc (.cells #[.int .i64 k, .int .i64 n, .string s] 23)).heap.size = w.heap.size + 1 from by simp] at hx2
  have HX1 := Lib.hid ((bx_new w (.int .i64 k) (.int .i64 n) (.string s)).kept hk)
  have HX2 := Lib.hid hx2
  have HB := Lib.hid (bt hb1 hk)
  have HRa := Lib.hid ra
  have HRb := Lib.hid rb
  clear hb1 hk hx2 hv hu ra rb
  go_enter Try.func6, Try.ntmps6
  go_wp2_with fail
  refine (awake_any _).mono ?_
  rintro e w1 ⟨rfl, hb1⟩
  have HX11 := Lib.hid (HX1.out.kept hb1)
  have HX21 := Lib.hid (HX2.out.kept hb1)
  have HB1 := Lib.hid (bt HB.out hb1)
  obtain ⟨⟨p0, p1, p2⟩, _⟩ := HX11.out
  clear hb1 HX1 HX2 HB
  go_wp2_with fail
  refine (HFa.out _).mono ?_
  rintro e w2 ⟨rfl, hb2⟩
  obtain ⟨P, hP⟩ : ∃ P, P = decide (s.size ≤ 100) := ⟨_, rfl⟩
  rw [← hP]
  have HP := Lib.hid hP
  have HX12 := Lib.hid (HX11.out.kept hb2)
  have HX22 := Lib.hid (HX21.out.kept hb2)
  have HB2 := Lib.hid (bt HB1.out hb2)
  clear p0 p1 p2 hb2 HX11 HX21 HB1 hP HFa
  obtain ⟨⟨q0, q1, q2⟩, _⟩ := HX22.out
  go_wp2_with fail
  refine (HFb.out _).mono ?_
  rintro e w3 ⟨rfl, hb3⟩
  obtain ⟨Q, hQ⟩ : ∃ Q, Q = decide (t.size ≤ 100) := ⟨_, rfl⟩
  rw [← hQ]
  have HQ := Lib.hid hQ
  have HX13 := Lib.hid (HX12.out.kept hb3)
  have HX23 := Lib.hid (HX22.out.kept hb3)
  have HB3 := Lib.hid (bt HB2.out hb3)
  clear q0 q1 q2 hb3 HX12 HX22 HB2 hQ HFb
  obtain ⟨⟨p0, p1, p2⟩, _⟩ := HX13.out
  go_wp2_with fail
  refine (HPa.out _).mono ?_
  rintro e w4 ⟨A, c, rfl, h4, _, hb4⟩
  have HX14 := Lib.hid (HX13.out.kept hb4)
  have HX24 := Lib.hid (HX23.out.kept hb4)
  have HB4 := Lib.hid (bt HB3.out hb4)
  have HS4 := Lib.hid h4
  obtain ⟨L, hL⟩ : ∃ L, L = (pv ⟨k, n, s⟩).length := ⟨_, rfl⟩
  rw [← hL]
  have HL := Lib.hid hL
  obtain ⟨Ia, hIa⟩ : ∃ Ia, Ia = decide (May ⟨k, n, s⟩) := ⟨_, rfl⟩
  rw [← hIa]
  have HIa := Lib.hid hIa
  clear p0 p1 p2 hb4 h4 HX13 HX23 HB3 hL hIa HPa
  obtain ⟨⟨q0, q1, q2⟩, _⟩ := HX24.out
  go_wp2_with fail
  refine (HPb.out _).mono ?_
  rintro e w5 ⟨B, d, rfl, h5, _, hb5⟩
  have HX1 := Lib.hid (HX14.out.kept hb5)
  have HX2 := Lib.hid (HX24.out.kept hb5)
  have HB5 := Lib.hid (bt HB4.out hb5)
  have HS5 := Lib.hid (HS4.out.kept hb5)
  have HT5 := Lib.hid h5
  obtain ⟨M, hM⟩ : ∃ M, M = (pv ⟨j, m, t⟩).length := ⟨_, rfl⟩
  rw [← hM]
  have HM := Lib.hid hM
  obtain ⟨Ib, hIb⟩ : ∃ Ib, Ib = decide (May ⟨j, m, t⟩) := ⟨_, rfl⟩
  rw [← hIb]
  have HIb := Lib.hid hIb
  clear q0 q1 q2 hb5 h5 HX14 HX24 HB4 hM hIb HPb HS4
  by_cases hm : May ⟨k, n, s⟩ ∧ May ⟨j, m, t⟩
  · obtain ⟨ma, mb⟩ := hm
    have hz1 := may_size ma
    have hz2 := may_size mb
    have hP : P = true := by rw [HP.out, decide_eq_true_iff]; simp only at hz1; omega
    have hQ : Q = true := by rw [HQ.out, decide_eq_true_iff]; simp only at hz2; omega
    have hIa : Ia = true := by rw [HIa.out]; exact decide_eq_true ma
    have hIb : Ib = true := by rw [HIb.out]; exact decide_eq_true mb
    subst hP hQ hIa hIb
    have hpa : pv ⟨k, n, s⟩ = putV ⟨k, n, s⟩ := by rw [pv, if_pos ma]
    have hpb : pv ⟨j, m, t⟩ = putV ⟨j, m, t⟩ := by rw [pv, if_pos mb]
    have h2 := (putV_len ma HRa.out).1
    rw [← hpa, ← HL.out] at h2
    have hk := may_kind ma
    simp only at hk
    have hS := HS5.out
    have hT := HT5.out
    have cvx := fun q => conv_any (w := w5.drewN q) (hS.kept (below_drewN (Below.refl _ w5) q)).1 c 9 Try.underlying9
    have cvy := fun q => conv_any (w := w5.drewN q) (hT.kept (below_drewN (Below.refl _ w5) q)).1 d 9 Try.underlying9
    have hst := str_same HRa.out HRb.out ma mb
    rw [hpa] at hS cvx
    rw [hpb] at cvy
    obtain ⟨b, o, hA, hcell⟩ := hS.1.2 (by rw [← hpa, ← HL.out]; omega)
    have hc0 := hcell 0 (by rw [← hpa, ← HL.out]; omega)
    rw [Nat.add_zero, show (putV ⟨k, n, s⟩).getD 0 0 = k from rfl] at hc0
    have hix : ∀ W, (Instr.indexAt 24 (.slice A L c) (.int .i64 0)).run Try.prog W = .ok (.pointer (some ⟨b, o, none⟩)) W := fun W => by
      rw [hA]
      exact index_0 W b o _ c (by omega)
    rw [← hpa, ← HL.out] at cvx
    rw [← hpb, ← HM.out] at cvy
    rw [← hpa, ← hpb] at hst
    obtain ⟨X, hX⟩ : ∃ X, X = strOfNums (pv ⟨k, n, s⟩) := ⟨_, rfl⟩
    obtain ⟨Y, hY⟩ : ∃ Y, Y = strOfNums (pv ⟨j, m, t⟩) := ⟨_, rfl⟩
    rw [← hX] at cvx hst
    rw [← hY] at cvy hst
    have heq := fun W => eql_v k n j m s t W
    obtain ⟨Z, hZ⟩ : ∃ Z, Z = same ⟨k, n, s⟩ ⟨j, m, t⟩ := ⟨_, rfl⟩
    rw [← hZ] at heq hst
    have hd2 : decide ((2 : Int) ≤ L) = true := by rw [decide_eq_true_iff]; omega
    obtain ⟨⟨p0, p1, p2⟩, _⟩ := HX1.out
    obtain ⟨⟨q0, q1, q2⟩, _⟩ := HX2.out
    clear ma mb hz1 hz2 hpa hpb hS hT hcell hA hX hY hZ
    go_wp2_with fail
    go_quiet (fail)
    go_wp2_with fail
    go_ret
    exact ⟨ret_bool (by first | rfl | simp), below_drewN HB5.out _⟩
  · have hor : Ia = false ∨ Ib = false := by
      by_cases h1 : May ⟨k, n, s⟩
      · exact Or.inr (by rw [HIb.out]; exact decide_eq_false (fun h2 => hm ⟨h1, h2⟩))
      · exact Or.inl (by rw [HIa.out]; exact decide_eq_false h1)
    clear hm HP HQ HIa HIb
    rcases hor with rfl | rfl
    · cases P <;> cases Q
      all_goals
        go_wp2_with fail
        go_ret
        exact ⟨ret_bool (by first | rfl | simp), HB5.out⟩
    · cases P <;> cases Q <;> cases Ia
      all_goals
        go_wp2_with fail
        go_ret
        exact ⟨ret_bool (by first | rfl | simp), HB5.out⟩
end Go.Proofs.Ytkjfofljjgifdaa.Va
