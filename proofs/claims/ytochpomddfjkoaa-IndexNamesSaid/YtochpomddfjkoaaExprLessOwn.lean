/- What comes of two things, by the program: less; asked: both values may be. (Made by tools/gen_both.py.) -/
import Derived.Test.YtochpomddfjkoaaExprAs
namespace Go.Proofs.Ytochpomddfjkoaa.Ex
open Go.RowKit Go.Proofs.Ytochpomddfjkoaa.BM Go.Proofs.Ytochpomddfjkoaa.LM Go.Proofs.Ytochpomddfjkoaa.VaM Go.Proofs.Ytochpomddfjkoaa.Va Go.Proofs.Ytochpomddfjkoaa.ExM Go.Proofs.Ytochpomddfjkoaa.EvM

set_option maxRecDepth 100000 in
set_option maxHeartbeats 8000000 in
theorem less_own (a b : V) (w : World) (ha : VaM.May a) (hb : VaM.May b) : Calls Try.prog 66 #[th a, th b] w fun e w' => e = .returned (laid (two 5 a b)) ∧ Below w.heap.size w w' := by
  have hL := Less_any a b
  have hc : can a b = decide (a.k = b.k) := by rw [can]; simp [ha, hb]
  rcases may_ways ha with ⟨n, rfl⟩ | ⟨x, rfl⟩ | ⟨s, rfl⟩ | ⟨n, rfl⟩ <;> rcases may_ways hb with ⟨m, rfl⟩ | ⟨y, rfl⟩ | ⟨t, rfl⟩ | ⟨m, rfl⟩
  · rw [th_0, th_0]
    have z0 := meth_v0
    have z2 := meth_k0
    rw [two_5 (a := ⟨0, n, e0⟩) (b := ⟨0, m, e0⟩) rfl (show (0 : Int) ≠ 1 by decide), laid_ok, th_1]
    obtain ⟨z, hz⟩ : ∃ z, z = (can (⟨0, n, e0⟩ : V) (⟨0, m, e0⟩ : V) && lt (⟨0, n, e0⟩ : V) (⟨0, m, e0⟩ : V)) := ⟨_, rfl⟩
    rw [← hz] at hL ⊢
    rw [show can (⟨0, n, e0⟩ : V) (⟨0, m, e0⟩ : V) = true from by rw [hc]; exact decide_eq_true rfl] at hL
    clear hz
    have hv1 := value_number n
    have hv2 := value_number m
    obtain ⟨⟨ak, an, az⟩, hA⟩ : ∃ A : V, A = ⟨0, n, e0⟩ := ⟨_, rfl⟩
    obtain ⟨⟨bk, bn, bz⟩, hB⟩ : ∃ A : V, A = ⟨0, m, e0⟩ := ⟨_, rfl⟩
    rw [← hA] at hv1 hL
    rw [← hB] at hv2 hL
    unfold ValueV at hv1 hv2
    simp only at hv1 hv2 hL
    have HV1 := Lib.hid hv1
    have HV2 := Lib.hid hv2
    have HL := Lib.hid hL
    clear ha hb hA hB hv1 hv2 hL hc
    go_enter Try.func66, Try.ntmps66
    go_wp2_with fail
    refine (HV1.out _).mono ?_
    rintro e w1 ⟨rfl, hb1⟩
    have HB1 := Lib.hid hb1
    clear hb1
    go_wp2_with fail
    refine (HV2.out _).mono ?_
    rintro e w2 ⟨rfl, hb2⟩
    have HB2 := Lib.hid (bt HB1.out hb2)
    clear hb2
    go_wp2_with fail
    refine (HL.out _).mono ?_
    rintro e w3 ⟨rfl, hb3⟩
    have HB3 := Lib.hid (bt HB2.out hb3)
    clear hb3
    go_wp2_with fail
    refine (kind_number _ _).mono ?_
    rintro e w4 ⟨rfl, rfl⟩
    go_wp2_with fail
    go_ret2
    exact ⟨rfl, HB3.out⟩
  · rw [th_0, th_1]
    have z0 := meth_v0
    have z1 := meth_v1
    rw [two_k (a := ⟨0, n, e0⟩) (b := truth y) (show (0 : Int) ≠ 1 by decide), laid_no _ (by decide)]
    rw [show can (⟨0, n, e0⟩ : V) (truth y) = false from by rw [hc]; exact decide_eq_false (show ¬ (0 : Int) = 1 by decide)] at hL
    have hv1 := value_number n
    have hv2 := value_truth y
    obtain ⟨⟨ak, an, az⟩, hA⟩ : ∃ A : V, A = ⟨0, n, e0⟩ := ⟨_, rfl⟩
    obtain ⟨⟨bk, bn, bz⟩, hB⟩ : ∃ A : V, A = truth y := ⟨_, rfl⟩
    rw [← hA] at hv1 hL
    rw [← hB] at hv2 hL
    unfold ValueV at hv1 hv2
    simp only [Bool.false_and] at hv1 hv2 hL
    have HV1 := Lib.hid hv1
    have HV2 := Lib.hid hv2
    have HL := Lib.hid hL
    clear ha hb hA hB hv1 hv2 hL hc
    go_enter Try.func66, Try.ntmps66
    go_wp2_with fail
    refine (HV1.out _).mono ?_
    rintro e w1 ⟨rfl, hb1⟩
    have HB1 := Lib.hid hb1
    clear hb1
    go_wp2_with fail
    refine (HV2.out _).mono ?_
    rintro e w2 ⟨rfl, hb2⟩
    have HB2 := Lib.hid (bt HB1.out hb2)
    clear hb2
    go_wp2_with fail
    refine (HL.out _).mono ?_
    rintro e w3 ⟨rfl, hb3⟩
    have HB3 := Lib.hid (bt HB2.out hb3)
    clear hb3
    go_wp2_with fail
    go_ret2
    exact ⟨rfl, HB3.out⟩
  · rw [th_0, th_2]
    have z0 := meth_v0
    have z1 := meth_v2
    rw [two_k (a := ⟨0, n, e0⟩) (b := ⟨2, 0, t⟩) (show (0 : Int) ≠ 2 by decide), laid_no _ (by decide)]
    rw [show can (⟨0, n, e0⟩ : V) (⟨2, 0, t⟩ : V) = false from by rw [hc]; exact decide_eq_false (show ¬ (0 : Int) = 2 by decide)] at hL
    have hv1 := value_number n
    have hv2 := value_text t
    obtain ⟨⟨ak, an, az⟩, hA⟩ : ∃ A : V, A = ⟨0, n, e0⟩ := ⟨_, rfl⟩
    obtain ⟨⟨bk, bn, bz⟩, hB⟩ : ∃ A : V, A = ⟨2, 0, t⟩ := ⟨_, rfl⟩
    rw [← hA] at hv1 hL
    rw [← hB] at hv2 hL
    unfold ValueV at hv1 hv2
    simp only [Bool.false_and] at hv1 hv2 hL
    have HV1 := Lib.hid hv1
    have HV2 := Lib.hid hv2
    have HL := Lib.hid hL
    clear ha hb hA hB hv1 hv2 hL hc
    go_enter Try.func66, Try.ntmps66
    go_wp2_with fail
    refine (HV1.out _).mono ?_
    rintro e w1 ⟨rfl, hb1⟩
    have HB1 := Lib.hid hb1
    clear hb1
    go_wp2_with fail
    refine (HV2.out _).mono ?_
    rintro e w2 ⟨rfl, hb2⟩
    have HB2 := Lib.hid (bt HB1.out hb2)
    clear hb2
    go_wp2_with fail
    refine (HL.out _).mono ?_
    rintro e w3 ⟨rfl, hb3⟩
    have HB3 := Lib.hid (bt HB2.out hb3)
    clear hb3
    go_wp2_with fail
    go_ret2
    exact ⟨rfl, HB3.out⟩
  · rw [th_0, th_3]
    have z0 := meth_v0
    have z1 := meth_v3
    rw [two_k (a := ⟨0, n, e0⟩) (b := ⟨3, m, e0⟩) (show (0 : Int) ≠ 3 by decide), laid_no _ (by decide)]
    rw [show can (⟨0, n, e0⟩ : V) (⟨3, m, e0⟩ : V) = false from by rw [hc]; exact decide_eq_false (show ¬ (0 : Int) = 3 by decide)] at hL
    have hv1 := value_number n
    have hv2 := value_moment m
    obtain ⟨⟨ak, an, az⟩, hA⟩ : ∃ A : V, A = ⟨0, n, e0⟩ := ⟨_, rfl⟩
    obtain ⟨⟨bk, bn, bz⟩, hB⟩ : ∃ A : V, A = ⟨3, m, e0⟩ := ⟨_, rfl⟩
    rw [← hA] at hv1 hL
    rw [← hB] at hv2 hL
    unfold ValueV at hv1 hv2
    simp only [Bool.false_and] at hv1 hv2 hL
    have HV1 := Lib.hid hv1
    have HV2 := Lib.hid hv2
    have HL := Lib.hid hL
    clear ha hb hA hB hv1 hv2 hL hc
    go_enter Try.func66, Try.ntmps66
    go_wp2_with fail
    refine (HV1.out _).mono ?_
    rintro e w1 ⟨rfl, hb1⟩
    have HB1 := Lib.hid hb1
    clear hb1
    go_wp2_with fail
    refine (HV2.out _).mono ?_
    rintro e w2 ⟨rfl, hb2⟩
    have HB2 := Lib.hid (bt HB1.out hb2)
    clear hb2
    go_wp2_with fail
    refine (HL.out _).mono ?_
    rintro e w3 ⟨rfl, hb3⟩
    have HB3 := Lib.hid (bt HB2.out hb3)
    clear hb3
    go_wp2_with fail
    go_ret2
    exact ⟨rfl, HB3.out⟩
  · rw [th_1, th_0]
    have z0 := meth_v1
    have z1 := meth_v0
    rw [two_k (a := truth x) (b := ⟨0, m, e0⟩) (show (1 : Int) ≠ 0 by decide), laid_no _ (by decide)]
    rw [show can (truth x) (⟨0, m, e0⟩ : V) = false from by rw [hc]; exact decide_eq_false (show ¬ (1 : Int) = 0 by decide)] at hL
    have hv1 := value_truth x
    have hv2 := value_number m
    obtain ⟨⟨ak, an, az⟩, hA⟩ : ∃ A : V, A = truth x := ⟨_, rfl⟩
    obtain ⟨⟨bk, bn, bz⟩, hB⟩ : ∃ A : V, A = ⟨0, m, e0⟩ := ⟨_, rfl⟩
    rw [← hA] at hv1 hL
    rw [← hB] at hv2 hL
    unfold ValueV at hv1 hv2
    simp only [Bool.false_and] at hv1 hv2 hL
    have HV1 := Lib.hid hv1
    have HV2 := Lib.hid hv2
    have HL := Lib.hid hL
    clear ha hb hA hB hv1 hv2 hL hc
    go_enter Try.func66, Try.ntmps66
    go_wp2_with fail
    refine (HV1.out _).mono ?_
    rintro e w1 ⟨rfl, hb1⟩
    have HB1 := Lib.hid hb1
    clear hb1
    go_wp2_with fail
    refine (HV2.out _).mono ?_
    rintro e w2 ⟨rfl, hb2⟩
    have HB2 := Lib.hid (bt HB1.out hb2)
    clear hb2
    go_wp2_with fail
    refine (HL.out _).mono ?_
    rintro e w3 ⟨rfl, hb3⟩
    have HB3 := Lib.hid (bt HB2.out hb3)
    clear hb3
    go_wp2_with fail
    go_ret2
    exact ⟨rfl, HB3.out⟩
  · rw [th_1, th_1]
    have z0 := meth_v1
    have z2 := meth_k1
    rw [two_5b (a := truth x) (b := truth y) rfl rfl, laid_no _ (by decide)]
    obtain ⟨z, hz⟩ : ∃ z, z = (can (truth x) (truth y) && lt (truth x) (truth y)) := ⟨_, rfl⟩
    rw [← hz] at hL
    rw [show can (truth x) (truth y) = true from by rw [hc]; exact decide_eq_true rfl] at hL
    clear hz
    have hv1 := value_truth x
    have hv2 := value_truth y
    obtain ⟨⟨ak, an, az⟩, hA⟩ : ∃ A : V, A = truth x := ⟨_, rfl⟩
    obtain ⟨⟨bk, bn, bz⟩, hB⟩ : ∃ A : V, A = truth y := ⟨_, rfl⟩
    rw [← hA] at hv1 hL
    rw [← hB] at hv2 hL
    unfold ValueV at hv1 hv2
    simp only at hv1 hv2 hL
    have HV1 := Lib.hid hv1
    have HV2 := Lib.hid hv2
    have HL := Lib.hid hL
    clear ha hb hA hB hv1 hv2 hL hc
    go_enter Try.func66, Try.ntmps66
    go_wp2_with fail
    refine (HV1.out _).mono ?_
    rintro e w1 ⟨rfl, hb1⟩
    have HB1 := Lib.hid hb1
    clear hb1
    go_wp2_with fail
    refine (HV2.out _).mono ?_
    rintro e w2 ⟨rfl, hb2⟩
    have HB2 := Lib.hid (bt HB1.out hb2)
    clear hb2
    go_wp2_with fail
    refine (HL.out _).mono ?_
    rintro e w3 ⟨rfl, hb3⟩
    have HB3 := Lib.hid (bt HB2.out hb3)
    clear hb3
    go_wp2_with fail
    refine (kind_truth _ _).mono ?_
    rintro e w4 ⟨rfl, rfl⟩
    go_wp2_with fail
    go_ret2
    exact ⟨rfl, HB3.out⟩
  · rw [th_1, th_2]
    have z0 := meth_v1
    have z1 := meth_v2
    rw [two_k (a := truth x) (b := ⟨2, 0, t⟩) (show (1 : Int) ≠ 2 by decide), laid_no _ (by decide)]
    rw [show can (truth x) (⟨2, 0, t⟩ : V) = false from by rw [hc]; exact decide_eq_false (show ¬ (1 : Int) = 2 by decide)] at hL
    have hv1 := value_truth x
    have hv2 := value_text t
    obtain ⟨⟨ak, an, az⟩, hA⟩ : ∃ A : V, A = truth x := ⟨_, rfl⟩
    obtain ⟨⟨bk, bn, bz⟩, hB⟩ : ∃ A : V, A = ⟨2, 0, t⟩ := ⟨_, rfl⟩
    rw [← hA] at hv1 hL
    rw [← hB] at hv2 hL
    unfold ValueV at hv1 hv2
    simp only [Bool.false_and] at hv1 hv2 hL
    have HV1 := Lib.hid hv1
    have HV2 := Lib.hid hv2
    have HL := Lib.hid hL
    clear ha hb hA hB hv1 hv2 hL hc
    go_enter Try.func66, Try.ntmps66
    go_wp2_with fail
    refine (HV1.out _).mono ?_
    rintro e w1 ⟨rfl, hb1⟩
    have HB1 := Lib.hid hb1
    clear hb1
    go_wp2_with fail
    refine (HV2.out _).mono ?_
    rintro e w2 ⟨rfl, hb2⟩
    have HB2 := Lib.hid (bt HB1.out hb2)
    clear hb2
    go_wp2_with fail
    refine (HL.out _).mono ?_
    rintro e w3 ⟨rfl, hb3⟩
    have HB3 := Lib.hid (bt HB2.out hb3)
    clear hb3
    go_wp2_with fail
    go_ret2
    exact ⟨rfl, HB3.out⟩
  · rw [th_1, th_3]
    have z0 := meth_v1
    have z1 := meth_v3
    rw [two_k (a := truth x) (b := ⟨3, m, e0⟩) (show (1 : Int) ≠ 3 by decide), laid_no _ (by decide)]
    rw [show can (truth x) (⟨3, m, e0⟩ : V) = false from by rw [hc]; exact decide_eq_false (show ¬ (1 : Int) = 3 by decide)] at hL
    have hv1 := value_truth x
    have hv2 := value_moment m
    obtain ⟨⟨ak, an, az⟩, hA⟩ : ∃ A : V, A = truth x := ⟨_, rfl⟩
    obtain ⟨⟨bk, bn, bz⟩, hB⟩ : ∃ A : V, A = ⟨3, m, e0⟩ := ⟨_, rfl⟩
    rw [← hA] at hv1 hL
    rw [← hB] at hv2 hL
    unfold ValueV at hv1 hv2
    simp only [Bool.false_and] at hv1 hv2 hL
    have HV1 := Lib.hid hv1
    have HV2 := Lib.hid hv2
    have HL := Lib.hid hL
    clear ha hb hA hB hv1 hv2 hL hc
    go_enter Try.func66, Try.ntmps66
    go_wp2_with fail
    refine (HV1.out _).mono ?_
    rintro e w1 ⟨rfl, hb1⟩
    have HB1 := Lib.hid hb1
    clear hb1
    go_wp2_with fail
    refine (HV2.out _).mono ?_
    rintro e w2 ⟨rfl, hb2⟩
    have HB2 := Lib.hid (bt HB1.out hb2)
    clear hb2
    go_wp2_with fail
    refine (HL.out _).mono ?_
    rintro e w3 ⟨rfl, hb3⟩
    have HB3 := Lib.hid (bt HB2.out hb3)
    clear hb3
    go_wp2_with fail
    go_ret2
    exact ⟨rfl, HB3.out⟩
  · rw [th_2, th_0]
    have z0 := meth_v2
    have z1 := meth_v0
    rw [two_k (a := ⟨2, 0, s⟩) (b := ⟨0, m, e0⟩) (show (2 : Int) ≠ 0 by decide), laid_no _ (by decide)]
    rw [show can (⟨2, 0, s⟩ : V) (⟨0, m, e0⟩ : V) = false from by rw [hc]; exact decide_eq_false (show ¬ (2 : Int) = 0 by decide)] at hL
    have hv1 := value_text s
    have hv2 := value_number m
    obtain ⟨⟨ak, an, az⟩, hA⟩ : ∃ A : V, A = ⟨2, 0, s⟩ := ⟨_, rfl⟩
    obtain ⟨⟨bk, bn, bz⟩, hB⟩ : ∃ A : V, A = ⟨0, m, e0⟩ := ⟨_, rfl⟩
    rw [← hA] at hv1 hL
    rw [← hB] at hv2 hL
    unfold ValueV at hv1 hv2
    simp only [Bool.false_and] at hv1 hv2 hL
    have HV1 := Lib.hid hv1
    have HV2 := Lib.hid hv2
    have HL := Lib.hid hL
    clear ha hb hA hB hv1 hv2 hL hc
    go_enter Try.func66, Try.ntmps66
    go_wp2_with fail
    refine (HV1.out _).mono ?_
    rintro e w1 ⟨rfl, hb1⟩
    have HB1 := Lib.hid hb1
    clear hb1
    go_wp2_with fail
    refine (HV2.out _).mono ?_
    rintro e w2 ⟨rfl, hb2⟩
    have HB2 := Lib.hid (bt HB1.out hb2)
    clear hb2
    go_wp2_with fail
    refine (HL.out _).mono ?_
    rintro e w3 ⟨rfl, hb3⟩
    have HB3 := Lib.hid (bt HB2.out hb3)
    clear hb3
    go_wp2_with fail
    go_ret2
    exact ⟨rfl, HB3.out⟩
  · rw [th_2, th_1]
    have z0 := meth_v2
    have z1 := meth_v1
    rw [two_k (a := ⟨2, 0, s⟩) (b := truth y) (show (2 : Int) ≠ 1 by decide), laid_no _ (by decide)]
    rw [show can (⟨2, 0, s⟩ : V) (truth y) = false from by rw [hc]; exact decide_eq_false (show ¬ (2 : Int) = 1 by decide)] at hL
    have hv1 := value_text s
    have hv2 := value_truth y
    obtain ⟨⟨ak, an, az⟩, hA⟩ : ∃ A : V, A = ⟨2, 0, s⟩ := ⟨_, rfl⟩
    obtain ⟨⟨bk, bn, bz⟩, hB⟩ : ∃ A : V, A = truth y := ⟨_, rfl⟩
    rw [← hA] at hv1 hL
    rw [← hB] at hv2 hL
    unfold ValueV at hv1 hv2
    simp only [Bool.false_and] at hv1 hv2 hL
    have HV1 := Lib.hid hv1
    have HV2 := Lib.hid hv2
    have HL := Lib.hid hL
    clear ha hb hA hB hv1 hv2 hL hc
    go_enter Try.func66, Try.ntmps66
    go_wp2_with fail
    refine (HV1.out _).mono ?_
    rintro e w1 ⟨rfl, hb1⟩
    have HB1 := Lib.hid hb1
    clear hb1
    go_wp2_with fail
    refine (HV2.out _).mono ?_
    rintro e w2 ⟨rfl, hb2⟩
    have HB2 := Lib.hid (bt HB1.out hb2)
    clear hb2
    go_wp2_with fail
    refine (HL.out _).mono ?_
    rintro e w3 ⟨rfl, hb3⟩
    have HB3 := Lib.hid (bt HB2.out hb3)
    clear hb3
    go_wp2_with fail
    go_ret2
    exact ⟨rfl, HB3.out⟩
  · rw [th_2, th_2]
    have z0 := meth_v2
    have z2 := meth_k2
    rw [two_5 (a := ⟨2, 0, s⟩) (b := ⟨2, 0, t⟩) rfl (show (2 : Int) ≠ 1 by decide), laid_ok, th_1]
    obtain ⟨z, hz⟩ : ∃ z, z = (can (⟨2, 0, s⟩ : V) (⟨2, 0, t⟩ : V) && lt (⟨2, 0, s⟩ : V) (⟨2, 0, t⟩ : V)) := ⟨_, rfl⟩
    rw [← hz] at hL ⊢
    rw [show can (⟨2, 0, s⟩ : V) (⟨2, 0, t⟩ : V) = true from by rw [hc]; exact decide_eq_true rfl] at hL
    clear hz
    have hv1 := value_text s
    have hv2 := value_text t
    obtain ⟨⟨ak, an, az⟩, hA⟩ : ∃ A : V, A = ⟨2, 0, s⟩ := ⟨_, rfl⟩
    obtain ⟨⟨bk, bn, bz⟩, hB⟩ : ∃ A : V, A = ⟨2, 0, t⟩ := ⟨_, rfl⟩
    rw [← hA] at hv1 hL
    rw [← hB] at hv2 hL
    unfold ValueV at hv1 hv2
    simp only at hv1 hv2 hL
    have HV1 := Lib.hid hv1
    have HV2 := Lib.hid hv2
    have HL := Lib.hid hL
    clear ha hb hA hB hv1 hv2 hL hc
    go_enter Try.func66, Try.ntmps66
    go_wp2_with fail
    refine (HV1.out _).mono ?_
    rintro e w1 ⟨rfl, hb1⟩
    have HB1 := Lib.hid hb1
    clear hb1
    go_wp2_with fail
    refine (HV2.out _).mono ?_
    rintro e w2 ⟨rfl, hb2⟩
    have HB2 := Lib.hid (bt HB1.out hb2)
    clear hb2
    go_wp2_with fail
    refine (HL.out _).mono ?_
    rintro e w3 ⟨rfl, hb3⟩
    have HB3 := Lib.hid (bt HB2.out hb3)
    clear hb3
    go_wp2_with fail
    refine (kind_text _ _).mono ?_
    rintro e w4 ⟨rfl, rfl⟩
    go_wp2_with fail
    go_ret2
    exact ⟨rfl, HB3.out⟩
  · rw [th_2, th_3]
    have z0 := meth_v2
    have z1 := meth_v3
    rw [two_k (a := ⟨2, 0, s⟩) (b := ⟨3, m, e0⟩) (show (2 : Int) ≠ 3 by decide), laid_no _ (by decide)]
    rw [show can (⟨2, 0, s⟩ : V) (⟨3, m, e0⟩ : V) = false from by rw [hc]; exact decide_eq_false (show ¬ (2 : Int) = 3 by decide)] at hL
    have hv1 := value_text s
    have hv2 := value_moment m
    obtain ⟨⟨ak, an, az⟩, hA⟩ : ∃ A : V, A = ⟨2, 0, s⟩ := ⟨_, rfl⟩
    obtain ⟨⟨bk, bn, bz⟩, hB⟩ : ∃ A : V, A = ⟨3, m, e0⟩ := ⟨_, rfl⟩
    rw [← hA] at hv1 hL
    rw [← hB] at hv2 hL
    unfold ValueV at hv1 hv2
    simp only [Bool.false_and] at hv1 hv2 hL
    have HV1 := Lib.hid hv1
    have HV2 := Lib.hid hv2
    have HL := Lib.hid hL
    clear ha hb hA hB hv1 hv2 hL hc
    go_enter Try.func66, Try.ntmps66
    go_wp2_with fail
    refine (HV1.out _).mono ?_
    rintro e w1 ⟨rfl, hb1⟩
    have HB1 := Lib.hid hb1
    clear hb1
    go_wp2_with fail
    refine (HV2.out _).mono ?_
    rintro e w2 ⟨rfl, hb2⟩
    have HB2 := Lib.hid (bt HB1.out hb2)
    clear hb2
    go_wp2_with fail
    refine (HL.out _).mono ?_
    rintro e w3 ⟨rfl, hb3⟩
    have HB3 := Lib.hid (bt HB2.out hb3)
    clear hb3
    go_wp2_with fail
    go_ret2
    exact ⟨rfl, HB3.out⟩
  · rw [th_3, th_0]
    have z0 := meth_v3
    have z1 := meth_v0
    rw [two_k (a := ⟨3, n, e0⟩) (b := ⟨0, m, e0⟩) (show (3 : Int) ≠ 0 by decide), laid_no _ (by decide)]
    rw [show can (⟨3, n, e0⟩ : V) (⟨0, m, e0⟩ : V) = false from by rw [hc]; exact decide_eq_false (show ¬ (3 : Int) = 0 by decide)] at hL
    have hv1 := value_moment n
    have hv2 := value_number m
    obtain ⟨⟨ak, an, az⟩, hA⟩ : ∃ A : V, A = ⟨3, n, e0⟩ := ⟨_, rfl⟩
    obtain ⟨⟨bk, bn, bz⟩, hB⟩ : ∃ A : V, A = ⟨0, m, e0⟩ := ⟨_, rfl⟩
    rw [← hA] at hv1 hL
    rw [← hB] at hv2 hL
    unfold ValueV at hv1 hv2
    simp only [Bool.false_and] at hv1 hv2 hL
    have HV1 := Lib.hid hv1
    have HV2 := Lib.hid hv2
    have HL := Lib.hid hL
    clear ha hb hA hB hv1 hv2 hL hc
    go_enter Try.func66, Try.ntmps66
    go_wp2_with fail
    refine (HV1.out _).mono ?_
    rintro e w1 ⟨rfl, hb1⟩
    have HB1 := Lib.hid hb1
    clear hb1
    go_wp2_with fail
    refine (HV2.out _).mono ?_
    rintro e w2 ⟨rfl, hb2⟩
    have HB2 := Lib.hid (bt HB1.out hb2)
    clear hb2
    go_wp2_with fail
    refine (HL.out _).mono ?_
    rintro e w3 ⟨rfl, hb3⟩
    have HB3 := Lib.hid (bt HB2.out hb3)
    clear hb3
    go_wp2_with fail
    go_ret2
    exact ⟨rfl, HB3.out⟩
  · rw [th_3, th_1]
    have z0 := meth_v3
    have z1 := meth_v1
    rw [two_k (a := ⟨3, n, e0⟩) (b := truth y) (show (3 : Int) ≠ 1 by decide), laid_no _ (by decide)]
    rw [show can (⟨3, n, e0⟩ : V) (truth y) = false from by rw [hc]; exact decide_eq_false (show ¬ (3 : Int) = 1 by decide)] at hL
    have hv1 := value_moment n
    have hv2 := value_truth y
    obtain ⟨⟨ak, an, az⟩, hA⟩ : ∃ A : V, A = ⟨3, n, e0⟩ := ⟨_, rfl⟩
    obtain ⟨⟨bk, bn, bz⟩, hB⟩ : ∃ A : V, A = truth y := ⟨_, rfl⟩
    rw [← hA] at hv1 hL
    rw [← hB] at hv2 hL
    unfold ValueV at hv1 hv2
    simp only [Bool.false_and] at hv1 hv2 hL
    have HV1 := Lib.hid hv1
    have HV2 := Lib.hid hv2
    have HL := Lib.hid hL
    clear ha hb hA hB hv1 hv2 hL hc
    go_enter Try.func66, Try.ntmps66
    go_wp2_with fail
    refine (HV1.out _).mono ?_
    rintro e w1 ⟨rfl, hb1⟩
    have HB1 := Lib.hid hb1
    clear hb1
    go_wp2_with fail
    refine (HV2.out _).mono ?_
    rintro e w2 ⟨rfl, hb2⟩
    have HB2 := Lib.hid (bt HB1.out hb2)
    clear hb2
    go_wp2_with fail
    refine (HL.out _).mono ?_
    rintro e w3 ⟨rfl, hb3⟩
    have HB3 := Lib.hid (bt HB2.out hb3)
    clear hb3
    go_wp2_with fail
    go_ret2
    exact ⟨rfl, HB3.out⟩
  · rw [th_3, th_2]
    have z0 := meth_v3
    have z1 := meth_v2
    rw [two_k (a := ⟨3, n, e0⟩) (b := ⟨2, 0, t⟩) (show (3 : Int) ≠ 2 by decide), laid_no _ (by decide)]
    rw [show can (⟨3, n, e0⟩ : V) (⟨2, 0, t⟩ : V) = false from by rw [hc]; exact decide_eq_false (show ¬ (3 : Int) = 2 by decide)] at hL
    have hv1 := value_moment n
    have hv2 := value_text t
    obtain ⟨⟨ak, an, az⟩, hA⟩ : ∃ A : V, A = ⟨3, n, e0⟩ := ⟨_, rfl⟩
    obtain ⟨⟨bk, bn, bz⟩, hB⟩ : ∃ A : V, A = ⟨2, 0, t⟩ := ⟨_, rfl⟩
    rw [← hA] at hv1 hL
    rw [← hB] at hv2 hL
    unfold ValueV at hv1 hv2
    simp only [Bool.false_and] at hv1 hv2 hL
    have HV1 := Lib.hid hv1
    have HV2 := Lib.hid hv2
    have HL := Lib.hid hL
    clear ha hb hA hB hv1 hv2 hL hc
    go_enter Try.func66, Try.ntmps66
    go_wp2_with fail
    refine (HV1.out _).mono ?_
    rintro e w1 ⟨rfl, hb1⟩
    have HB1 := Lib.hid hb1
    clear hb1
    go_wp2_with fail
    refine (HV2.out _).mono ?_
    rintro e w2 ⟨rfl, hb2⟩
    have HB2 := Lib.hid (bt HB1.out hb2)
    clear hb2
    go_wp2_with fail
    refine (HL.out _).mono ?_
    rintro e w3 ⟨rfl, hb3⟩
    have HB3 := Lib.hid (bt HB2.out hb3)
    clear hb3
    go_wp2_with fail
    go_ret2
    exact ⟨rfl, HB3.out⟩
  · rw [th_3, th_3]
    have z0 := meth_v3
    have z2 := meth_k3
    rw [two_5 (a := ⟨3, n, e0⟩) (b := ⟨3, m, e0⟩) rfl (show (3 : Int) ≠ 1 by decide), laid_ok, th_1]
    obtain ⟨z, hz⟩ : ∃ z, z = (can (⟨3, n, e0⟩ : V) (⟨3, m, e0⟩ : V) && lt (⟨3, n, e0⟩ : V) (⟨3, m, e0⟩ : V)) := ⟨_, rfl⟩
    rw [← hz] at hL ⊢
    rw [show can (⟨3, n, e0⟩ : V) (⟨3, m, e0⟩ : V) = true from by rw [hc]; exact decide_eq_true rfl] at hL
    clear hz
    have hv1 := value_moment n
    have hv2 := value_moment m
    obtain ⟨⟨ak, an, az⟩, hA⟩ : ∃ A : V, A = ⟨3, n, e0⟩ := ⟨_, rfl⟩
    obtain ⟨⟨bk, bn, bz⟩, hB⟩ : ∃ A : V, A = ⟨3, m, e0⟩ := ⟨_, rfl⟩
    rw [← hA] at hv1 hL
    rw [← hB] at hv2 hL
    unfold ValueV at hv1 hv2
    simp only at hv1 hv2 hL
    have HV1 := Lib.hid hv1
    have HV2 := Lib.hid hv2
    have HL := Lib.hid hL
    clear ha hb hA hB hv1 hv2 hL hc
    go_enter Try.func66, Try.ntmps66
    go_wp2_with fail
    refine (HV1.out _).mono ?_
    rintro e w1 ⟨rfl, hb1⟩
    have HB1 := Lib.hid hb1
    clear hb1
    go_wp2_with fail
    refine (HV2.out _).mono ?_
    rintro e w2 ⟨rfl, hb2⟩
    have HB2 := Lib.hid (bt HB1.out hb2)
    clear hb2
    go_wp2_with fail
    refine (HL.out _).mono ?_
    rintro e w3 ⟨rfl, hb3⟩
    have HB3 := Lib.hid (bt HB2.out hb3)
    clear hb3
    go_wp2_with fail
    refine (kind_moment _ _).mono ?_
    rintro e w4 ⟨rfl, rfl⟩
    go_wp2_with fail
    go_ret2
    exact ⟨rfl, HB3.out⟩
end Go.Proofs.Ytochpomddfjkoaa.Ex
