/- What comes of two things, by the program: alike; asked: both values may be. (Made by tools/gen_both.py.) -/
import Derived.Test.YtochpomddfjkoaaExprAs
namespace Go.Proofs.Ytochpomddfjkoaa.Ex
open Go.RowKit Go.Proofs.Ytochpomddfjkoaa.BM Go.Proofs.Ytochpomddfjkoaa.LM Go.Proofs.Ytochpomddfjkoaa.VaM Go.Proofs.Ytochpomddfjkoaa.Va Go.Proofs.Ytochpomddfjkoaa.ExM Go.Proofs.Ytochpomddfjkoaa.EvM

set_option maxRecDepth 100000 in
set_option maxHeartbeats 8000000 in
theorem alike_any (a b : V) (w : World) (ha : VaM.May a) (hb : VaM.May b) : Calls Try.prog 67 #[th a, th b] w fun e w' => e = .returned (laid (two 6 a b)) ∧ Below w.heap.size w w' := by
  have q := eql_v
  rcases may_ways ha with ⟨n, rfl⟩ | ⟨x, rfl⟩ | ⟨s, rfl⟩ | ⟨n, rfl⟩ <;> rcases may_ways hb with ⟨m, rfl⟩ | ⟨y, rfl⟩ | ⟨t, rfl⟩ | ⟨m, rfl⟩
  · rw [th_0, th_0]
    have z0 := meth_k0
    have z1 := meth_v0
    rw [two_6 (a := ⟨0, n, e0⟩) (b := ⟨0, m, e0⟩) rfl, laid_ok, th_1]
    have hv1 := value_number n
    have hv2 := value_number m
    obtain ⟨z, hz⟩ : ∃ z, z = decide ((⟨0, n, e0⟩ : V) = ⟨0, m, e0⟩) := ⟨_, rfl⟩
    rw [← hz]
    rw [← same_dec] at hz
    obtain ⟨⟨ak, an, az⟩, hA⟩ : ∃ A : V, A = ⟨0, n, e0⟩ := ⟨_, rfl⟩
    obtain ⟨⟨bk, bn, bz⟩, hB⟩ : ∃ A : V, A = ⟨0, m, e0⟩ := ⟨_, rfl⟩
    rw [← hA] at hv1 hz
    rw [← hB] at hv2 hz
    have HZ := Lib.hid hz
    unfold ValueV at hv1 hv2
    simp only at hv1 hv2
    have HV1 := Lib.hid hv1
    have HV2 := Lib.hid hv2
    clear ha hb hA hB hz hv1 hv2
    go_enter Try.func67, Try.ntmps67
    go_wp2_with fail
    refine (kind_number _ _).mono ?_
    rintro e w1 ⟨rfl, rfl⟩
    go_wp2_with fail
    refine (kind_number _ _).mono ?_
    rintro e w1 ⟨rfl, rfl⟩
    go_wp2_with fail
    refine (HV1.out _).mono ?_
    rintro e w1 ⟨rfl, hb1⟩
    have HB1 := Lib.hid hb1
    clear hb1
    go_wp2_with fail
    refine (HV2.out _).mono ?_
    rintro e w2 ⟨rfl, hb2⟩
    have HB2 := Lib.hid (bt HB1.out hb2)
    clear hb2
    go_wp2_with fail
    go_ret2
    exact ⟨ret_v (x := .tuple #[.iface 69 (.bool (same ⟨ak, an, az⟩ ⟨bk, bn, bz⟩)), .int .i64 0]) (by rw [HZ.out]), HB2.out⟩
  · rw [th_0, th_1]
    have z0 := meth_k0
    have z1 := meth_k1
    rw [two_k (a := ⟨0, n, e0⟩) (b := truth y) (show (0 : Int) ≠ 1 by decide), laid_no _ (by decide)]
    clear ha hb q
    go_enter Try.func67, Try.ntmps67
    go_wp2_with fail
    refine (kind_number _ _).mono ?_
    rintro e w1 ⟨rfl, rfl⟩
    go_wp2_with fail
    refine (kind_truth _ _).mono ?_
    rintro e w1 ⟨rfl, rfl⟩
    go_wp2_with fail
    go_ret2
    exact ⟨rfl, Below.refl _ _⟩
  · rw [th_0, th_2]
    have z0 := meth_k0
    have z1 := meth_k2
    rw [two_k (a := ⟨0, n, e0⟩) (b := ⟨2, 0, t⟩) (show (0 : Int) ≠ 2 by decide), laid_no _ (by decide)]
    clear ha hb q
    go_enter Try.func67, Try.ntmps67
    go_wp2_with fail
    refine (kind_number _ _).mono ?_
    rintro e w1 ⟨rfl, rfl⟩
    go_wp2_with fail
    refine (kind_text _ _).mono ?_
    rintro e w1 ⟨rfl, rfl⟩
    go_wp2_with fail
    go_ret2
    exact ⟨rfl, Below.refl _ _⟩
  · rw [th_0, th_3]
    have z0 := meth_k0
    have z1 := meth_k3
    rw [two_k (a := ⟨0, n, e0⟩) (b := ⟨3, m, e0⟩) (show (0 : Int) ≠ 3 by decide), laid_no _ (by decide)]
    clear ha hb q
    go_enter Try.func67, Try.ntmps67
    go_wp2_with fail
    refine (kind_number _ _).mono ?_
    rintro e w1 ⟨rfl, rfl⟩
    go_wp2_with fail
    refine (kind_moment _ _).mono ?_
    rintro e w1 ⟨rfl, rfl⟩
    go_wp2_with fail
    go_ret2
    exact ⟨rfl, Below.refl _ _⟩
  · rw [th_1, th_0]
    have z0 := meth_k1
    have z1 := meth_k0
    rw [two_k (a := truth x) (b := ⟨0, m, e0⟩) (show (1 : Int) ≠ 0 by decide), laid_no _ (by decide)]
    clear ha hb q
    go_enter Try.func67, Try.ntmps67
    go_wp2_with fail
    refine (kind_truth _ _).mono ?_
    rintro e w1 ⟨rfl, rfl⟩
    go_wp2_with fail
    refine (kind_number _ _).mono ?_
    rintro e w1 ⟨rfl, rfl⟩
    go_wp2_with fail
    go_ret2
    exact ⟨rfl, Below.refl _ _⟩
  · rw [th_1, th_1]
    have z0 := meth_k1
    have z1 := meth_v1
    rw [two_6 (a := truth x) (b := truth y) rfl, laid_ok, th_1]
    have hv1 := value_truth x
    have hv2 := value_truth y
    obtain ⟨z, hz⟩ : ∃ z, z = decide ((truth x : V) = truth y) := ⟨_, rfl⟩
    rw [← hz]
    rw [← same_dec] at hz
    obtain ⟨⟨ak, an, az⟩, hA⟩ : ∃ A : V, A = truth x := ⟨_, rfl⟩
    obtain ⟨⟨bk, bn, bz⟩, hB⟩ : ∃ A : V, A = truth y := ⟨_, rfl⟩
    rw [← hA] at hv1 hz
    rw [← hB] at hv2 hz
    have HZ := Lib.hid hz
    unfold ValueV at hv1 hv2
    simp only at hv1 hv2
    have HV1 := Lib.hid hv1
    have HV2 := Lib.hid hv2
    clear ha hb hA hB hz hv1 hv2
    go_enter Try.func67, Try.ntmps67
    go_wp2_with fail
    refine (kind_truth _ _).mono ?_
    rintro e w1 ⟨rfl, rfl⟩
    go_wp2_with fail
    refine (kind_truth _ _).mono ?_
    rintro e w1 ⟨rfl, rfl⟩
    go_wp2_with fail
    refine (HV1.out _).mono ?_
    rintro e w1 ⟨rfl, hb1⟩
    have HB1 := Lib.hid hb1
    clear hb1
    go_wp2_with fail
    refine (HV2.out _).mono ?_
    rintro e w2 ⟨rfl, hb2⟩
    have HB2 := Lib.hid (bt HB1.out hb2)
    clear hb2
    go_wp2_with fail
    go_ret2
    exact ⟨ret_v (x := .tuple #[.iface 69 (.bool (same ⟨ak, an, az⟩ ⟨bk, bn, bz⟩)), .int .i64 0]) (by rw [HZ.out]), HB2.out⟩
  · rw [th_1, th_2]
    have z0 := meth_k1
    have z1 := meth_k2
    rw [two_k (a := truth x) (b := ⟨2, 0, t⟩) (show (1 : Int) ≠ 2 by decide), laid_no _ (by decide)]
    clear ha hb q
    go_enter Try.func67, Try.ntmps67
    go_wp2_with fail
    refine (kind_truth _ _).mono ?_
    rintro e w1 ⟨rfl, rfl⟩
    go_wp2_with fail
    refine (kind_text _ _).mono ?_
    rintro e w1 ⟨rfl, rfl⟩
    go_wp2_with fail
    go_ret2
    exact ⟨rfl, Below.refl _ _⟩
  · rw [th_1, th_3]
    have z0 := meth_k1
    have z1 := meth_k3
    rw [two_k (a := truth x) (b := ⟨3, m, e0⟩) (show (1 : Int) ≠ 3 by decide), laid_no _ (by decide)]
    clear ha hb q
    go_enter Try.func67, Try.ntmps67
    go_wp2_with fail
    refine (kind_truth _ _).mono ?_
    rintro e w1 ⟨rfl, rfl⟩
    go_wp2_with fail
    refine (kind_moment _ _).mono ?_
    rintro e w1 ⟨rfl, rfl⟩
    go_wp2_with fail
    go_ret2
    exact ⟨rfl, Below.refl _ _⟩
  · rw [th_2, th_0]
    have z0 := meth_k2
    have z1 := meth_k0
    rw [two_k (a := ⟨2, 0, s⟩) (b := ⟨0, m, e0⟩) (show (2 : Int) ≠ 0 by decide), laid_no _ (by decide)]
    clear ha hb q
    go_enter Try.func67, Try.ntmps67
    go_wp2_with fail
    refine (kind_text _ _).mono ?_
    rintro e w1 ⟨rfl, rfl⟩
    go_wp2_with fail
    refine (kind_number _ _).mono ?_
    rintro e w1 ⟨rfl, rfl⟩
    go_wp2_with fail
    go_ret2
    exact ⟨rfl, Below.refl _ _⟩
  · rw [th_2, th_1]
    have z0 := meth_k2
    have z1 := meth_k1
    rw [two_k (a := ⟨2, 0, s⟩) (b := truth y) (show (2 : Int) ≠ 1 by decide), laid_no _ (by decide)]
    clear ha hb q
    go_enter Try.func67, Try.ntmps67
    go_wp2_with fail
    refine (kind_text _ _).mono ?_
    rintro e w1 ⟨rfl, rfl⟩
    go_wp2_with fail
    refine (kind_truth _ _).mono ?_
    rintro e w1 ⟨rfl, rfl⟩
    go_wp2_with fail
    go_ret2
    exact ⟨rfl, Below.refl _ _⟩
  · rw [th_2, th_2]
    have z0 := meth_k2
    have z1 := meth_v2
    rw [two_6 (a := ⟨2, 0, s⟩) (b := ⟨2, 0, t⟩) rfl, laid_ok, th_1]
    have hv1 := value_text s
    have hv2 := value_text t
    obtain ⟨z, hz⟩ : ∃ z, z = decide ((⟨2, 0, s⟩ : V) = ⟨2, 0, t⟩) := ⟨_, rfl⟩
    rw [← hz]
    rw [← same_dec] at hz
    obtain ⟨⟨ak, an, az⟩, hA⟩ : ∃ A : V, A = ⟨2, 0, s⟩ := ⟨_, rfl⟩
    obtain ⟨⟨bk, bn, bz⟩, hB⟩ : ∃ A : V, A = ⟨2, 0, t⟩ := ⟨_, rfl⟩
    rw [← hA] at hv1 hz
    rw [← hB] at hv2 hz
    have HZ := Lib.hid hz
    unfold ValueV at hv1 hv2
    simp only at hv1 hv2
    have HV1 := Lib.hid hv1
    have HV2 := Lib.hid hv2
    clear ha hb hA hB hz hv1 hv2
    go_enter Try.func67, Try.ntmps67
    go_wp2_with fail
    refine (kind_text _ _).mono ?_
    rintro e w1 ⟨rfl, rfl⟩
    go_wp2_with fail
    refine (kind_text _ _).mono ?_
    rintro e w1 ⟨rfl, rfl⟩
    go_wp2_with fail
    refine (HV1.out _).mono ?_
    rintro e w1 ⟨rfl, hb1⟩
    have HB1 := Lib.hid hb1
    clear hb1
    go_wp2_with fail
    refine (HV2.out _).mono ?_
    rintro e w2 ⟨rfl, hb2⟩
    have HB2 := Lib.hid (bt HB1.out hb2)
    clear hb2
    go_wp2_with fail
    go_ret2
    exact ⟨ret_v (x := .tuple #[.iface 69 (.bool (same ⟨ak, an, az⟩ ⟨bk, bn, bz⟩)), .int .i64 0]) (by rw [HZ.out]), HB2.out⟩
  · rw [th_2, th_3]
    have z0 := meth_k2
    have z1 := meth_k3
    rw [two_k (a := ⟨2, 0, s⟩) (b := ⟨3, m, e0⟩) (show (2 : Int) ≠ 3 by decide), laid_no _ (by decide)]
    clear ha hb q
    go_enter Try.func67, Try.ntmps67
    go_wp2_with fail
    refine (kind_text _ _).mono ?_
    rintro e w1 ⟨rfl, rfl⟩
    go_wp2_with fail
    refine (kind_moment _ _).mono ?_
    rintro e w1 ⟨rfl, rfl⟩
    go_wp2_with fail
    go_ret2
    exact ⟨rfl, Below.refl _ _⟩
  · rw [th_3, th_0]
    have z0 := meth_k3
    have z1 := meth_k0
    rw [two_k (a := ⟨3, n, e0⟩) (b := ⟨0, m, e0⟩) (show (3 : Int) ≠ 0 by decide), laid_no _ (by decide)]
    clear ha hb q
    go_enter Try.func67, Try.ntmps67
    go_wp2_with fail
    refine (kind_moment _ _).mono ?_
    rintro e w1 ⟨rfl, rfl⟩
    go_wp2_with fail
    refine (kind_number _ _).mono ?_
    rintro e w1 ⟨rfl, rfl⟩
    go_wp2_with fail
    go_ret2
    exact ⟨rfl, Below.refl _ _⟩
  · rw [th_3, th_1]
    have z0 := meth_k3
    have z1 := meth_k1
    rw [two_k (a := ⟨3, n, e0⟩) (b := truth y) (show (3 : Int) ≠ 1 by decide), laid_no _ (by decide)]
    clear ha hb q
    go_enter Try.func67, Try.ntmps67
    go_wp2_with fail
    refine (kind_moment _ _).mono ?_
    rintro e w1 ⟨rfl, rfl⟩
    go_wp2_with fail
    refine (kind_truth _ _).mono ?_
    rintro e w1 ⟨rfl, rfl⟩
    go_wp2_with fail
    go_ret2
    exact ⟨rfl, Below.refl _ _⟩
  · rw [th_3, th_2]
    have z0 := meth_k3
    have z1 := meth_k2
    rw [two_k (a := ⟨3, n, e0⟩) (b := ⟨2, 0, t⟩) (show (3 : Int) ≠ 2 by decide), laid_no _ (by decide)]
    clear ha hb q
    go_enter Try.func67, Try.ntmps67
    go_wp2_with fail
    refine (kind_moment _ _).mono ?_
    rintro e w1 ⟨rfl, rfl⟩
    go_wp2_with fail
    refine (kind_text _ _).mono ?_
    rintro e w1 ⟨rfl, rfl⟩
    go_wp2_with fail
    go_ret2
    exact ⟨rfl, Below.refl _ _⟩
  · rw [th_3, th_3]
    have z0 := meth_k3
    have z1 := meth_v3
    rw [two_6 (a := ⟨3, n, e0⟩) (b := ⟨3, m, e0⟩) rfl, laid_ok, th_1]
    have hv1 := value_moment n
    have hv2 := value_moment m
    obtain ⟨z, hz⟩ : ∃ z, z = decide ((⟨3, n, e0⟩ : V) = ⟨3, m, e0⟩) := ⟨_, rfl⟩
    rw [← hz]
    rw [← same_dec] at hz
    obtain ⟨⟨ak, an, az⟩, hA⟩ : ∃ A : V, A = ⟨3, n, e0⟩ := ⟨_, rfl⟩
    obtain ⟨⟨bk, bn, bz⟩, hB⟩ : ∃ A : V, A = ⟨3, m, e0⟩ := ⟨_, rfl⟩
    rw [← hA] at hv1 hz
    rw [← hB] at hv2 hz
    have HZ := Lib.hid hz
    unfold ValueV at hv1 hv2
    simp only at hv1 hv2
    have HV1 := Lib.hid hv1
    have HV2 := Lib.hid hv2
    clear ha hb hA hB hz hv1 hv2
    go_enter Try.func67, Try.ntmps67
    go_wp2_with fail
    refine (kind_moment _ _).mono ?_
    rintro e w1 ⟨rfl, rfl⟩
    go_wp2_with fail
    refine (kind_moment _ _).mono ?_
    rintro e w1 ⟨rfl, rfl⟩
    go_wp2_with fail
    refine (HV1.out _).mono ?_
    rintro e w1 ⟨rfl, hb1⟩
    have HB1 := Lib.hid hb1
    clear hb1
    go_wp2_with fail
    refine (HV2.out _).mono ?_
    rintro e w2 ⟨rfl, hb2⟩
    have HB2 := Lib.hid (bt HB1.out hb2)
    clear hb2
    go_wp2_with fail
    go_ret2
    exact ⟨ret_v (x := .tuple #[.iface 69 (.bool (same ⟨ak, an, az⟩ ⟨bk, bn, bz⟩)), .int .i64 0]) (by rw [HZ.out]), HB2.out⟩
end Go.Proofs.Ytochpomddfjkoaa.Ex
