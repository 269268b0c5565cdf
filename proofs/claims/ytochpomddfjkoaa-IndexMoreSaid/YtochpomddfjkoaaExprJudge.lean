/- What comes of two things, by the program: judge; asked: both values may be. (Made by tools/gen_both.py.) -/
import Derived.Test.YtochpomddfjkoaaExprAs
namespace Go.Proofs.Ytochpomddfjkoaa.Ex
open Go.RowKit Go.Proofs.Ytochpomddfjkoaa.BM Go.Proofs.Ytochpomddfjkoaa.LM Go.Proofs.Ytochpomddfjkoaa.VaM Go.Proofs.Ytochpomddfjkoaa.Va Go.Proofs.Ytochpomddfjkoaa.ExM Go.Proofs.Ytochpomddfjkoaa.EvM

set_option maxRecDepth 100000 in
set_option maxHeartbeats 8000000 in
theorem judge_any (c : Int) (a b : V) (w : World) (ha : VaM.May a) (hb : VaM.May b) (hc : c = 7 ∨ c = 8) : Calls Try.prog 68 #[.int .i64 c, th a, th b] w fun e w' => e = .returned (laid (two c a b)) ∧ Below w.heap.size w w' := by
  have hno : (a.k = 1 ∧ b.k = 1) ∨ two c a b = (v0, 5) := by
    by_cases h : a.k = b.k
    · by_cases h1 : a.k = 1
      · exact Or.inl ⟨h1, by omega⟩
      · exact Or.inr (two_78n h hc h1)
    · exact Or.inr (two_k h)
  rcases may_ways ha with ⟨n, rfl⟩ | ⟨x, rfl⟩ | ⟨s, rfl⟩ | ⟨n, rfl⟩
  · rw [th_0, show two c ⟨0, n, e0⟩ b = (v0, 5) from hno.resolve_left (fun h => absurd h.1 (show ¬ (0 : Int) = 1 by decide)), laid_no _ (by decide)]
    have z0 := meth_k0
    clear ha hb hc hno
    obtain ⟨B, hB⟩ : ∃ B, B = th b := ⟨_, rfl⟩
    rw [← hB]
    clear hB
    go_enter Try.func68, Try.ntmps68
    go_wp2_with fail
    refine (kind_number _ _).mono ?_
    rintro e w4 ⟨rfl, rfl⟩
    go_wp2_with fail
    go_ret2
    exact ⟨rfl, Below.refl _ _⟩
  · rcases may_ways hb with ⟨m, rfl⟩ | ⟨y, rfl⟩ | ⟨t, rfl⟩ | ⟨m, rfl⟩
    · rw [th_1, th_0, show two c (truth x) ⟨0, m, e0⟩ = (v0, 5) from hno.resolve_left (fun h => absurd h.2 (show ¬ (0 : Int) = 1 by decide)), laid_no _ (by decide)]
      have z0 := meth_k1
      have z1 := meth_k0
      clear ha hb hc hno
      go_enter Try.func68, Try.ntmps68
      go_wp2_with fail
      refine (kind_truth _ _).mono ?_
      rintro e w4 ⟨rfl, rfl⟩
      go_wp2_with fail
      refine (kind_number _ _).mono ?_
      rintro e w4 ⟨rfl, rfl⟩
      go_wp2_with fail
      go_ret2
      exact ⟨rfl, Below.refl _ _⟩
    · rw [th_1, th_1, two_78 (a := truth x) (b := truth y) rfl hc rfl, laid_ok, th_1]
      have z0 := meth_k1
      have z1 := is_1
      clear ha hb hno
      rcases hc with rfl | rfl
      all_goals
        cases x <;> cases y
        all_goals
          go_enter Try.func68, Try.ntmps68
          go_wp2_with fail
          refine (kind_truth _ _).mono ?_
          rintro e w4 ⟨rfl, rfl⟩
          go_wp2_with fail
          refine (kind_truth _ _).mono ?_
          rintro e w4 ⟨rfl, rfl⟩
          go_wp2_with fail
          go_quiet (fail)
          go_wp2_with fail
          go_ret2
          exact ⟨rfl, below_drewN (Below.refl _ _) _⟩
    · rw [th_1, th_2, show two c (truth x) ⟨2, 0, t⟩ = (v0, 5) from hno.resolve_left (fun h => absurd h.2 (show ¬ (2 : Int) = 1 by decide)), laid_no _ (by decide)]
      have z0 := meth_k1
      have z1 := meth_k2
      clear ha hb hc hno
      go_enter Try.func68, Try.ntmps68
      go_wp2_with fail
      refine (kind_truth _ _).mono ?_
      rintro e w4 ⟨rfl, rfl⟩
      go_wp2_with fail
      refine (kind_text _ _).mono ?_
      rintro e w4 ⟨rfl, rfl⟩
      go_wp2_with fail
      go_ret2
      exact ⟨rfl, Below.refl _ _⟩
    · rw [th_1, th_3, show two c (truth x) ⟨3, m, e0⟩ = (v0, 5) from hno.resolve_left (fun h => absurd h.2 (show ¬ (3 : Int) = 1 by decide)), laid_no _ (by decide)]
      have z0 := meth_k1
      have z1 := meth_k3
      clear ha hb hc hno
      go_enter Try.func68, Try.ntmps68
      go_wp2_with fail
      refine (kind_truth _ _).mono ?_
      rintro e w4 ⟨rfl, rfl⟩
      go_wp2_with fail
      refine (kind_moment _ _).mono ?_
      rintro e w4 ⟨rfl, rfl⟩
      go_wp2_with fail
      go_ret2
      exact ⟨rfl, Below.refl _ _⟩
  · rw [th_2, show two c ⟨2, 0, s⟩ b = (v0, 5) from hno.resolve_left (fun h => absurd h.1 (show ¬ (2 : Int) = 1 by decide)), laid_no _ (by decide)]
    have z0 := meth_k2
    clear ha hb hc hno
    obtain ⟨B, hB⟩ : ∃ B, B = th b := ⟨_, rfl⟩
    rw [← hB]
    clear hB
    go_enter Try.func68, Try.ntmps68
    go_wp2_with fail
    refine (kind_text _ _).mono ?_
    rintro e w4 ⟨rfl, rfl⟩
    go_wp2_with fail
    go_ret2
    exact ⟨rfl, Below.refl _ _⟩
  · rw [th_3, show two c ⟨3, n, e0⟩ b = (v0, 5) from hno.resolve_left (fun h => absurd h.1 (show ¬ (3 : Int) = 1 by decide)), laid_no _ (by decide)]
    have z0 := meth_k3
    clear ha hb hc hno
    obtain ⟨B, hB⟩ : ∃ B, B = th b := ⟨_, rfl⟩
    rw [← hB]
    clear hB
    go_enter Try.func68, Try.ntmps68
    go_wp2_with fail
    refine (kind_moment _ _).mono ?_
    rintro e w4 ⟨rfl, rfl⟩
    go_wp2_with fail
    go_ret2
    exact ⟨rfl, Below.refl _ _⟩
end Go.Proofs.Ytochpomddfjkoaa.Ex
