/- The walk of ValueCut: a beginning of a value's bytes is none; no condition. -/
import Derived.Test.YtkjfofljjgifdaaValueLaw
namespace Go.Proofs.Ytkjfofljjgifdaa.Va
open Go.RowKit Go.Proofs.Ytkjfofljjgifdaa.BM Go.Proofs.Ytkjfofljjgifdaa.LM Go.Proofs.Ytkjfofljjgifdaa.VaM

set_option maxRecDepth 100000 in
set_option maxHeartbeats 2000000 in
theorem cut_walk (k n : Int) (s : ByteArray) (at_ : Int) (w : World) (hv : (Lit.int .i64 k).wf = true ∧ (Lit.int .i64 n).wf = true ∧ s.size ≤ maxLen) (ha : (Lit.int .i64 at_).wf = true) :
    Calls Try.prog 8 #[.agg #[.int .i64 k, .int .i64 n, .string s], .int .i64 at_] w fun e w' => e = .returned (.bool true) ∧ Below w.heap.size w w' := by
  have hr : Rng ⟨k, n, s⟩ := rng_of hv.2.1
  have hpl := pv_len hr
  have HPut := Lib.hid (fun W => Put_any k n s W hr)
  have HX := Lib.hid (bx_new w (.int .i64 k) (.int .i64 n) (.string s))
  have HB := Lib.hid ((Below.refl w.heap.size w).alloc (Nat.le_refl _) (.cells #[.int .i64 k, .int .i64 n, .string s] 23))
  have HR := Lib.hid hr
  have hb := bounds_i64 ha
  clear hr hv ha
  go_enter Try.func8, Try.ntmps8
  go_wp2_with fail
  refine (awake_any _).mono ?_
  rintro e w1 ⟨rfl, hb1⟩
  obtain ⟨⟨p0, p1, p2⟩, _⟩ := HX.out.kept hb1
  have HB1 := Lib.hid (bt HB.out hb1)
  clear hb1 HB HX
  go_wp2_with fail
  refine (HPut.out _).mono ?_
  rintro e w2 ⟨A, c, rfl, h2, _, hb2⟩
  have HB2 := Lib.hid (bt HB1.out hb2)
  have HS := Lib.hid h2
  clear hb2 h2 HB1 p0 p1 p2 HPut
  obtain ⟨L, hL⟩ : ∃ L, L = (pv ⟨k, n, s⟩).length := ⟨_, rfl⟩
  rw [← hL] at hpl ⊢
  have HL := Lib.hid hL
  clear hL
  by_cases hm : May ⟨k, n, s⟩
  · rw [decide_eq_true hm]
    have hpv : pv ⟨k, n, s⟩ = putV ⟨k, n, s⟩ := by rw [pv, if_pos hm]
    by_cases h0 : at_ < 0
    · clear hm hpv
      go_wp2_with fail
      go_ret
      exact ⟨ret_bool (by first | rfl | simp), HB2.out⟩
    · by_cases h1 : (L : Int) ≤ at_
      · clear hm hpv
        go_wp2_with fail
        go_ret
        exact ⟨ret_bool (by first | rfl | simp), HB2.out⟩
      · obtain ⟨j, hj⟩ := Int.eq_ofNat_of_zero_le (show 0 ≤ at_ by omega)
        subst hj
        have hjl : j < L := by omega
        have hc := HS.out.2.1
        rw [← HL.out] at hc
        have hsl := fun W => slice_hi W A L c j (by omega)
        have htk := Cut.slB_head HS.out j c (by omega) (Nat.le_refl _) (by rw [← HL.out]; omega)
        have hlt : ((pv ⟨k, n, s⟩).take j).length = j := by rw [List.length_take, ← HL.out]; omega
        have hget := Get_any A _ c w2 htk
        rw [hlt] at hget
        have hg : gotP (getP ((pv ⟨k, n, s⟩).take j)) = (⟨0, 0, e0⟩, 0, false) := by
          rw [hpv, getP_cut HR.out hm j (by rw [← hpv, ← HL.out]; exact hjl)]
          rfl
        have HGet := Lib.hid hget
        have HG := Lib.hid hg
        clear hm hpv htk hlt hget hg
        go_wp2_with fail
        refine HGet.out.mono ?_
        rintro e w3 ⟨rfl, hb3⟩
        rw [HG.out]
        simp only [got3]
        have HB3 := Lib.hid (bt HB2.out (bt hb3 ((Below.refl w3.heap.size w3).alloc (Nat.le_refl _) (.cells #[.int .i64 0, .int .i64 0, .string e0] 23))))
        clear hb3
        unfold e0 at *
        go_wp2_with fail
        go_ret
        exact ⟨ret_bool (by first | rfl | simp), HB3.out⟩
  · rw [decide_eq_false hm]
    clear hm
    go_wp2_with fail
    go_ret
    exact ⟨ret_bool (by first | rfl | simp), HB2.out⟩
end Go.Proofs.Ytkjfofljjgifdaa.Va
