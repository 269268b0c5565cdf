/- QueryCut: for every input the law returns true, and each argument reads afterwards as it read before. No condition.
  The walk is the theorem Go.Proofs.Ytbmdkibmfkmjoaa.Qy.cut_walk. -/
import Derived.Test.YtbmdkibmfkmjoaaChC
import Derived.Test.YtbmdkibmfkmjoaaRows
import Derived.WalkKit
import Derived.ProofKit
import Derived.OpenShut
import Derived.ShutString
import Derived.ChangeOld
import Derived.Below

namespace Go.Proofs.Ytbmdkibmfkmjoaa.Qy
open Go.RowKit Go.Proofs.Ytbmdkibmfkmjoaa.BM Go.Proofs.Ytbmdkibmfkmjoaa.LM Go.Proofs.Ytbmdkibmfkmjoaa.LeM Go.Proofs.Ytbmdkibmfkmjoaa.VaM Go.Proofs.Ytbmdkibmfkmjoaa.ExM Go.Proofs.Ytbmdkibmfkmjoaa.QyM
open Go.Proofs.Ytbmdkibmfkmjoaa.Ex (SlO slO_none)
open Go.Proofs.Ytbmdkibmfkmjoaa.Va (ret_v)

set_option maxRecDepth 100000 in
set_option maxHeartbeats 4000000 in
theorem cut_walk (qw qa qi qf : Int) (a : Option Addr) (len cap : Nat) (at' : Int) (w : World) (hs : Op.ArgQ w qw qa qi qf a len cap) (_ha : (Lit.int .i64 at').wf = true) :
    Calls Try.prog 5 #[.agg #[.slice a len cap, .int .i64 qw, .int .i64 qa, .int .i64 qi, .int .i64 qf], .int .i64 at'] w fun e w' => e = .returned (.bool true) ∧ Below w.heap.size w w' := by
  obtain ⟨p, hlen, hS, hfine⟩ := hs
  have hrng : RngQ ⟨p, qw, qa, qi, qf⟩ := slSt_rng hS rfl
  have hF := fun W (hW : Below w.heap.size w W) => Few_any ⟨p, qw, qa, qi, qf⟩ a cap W (hS.kept hW)
  have hP := fun W (hW : Below w.heap.size w W) => Put_any ⟨p, qw, qa, qi, qf⟩ a cap W (hS.kept hW) hrng
  unfold Putted agQ at hP
  unfold agQ at hF
  obtain ⟨q, hq⟩ : ∃ q : Q, q = ⟨p, qw, qa, qi, qf⟩ := ⟨_, rfl⟩
  simp only [hlen, ← hq] at hF hP
  rw [← hq] at hrng
  have HRng := Lib.hid hrng
  have HF := Lib.hid hF
  have HP := Lib.hid hP
  have HX := Lib.hid (bxQ5_new w a len cap qw qa qi qf)
  have HB := Lib.hid (below_box w a len cap qw qa qi qf)
  clear hF hP hS hfine hlen hrng hq
  go_enter Try.func5, Try.ntmps5
  go_wp2_with fail
  refine (awake_any _).mono ?_
  rintro e w1 ⟨rfl, hb⟩
  have HX1 := Lib.hid (HX.out.kept hb)
  have HB1 := Lib.hid (bt HB.out hb)
  clear hb HX HB
  obtain ⟨p0, p1, p2, p3, p4⟩ := bx5 HX1.out
  go_wp2_with fail
  refine (HF.out _ HB1.out).mono ?_
  rintro e w2 ⟨rfl, hb⟩
  obtain ⟨P, hP⟩ : ∃ P, P = decide (Few q) := ⟨_, rfl⟩
  rw [← hP]
  have HX2 := Lib.hid (HX1.out.kept hb)
  have HB2 := Lib.hid (bt HB1.out hb)
  clear hb HX1 HB1 p0 p1 p2 p3 p4 hP HF
  obtain ⟨p0, p1, p2, p3, p4⟩ := bx5 HX2.out
  go_wp2_with fail
  refine (HP.out _ HB2.out).mono ?_
  rintro e w3 ⟨A, c, rfl, h3, hb⟩
  obtain ⟨L, hL⟩ : ∃ L, L = (QyM.pv q).length := ⟨_, rfl⟩
  rw [← hL]
  have HL := Lib.hid hL
  have HS3 := Lib.hid h3
  have HB3 := Lib.hid (bt HB2.out hb)
  clear hb HX2 HB2 p0 p1 p2 p3 p4 h3 HP hL
  cases P
  · by_cases hm : May q
    · rw [decide_eq_true hm]
      clear hm
      go_wp2_with fail
      go_ret
      exact ⟨ret_bool (by first | rfl | simp), HB3.out⟩
    · rw [decide_eq_false hm]
      clear hm
      go_wp2_with fail
      go_ret
      exact ⟨ret_bool (by first | rfl | simp), HB3.out⟩
  · by_cases hm : May q
    · rw [decide_eq_true hm]
      have hpv : QyM.pv q = pQ q := by rw [QyM.pv, if_pos hm]
      have hw : at' < 0 ∨ (0 ≤ at' ∧ (L : Int) ≤ at') ∨ (0 ≤ at' ∧ at' < (L : Int)) := by omega
      rcases hw with q' | ⟨q1, q2⟩ | ⟨q1, q2⟩
      · clear hm hpv
        go_wp2_with fail
        go_ret
        exact ⟨ret_bool (by first | rfl | simp), HB3.out⟩
      · have hd1 : decide (at' < 0) = false := by rw [decide_eq_false_iff_not]; omega
        clear hm hpv
        go_wp2_with fail
        go_ret
        exact ⟨ret_bool (by first | rfl | simp), HB3.out⟩
      · obtain ⟨k, rfl⟩ := Int.eq_ofNat_of_zero_le q1
        have hd1 : decide ((k : Int) < 0) = false := by rw [decide_eq_false_iff_not]; omega
        have hd2 : decide ((L : Int) ≤ (k : Int)) = false := by rw [decide_eq_false_iff_not]; omega
        have hkL : k < L := by omega
        have hcap := HS3.out.2.1
        rw [← HL.out] at hcap
        have hsl := fun W => slice_hi W A L c k (by omega)
        have hget := Get_any A ((QyM.pv q).take k) c w3 (Cut.slB_head HS3.out k c (by omega) (Nat.le_refl _) (by rw [← HL.out]; omega))
        have hcut : gQ ((QyM.pv q).take k) = none := by
          rw [hpv]
          exact law_q.cut ⟨okQ_of hm HRng.out, hm⟩ k (by rw [← hpv, ← HL.out]; exact hkL)
        have hlt : ((QyM.pv q).take k).length = k := by rw [List.length_take, ← HL.out]; omega
        unfold GotsQ agQ at hget
        simp only [hcut, gotQ, QyM.q0, hlt, List.length_nil] at hget
        have HGet := Lib.hid hget
        clear hm hpv hget hcut hlt
        go_wp2_with fail
        refine HGet.out.mono ?_
        rintro e w4 ⟨A4, c4, rfl, _, hb⟩
        have HB4 := Lib.hid (bt HB3.out (bt hb (below_box w4 A4 0 c4 0 0 0 0)))
        clear hb
        go_wp2_with fail
        go_ret
        exact ⟨ret_bool (by first | rfl | simp), HB4.out⟩
    · rw [decide_eq_false hm]
      clear hm
      go_wp2_with fail
      go_ret
      exact ⟨ret_bool (by first | rfl | simp), HB3.out⟩
end Go.Proofs.Ytbmdkibmfkmjoaa.Qy

namespace Go.Proofs.Ytbmdkibmfkmjoaa.queryCut
open Go.ChangeShapes Go.WideShapes Go.ChangeAt Go.RowKit

theorem own : ownKnob Try.prog.godebug = none := by kernel_rfl
theorem laidOut : laidOutB Try.prog = true := by kernel_rfl

set_option maxRecDepth 100000 in
theorem lifted (os : Os) (started : os.Started) (H : Type) (enc : TypeId × Value → H) :
    ReturnsInHanded {} Try.checked os 5 .any (Rows.queryCutSpec.pre6 enc Try.prog Try.f5 Rows.queryCutRow.domain false) (Rows.queryCutSpec.post enc Try.prog Try.f5 false true false false) := by
  refine returnsInHanded_of_change (C := Try.checked) own started (by kernel_rfl) Try.func5
    (ChangeSpec.witness6 (enc := enc) (C := Try.checked) false ⟨#[], #[.agg #[.slice none 0 0, .int .i64 0, .int .i64 0, .int .i64 0, .int .i64 0], .int .i64 0], []⟩ 8 (by kernel_rfl) (by kernel_rfl) (by kernel_rfl) (by kernel_rfl)) ?_
  intro W base args ds gs before hval0 hW hcnd _
  have hval : ∀ (j : Nat) t v, Try.f5.params[j]? = some t → args[j]? = some v → Value.okWide Try.prog W .any base t v := hval0
  have hW' := hW
  obtain ⟨p, q, hA0, hV, rfl, hfz, hnd⟩ := hW
  have hA : DataW.TrodAll enc Try.prog W 0 (fun _ => true) true Try.f5.params.toList args.toList ds p := hA0
  rw [Try.params5] at hA hval
  obtain ⟨v0, vs0, d0, ds0, p0, q0, hargs, rfl, rfl, h0, r0⟩ := trodAll_cons hA
  obtain ⟨v1, vs1, d1, ds1, p1, q1, rfl, rfl, rfl, h1, r1⟩ := trodAll_cons r0
  obtain ⟨rfl, rfl, rfl⟩ := trodAll_nil r1
  obtain rfl : args = #[v0, v1] := by cases args; simp_all
  obtain ⟨rfl, rfl⟩ := trodVars_none hV
  have k0 := h0
  have lt0 : ∀ x ∈ p0, x.block < W.heap.size := by obtain ⟨m, hm⟩ := k0; exact DataW.trod_lt m _ _ _ hm
  obtain ⟨qw0, qa0, qi0, qf0, a0, len0, cap0, rfl, w0⟩ := Op.open_query (hval 0 24 v0 rfl rfl) h0
  obtain ⟨a1, rfl, rfl, rfl, w1⟩ := open_int Try.underlying3 (hval 1 3 v1 rfl rfl) h1
  clear hA0 hval0
  refine (Go.Proofs.Ytbmdkibmfkmjoaa.Qy.cut_walk qw0 qa0 qi0 qf0 a0 len0 cap0 a1 W w0 w1).mono fun e W' ⟨he, bel⟩ => ?_
  subst he
  exact ⟨_, rfl, _, _, _, [], _, [], hW', trodAll_mk1 (shut_bool Try.underlying4 _), (trodAll_cons_mk (Below.trod laidOut (by kernel_rfl) (of_decide_eq_true (by kernel_rfl)) k0 bel lt0) (trodAll_cons_mk (shut_int Try.underlying3 w1) trodAll_mk0)), rfl, bel.frame _, fun h => by cases h⟩

theorem over : Rows.queryCutRow.holds Try.pinned (OpenSpec.ofChange Rows.queryCutSpec) :=
  OpenClaim.holds_of_wide 5 Try.f5 rfl rfl rfl rfl rfl rfl rfl ⟨rfl, rfl, rfl, rfl, rfl⟩ rfl rfl rfl rfl rfl (by kernel_rfl) Try.func5 (by kernel_rfl)
    (of_decide_eq_true (by kernel_rfl)) (by unfold Func.isWrapper; first | (rw [if_pos (by decide +kernel)]; kernel_rfl) | (rw [if_neg (by decide +kernel)]; exact ⟨rfl, rfl⟩))
    (fun os started H enc _ => lifted os started H enc)

theorem proved : Rows.QueryCutSaid := over
#print axioms proved
end Go.Proofs.Ytbmdkibmfkmjoaa.queryCut
