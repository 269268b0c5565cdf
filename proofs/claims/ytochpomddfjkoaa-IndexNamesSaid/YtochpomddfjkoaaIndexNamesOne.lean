/- IndexNames: for every input the law returns true, and each argument reads afterwards as it read before. No condition.
  The walk is the theorem Go.Proofs.Ytochpomddfjkoaa.Ix.names_walk. -/
import Derived.Test.YtochpomddfjkoaaChB
import Derived.Test.YtochpomddfjkoaaRows
import Derived.WalkKit
import Derived.ProofKit
import Derived.OpenShut
import Derived.ShutString
import Derived.ChangeOld
import Derived.Below

namespace Go.Proofs.Ytochpomddfjkoaa.Ix
open Go.RowKit Go.Proofs.Ytochpomddfjkoaa.BM Go.Proofs.Ytochpomddfjkoaa.LM Go.Proofs.Ytochpomddfjkoaa.VaM Go.Proofs.Ytochpomddfjkoaa.ExM Go.Proofs.Ytochpomddfjkoaa.QyM Go.Proofs.Ytochpomddfjkoaa.IxM
open Go.Proofs.Ytochpomddfjkoaa.Ex (SlO slO_none)
open Go.Proofs.Ytochpomddfjkoaa.Va (SlV slV_len Bx bx_new_t ret_v toList_beq)
open Go.Proofs.Ytochpomddfjkoaa.EvM (Ev v0)

theorem holds_empty (e : Ev) : holds e [] = true := rfl

set_option maxRecDepth 100000 in
set_option maxHeartbeats 8000000 in
theorem names_walk (ps : ByteArray) (pa : Option Addr) (pn pc : Nat) (es : ByteArray) (et : Int) (ea : Option Addr) (en ec : Nat) (w : World) (h0 : Op.ArgP w ps pa pn pc) (h1 : Op.ArgE w es et ea en ec) :
    Calls Try.prog 6 #[.agg #[.string ps, .slice pa pn pc], .agg #[.string es, .int .i64 et, .slice ea en ec]] w fun e w' => e = .returned (.bool true) ∧ Below w.heap.size w w' := by
  obtain ⟨f, hfn, hO, hps⟩ := h0
  obtain ⟨v, hvn, hV, hz⟩ := h1
  have hl := slV_len hV
  have hD := fun W (hW : Below w.heap.size w W) => Ex.Few_any f pa pc W (hO.kept hW)
  have hHo := fun W (hW : Below w.heap.size w W) => Holds_any ⟨ps, f⟩ ⟨es, et, v⟩ pa pc ea ec W (hO.kept hW) (hV.kept hW) hz
  have hHe := fun W (hW : Below w.heap.size w W) => Holds_any ⟨ps, []⟩ ⟨es, et, v⟩ none 0 ea ec W (slO_none W) (hV.kept hW) hz
  unfold agPr holdsP at hHo hHe
  simp only [holds_empty, Bool.and_true, List.length_nil] at hHo hHe
  obtain ⟨b2, hb2⟩ : ∃ z, (ps.toList == es.toList) = z := ⟨_, rfl⟩
  have hb2' : decide (ps = es) = b2 := by rw [← hb2, toList_beq]
  obtain ⟨H, hH⟩ : ∃ H, H = holds ⟨es, et, v⟩ f := ⟨_, rfl⟩
  simp only [hb2', ← hH] at hHo hHe
  rw [hvn] at hl
  simp only [hfn, hvn] at hD hHo hHe
  obtain ⟨b4, hb4⟩ : ∃ b, b = decide (Ex.Few f) := ⟨_, rfl⟩
  simp only [← hb4] at hD
  have HD := Lib.hid hD
  have HHo := Lib.hid hHo
  have HHe := Lib.hid hHe
  have HV := Lib.hid hV
  have HVn := Lib.hid hvn
  obtain ⟨u1, hu1⟩ : ∃ u, u = w.alloc (.cells #[.string ps, .slice pa pn pc] 26) := ⟨_, rfl⟩
  have hs1 : u1.heap.size = w.heap.size + 1 := by rw [hu1]; simp
  have ha1 := below_pr w ps pa pn pc
  have hx1 := bxPr_new w ps pa pn pc
  rw [← hu1] at ha1 hx1
  have ha2 := (Below.refl u1.heap.size u1).alloc (Nat.le_refl _) (.cells #[.string es, .int .i64 et, .slice ea en ec] 29)
  have hx2 := bx_new_t u1 29 (.string es) (.int .i64 et) (.slice ea en ec)
  rw [hs1] at hx2
  have hk1 := hx1.kept ha2
  have hbb := bt ha1 ha2
  rw [hu1] at hx2 hk1 hbb
  have HX0 := Lib.hid hk1
  have HY0 := Lib.hid hx2
  have HB0 := Lib.hid hbb
  clear ha1 hx1 ha2 hx2 hk1 hbb hs1 hu1 u1 hD hHo hHe hb2' hb4 hH hO hV hz hps hfn hvn
  go_enter Try.func6, Try.ntmps6
  go_wp2_with fail
  refine (awake_any _).mono ?_
  rintro e w1 ⟨rfl, hb⟩
  have HB1 := Lib.hid (bt HB0.out hb)
  have HX1 := Lib.hid (HX0.out.kept hb)
  have HY1 := Lib.hid (HY0.out.kept hb)
  clear hb HB0 HX0 HY0
  obtain ⟨p0, p1⟩ := HX1.out.cells
  go_wp2_with fail
  refine (HD.out _ HB1.out).mono ?_
  rintro e w2 ⟨rfl, hb⟩
  have HB2 := Lib.hid (bt HB1.out hb)
  have HX2 := Lib.hid (HX1.out.kept hb)
  have HY2 := Lib.hid (HY1.out.kept hb)
  clear hb HB1 HX1 HY1 HD p0 p1
  obtain ⟨⟨q0, q1, q2⟩, _⟩ := HY2.out
  by_cases hpq : b4 = true ∧ en ≤ 10
  rotate_left
  · have hw : b4 = false ∨ (b4 = true ∧ decide ((10 : Int) < (en : Int)) = true) := by
      cases b4
      · exact .inl rfl
      · refine .inr ⟨rfl, ?_⟩
        rw [decide_eq_true_iff]
        have : ¬ en ≤ 10 := fun h => hpq ⟨rfl, h⟩
        omega
    clear hpq
    rcases hw with rfl | ⟨rfl, hd⟩
    all_goals
      go_wp2_with fail
      go_ret
      exact ⟨ret_v (x := .bool true) rfl, HB2.out⟩
  obtain ⟨rfl, h10⟩ := hpq
  have hd : decide ((10 : Int) < (en : Int)) = false := by rw [decide_eq_false_iff_not]; omega
  go_wp2_with fail
  clear q0 q1 q2 hd
  go_loopw [7] (fun i wr => ∃ j : Nat, i = .int .i64 j ∧ j ≤ en ∧ wr = w2) (fun i _ => en - (intOf i).toNat)
  case atStart => exact ⟨0, rfl, Nat.zero_le _, rfl⟩
  case round =>
    obtain ⟨j, rfl, hj, rfl⟩ := hrel
    obtain ⟨⟨q0, q1, q2⟩, _⟩ := HY2.out
    by_cases hjn : j < en
    · obtain ⟨b, q, hix, hc, hsz, _⟩ := HV.out.at v0 j (by rw [HVn.out]; exact hjn)
      obtain ⟨⟨fk, fn, fs⟩, hf⟩ : ∃ f, f = v.getD j v0 := ⟨_, rfl⟩
      rw [← hf] at hc hsz
      obtain ⟨_, _, c0⟩ := hc wr HB2.out
      simp only at c0 hsz
      unfold maxLen at hsz
      have hi := fun W => hix W en ec hjn
      clear hc hix hf
      by_cases h60 : fs.size ≤ 100
      · have hd3 : decide ((100 : Int) < (fs.size : Int)) = false := by rw [decide_eq_false_iff_not]; omega
        clear h60
        go_wp2_with fail
        go_roundw
        case rel => exact ⟨j + 1, by go_num, by omega, by trivial⟩
        case measure => simp [intOf]; omega
      · have hd3 : decide ((100 : Int) < (fs.size : Int)) = true := by rw [decide_eq_true_iff]; omega
        clear h60
        go_wp2_with fail
        go_ret
        exact ⟨ret_v (x := .bool true) rfl, HB2.out⟩
    · obtain rfl : j = en := by omega
      obtain ⟨p0, p1⟩ := HX2.out.cells
      clear hjn hj h10
      go_wp2_with fail
      refine (HHo.out _ HB2.out).mono ?_
      rintro e w3 ⟨rfl, hb⟩
      have HB3 := Lib.hid (bt HB2.out hb)
      have HX3 := Lib.hid (HX2.out.kept hb)
      have HY3 := Lib.hid (HY2.out.kept hb)
      clear hb HB2 HX2 HY2 HHo p0 p1 q0 q1 q2
      obtain ⟨p0, p1⟩ := HX3.out.cells
      obtain ⟨⟨q0, q1, q2⟩, _⟩ := HY3.out
      go_wp2_with fail
      refine (HHe.out _ HB3.out).mono ?_
      rintro e w4 ⟨rfl, hb⟩
      have HB4 := Lib.hid (bt HB3.out hb)
      have HX4 := Lib.hid (HX3.out.kept hb)
      have HY4 := Lib.hid (HY3.out.kept hb)
      clear hb HB3 HX3 HY3 HHe p0 p1 q0 q1 q2
      obtain ⟨p0, p1⟩ := HX4.out.cells
      obtain ⟨⟨q0, q1, q2⟩, _⟩ := HY4.out
      cases b2 <;> cases H
      all_goals
        go_wp2_with fail
        go_ret
        exact ⟨ret_v (x := .bool true) (by first | rfl | simp), HB4.out⟩
end Go.Proofs.Ytochpomddfjkoaa.Ix

namespace Go.Proofs.Ytochpomddfjkoaa.indexNames
open Go.ChangeShapes Go.WideShapes Go.ChangeAt Go.RowKit

theorem own : ownKnob Try.prog.godebug = none := by kernel_rfl
theorem laidOut : laidOutB Try.prog = true := by kernel_rfl

set_option maxRecDepth 100000 in
theorem lifted (os : Os) (started : os.Started) (H : Type) (enc : TypeId × Value → H) :
    ReturnsInHanded {} Try.checked os 6 .any (Rows.indexNamesSpec.pre6 enc Try.prog Try.f6 Rows.indexNamesRow.domain false) (Rows.indexNamesSpec.post enc Try.prog Try.f6 false true false false) := by
  refine returnsInHanded_of_change (C := Try.checked) own started (by kernel_rfl) Try.func6
    (ChangeSpec.witness6 (enc := enc) (C := Try.checked) false ⟨#[], #[.agg #[.string ⟨#[]⟩, .slice none 0 0], .agg #[.string ⟨#[]⟩, .int .i64 0, .slice none 0 0]], []⟩ 8 (by kernel_rfl) (by kernel_rfl) (by kernel_rfl) (by kernel_rfl)) ?_
  intro W base args ds gs before hval0 hW hcnd _
  have hval : ∀ (j : Nat) t v, Try.f6.params[j]? = some t → args[j]? = some v → Value.okWide Try.prog W .any base t v := hval0
  have hW' := hW
  obtain ⟨p, q, hA0, hV, rfl, hfz, hnd⟩ := hW
  have hA : DataW.TrodAll enc Try.prog W 0 (fun _ => true) true Try.f6.params.toList args.toList ds p := hA0
  rw [Try.params6] at hA hval
  obtain ⟨v0, vs0, d0, ds0, p0, q0, hargs, rfl, rfl, h0, r0⟩ := trodAll_cons hA
  obtain ⟨v1, vs1, d1, ds1, p1, q1, rfl, rfl, rfl, h1, r1⟩ := trodAll_cons r0
  obtain ⟨rfl, rfl, rfl⟩ := trodAll_nil r1
  obtain rfl : args = #[v0, v1] := by cases args; simp_all
  obtain ⟨rfl, rfl⟩ := trodVars_none hV
  have k0 := h0
  have lt0 : ∀ x ∈ p0, x.block < W.heap.size := by obtain ⟨m, hm⟩ := k0; exact DataW.trod_lt m _ _ _ hm
  obtain ⟨ss0, a0, len0, cap0, rfl, w0⟩ := Op.open_pred (hval 0 26 v0 rfl rfl) h0
  have k1 := h1
  have lt1 : ∀ x ∈ p1, x.block < W.heap.size := by obtain ⟨m, hm⟩ := k1; exact DataW.trod_lt m _ _ _ hm
  obtain ⟨ss1, nn1, a1, len1, cap1, rfl, w1⟩ := Op.open_event (hval 1 29 v1 rfl rfl) h1
  clear hA0 hval0
  refine (Go.Proofs.Ytochpomddfjkoaa.Ix.names_walk ss0 a0 len0 cap0 ss1 nn1 a1 len1 cap1 W w0 w1).mono fun e W' ⟨he, bel⟩ => ?_
  subst he
  exact ⟨_, rfl, _, _, _, [], _, [], hW', trodAll_mk1 (shut_bool Try.underlying4 _), (trodAll_cons_mk (Below.trod laidOut (by kernel_rfl) (of_decide_eq_true (by kernel_rfl)) k0 bel lt0) (trodAll_cons_mk (Below.trod laidOut (by kernel_rfl) (of_decide_eq_true (by kernel_rfl)) k1 bel lt1) trodAll_mk0)), rfl, bel.frame _, fun h => by cases h⟩

theorem over : Rows.indexNamesRow.holds Try.pinned (OpenSpec.ofChange Rows.indexNamesSpec) :=
  OpenClaim.holds_of_wide 6 Try.f6 rfl rfl rfl rfl rfl rfl rfl ⟨rfl, rfl, rfl, rfl, rfl⟩ rfl rfl rfl rfl rfl (by kernel_rfl) Try.func6 (by kernel_rfl)
    (of_decide_eq_true (by kernel_rfl)) (by unfold Func.isWrapper; first | (rw [if_pos (by decide +kernel)]; kernel_rfl) | (rw [if_neg (by decide +kernel)]; exact ⟨rfl, rfl⟩))
    (fun os started H enc _ => lifted os started H enc)

theorem proved : Rows.IndexNamesSaid := over
#print axioms proved
end Go.Proofs.Ytochpomddfjkoaa.indexNames
