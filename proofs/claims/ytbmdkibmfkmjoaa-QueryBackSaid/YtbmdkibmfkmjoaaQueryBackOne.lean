/- QueryBack: for every input the law returns true, and each argument reads afterwards as it read before. No condition.
  The walk is the theorem Go.Proofs.Ytbmdkibmfkmjoaa.Qy.back_walk. -/
import Derived.Test.YtbmdkibmfkmjoaaBMem
import Derived.ProofKit
import Derived.Test.YtbmdkibmfkmjoaaChC
import Derived.BigQuiet
import Derived.Test.YtbmdkibmfkmjoaaRows
import Derived.WalkKit
import Derived.OpenShut
import Derived.ShutString
import Derived.ChangeOld
import Derived.Below

namespace Go.Proofs.Ytbmdkibmfkmjoaa.Op
open Go.RowKit Go.ChangeShapes Go.WideShapes Go.Proofs.Ytbmdkibmfkmjoaa.BM

set_option maxRecDepth 100000 in
theorem open_bytes_cells {H : Type} {enc : TypeId × Value → H} {W : World} {fuel : Nat} {v : Value} {x : DataW H × List MemPlace} (h : DataW.trod enc Try.prog W 0 (fun _ => true) true fuel 25 [v] = some x) :
    ∃ a len cap zs, v = .slice a len cap ∧ RowU8 W a len cap zs := by
  rcases open_ints Try.underlying25 Try.underlying5 (by kernel_rfl) h with ⟨hcs, _⟩ | ⟨x, l, c, zs, hcs, _, hl, hm, hz, _, hcell, hwz⟩
  · exact ⟨none, 0, 0, [], by simpa using hcs, .inl ⟨rfl, rfl, rfl, rfl⟩⟩
  · exact ⟨some x, l, c, zs, by simpa using hcs, .inr ⟨x, rfl, hl, hm, by simpa using hz, hcell, hwz⟩⟩

set_option maxRecDepth 100000 in
theorem open_bytes {H : Type} {enc : TypeId × Value → H} {W : World} {r : Reach} {b0 : Nat} {v : Value} {d : DataW H} {p : List MemPlace} (hv : Value.okWide Try.prog W r b0 25 v)
    (h : DataW.Trod enc Try.prog W 0 (fun _ => true) true 25 v d p) : ∃ a len cap zs, v = .slice a len cap ∧ RowU8 W a len cap zs := by
  obtain ⟨a, len, cap, rfl⟩ := okWide_slice Try.underlying25 hv
  obtain ⟨fuel, hf⟩ := h
  simp only [Value.cells] at hf
  exact open_bytes_cells hf
end Go.Proofs.Ytbmdkibmfkmjoaa.Op

namespace Go.Proofs.Ytbmdkibmfkmjoaa.Qy
open Go.RowKit Go.Proofs.Ytbmdkibmfkmjoaa.BM Go.Proofs.Ytbmdkibmfkmjoaa.LM Go.Proofs.Ytbmdkibmfkmjoaa.LeM Go.Proofs.Ytbmdkibmfkmjoaa.VaM Go.Proofs.Ytbmdkibmfkmjoaa.ExM Go.Proofs.Ytbmdkibmfkmjoaa.QyM
open Go.Proofs.Ytbmdkibmfkmjoaa.Ex (SlO slO_none)
open Go.Proofs.Ytbmdkibmfkmjoaa.Va (ret_v)

theorem pv_len {q : Q} (hr : RngQ q) : (QyM.pv q).length ≤ 5400 := by
  unfold QyM.pv
  split
  · rename_i h
    have hok := okQ_of h hr
    obtain ⟨h1, h2, h3, h4, h5, h6⟩ := id hok
    have k0 := putL_len64 (n := q.p.length) (by omega)
    have k1 := puts_len h2
    have k2 := putL_len64 (n := q.w.toNat) (by omega)
    have k3 := putL_len64 (n := q.a.toNat) (by omega)
    have k4 := putL_len64 (n := q.i.toNat) (by omega)
    have k5 := putL_len64 (n := q.f.toNat) (by omega)
    unfold pQ
    simp only [List.length_append]
    omega
  · exact Nat.zero_le _

set_option maxRecDepth 100000 in
set_option maxHeartbeats 16000000 in
theorem back_walk (qw qa qi qf : Int) (a : Option Addr) (n c : Nat) (x : Option Addr) (len xcap : Nat) (z : List Int) (w : World) (hq' : Op.ArgQ w qw qa qi qf a n c) (hz : RowU8 w x len xcap z) :
    Calls Try.prog 3 #[.agg #[.slice a n c, .int .i64 qw, .int .i64 qa, .int .i64 qi, .int .i64 qf], .slice x len xcap] w fun e w' => e = .returned (.bool true) ∧ Below w.heap.size w w' := by
  obtain ⟨p, hlen, hT, _⟩ := hq'
  obtain ⟨xs, hxlen, hxs⟩ := row_slB hz
  have hxm := hxs.2.2.2
  have hxc := hxs.2.1
  unfold maxLen at hxm
  rw [hxlen] at hxc
  have hrng : RngQ ⟨p, qw, qa, qi, qf⟩ := slSt_rng hT rfl
  have hF := fun W (hW : Below w.heap.size w W) => Few_any ⟨p, qw, qa, qi, qf⟩ a c W (hT.kept hW)
  have hP := fun W (hW : Below w.heap.size w W) => Put_any ⟨p, qw, qa, qi, qf⟩ a c W (hT.kept hW) hrng
  have hG := fun W (hW : Below w.heap.size w W) => Get_any x xs xcap W (hxs.kept hW)
  have hSm := fun W A k (hW : Below w.heap.size w W) (h : SlSt W A p k) => Same_any ⟨p, qw, qa, qi, qf⟩ ⟨p, qw, qa, qi, qf⟩ A k a c W h (hT.kept hW)
  unfold Putted agQ at hP
  unfold agQ at hF hSm
  unfold GotsQ at hG
  obtain ⟨q, hq⟩ : ∃ q : Q, q = ⟨p, qw, qa, qi, qf⟩ := ⟨_, rfl⟩
  simp only [decide_true, hlen, ← hq] at hF hP hSm
  rw [← hq] at hrng
  rw [hxlen] at hG
  have hpl := pv_len hrng
  have HRng := Lib.hid hrng
  have HF := Lib.hid hF
  have HP := Lib.hid hP
  have HG := Lib.hid hG
  have HSm := Lib.hid hSm
  have HXs := Lib.hid hxs
  have HLen := Lib.hid hxlen
  have HNl := Lib.hid hlen
  have HQq := Lib.hid hq
  have HX := Lib.hid (bxQ5_new w a n c qw qa qi qf)
  have HB := Lib.hid (below_box w a n c qw qa qi qf)
  clear hF hP hG hSm hT hlen hxs hxlen hz hrng hq
  go_enter Try.func3, Try.ntmps3
  go_wp2_with fail
  refine (awake_any _).mono ?_
  rintro e w1 ⟨rfl, hb⟩
  have HX1 := Lib.hid (HX.out.kept hb)
  have HB1 := Lib.hid (bt HB.out hb)
  clear hb HX HB
  obtain ⟨p0, p1, p2, p3, p4⟩ := bx5 HX1.out
  go_wp2_with fail
  refine (HF.out _ HB1.out).mono ?_
  rintro e w2 ⟨rfl, hb⟩
  obtain ⟨P, hP⟩ : ∃ P, P = decide (Few q) := ⟨_, rfl⟩
  rw [← hP]
  have HX2 := Lib.hid (HX1.out.kept hb)
  have HB2 := Lib.hid (bt HB1.out hb)
  clear hb hP HF HB1 HX1 p0 p1 p2 p3 p4
  obtain ⟨p0, p1, p2, p3, p4⟩ := bx5 HX2.out
  by_cases hpq : P = true ∧ len ≤ 800
  rotate_left
  · have hor : P = false ∨ (P = true ∧ 800 < len) := by
      cases P
      · exact Or.inl rfl
      · exact Or.inr ⟨rfl, Nat.lt_of_not_le (fun h => hpq ⟨rfl, h⟩)⟩
    clear hpq
    rcases hor with rfl | ⟨rfl, hl⟩
    · go_wp2_with fail
      go_ret
      exact ⟨ret_bool (by first | rfl | simp), HB2.out⟩
    · have hd0 : decide ((800 : Int) < (len : Int)) = true := by rw [decide_eq_true_iff]; omega
      go_wp2_with fail
      go_ret
      exact ⟨ret_bool (by first | rfl | simp), HB2.out⟩
  obtain ⟨rfl, hl800⟩ := hpq
  have hd0 : decide ((800 : Int) < (len : Int)) = false := by rw [decide_eq_false_iff_not]; omega
  go_wp2_with fail
  refine (HP.out _ HB2.out).mono ?_
  rintro e w4 ⟨A, k, rfl, h4, hb⟩
  obtain ⟨L, hL⟩ : ∃ L, L = (QyM.pv q).length := ⟨_, rfl⟩
  rw [← hL] at hpl ⊢
  have HL := Lib.hid hL
  have HS4 := Lib.hid h4
  have HX4 := Lib.hid (HX2.out.kept hb)
  have HB4 := Lib.hid (bt HB2.out hb)
  clear hb hL h4 HP HB2 HX2 p0 p1 p2 p3 p4
  by_cases hm : May q
  · rw [decide_eq_true hm]
    have hpv : QyM.pv q = pQ q := by rw [QyM.pv, if_pos hm]
    have HMay := Lib.hid hm
    have HPv := Lib.hid hpv
    clear hm hpv
    go_wp2_with (at_builtin; refine wp_append_b rfl (.const (.slice none 0 0)) (.tmp 39) rfl w4.heap.size (.slice none 0 0) 0 [] rfl (World.ownsRow_nil _ _ _ _) A L k (QyM.pv q) rfl HL.out.symm HS4.out.1 HS4.out.2.2.1 (by omega) (Nat.le_refl _) ?_; intro v5 w5 hown5 hgrow5; refine pause ?_)
    simp only [Nat.zero_add, List.nil_append] at hown5
    have hb5 : Below w4.heap.size w4 w5 := (Below.refl _ _).grown hgrow5 (Nat.le_refl _) (fun _ h => by cases h)
    have HO5 := Lib.hid hown5
    have HB5 := Lib.hid hb5
    have hsz5 := hb5.size
    have HX5 := Lib.hid (HXs.out.kept (bt HB4.out hb5))
    clear hown5 hgrow5 hb5
    unfold Pause
    go_wp2_with (at_builtin; refine wp_append_b rfl (.tmp 40) (.tmp 41) rfl w4.heap.size v5 L (QyM.pv q) rfl HO5.out x len xcap xs rfl HLen.out HX5.out.1 HX5.out.2.2.1 (by omega) hsz5 ?_; intro v6 w6 hown6 hgrow6; refine pause ?_)
    have hb6 : Below w4.heap.size w4 w6 := HB5.out.grown hgrow6 hsz5 (fun q hq => (HO5.out.lt q hq).1)
    obtain ⟨A6, c6, rfl, hl6, h6, _⟩ := own_slB hown6 (fun y hy => by
      rcases List.mem_append.1 hy with h | h
      · exact pv_bytes HRng.out y h
      · exact HXs.out.1.1 y h)
    have hget := Get_any A6 _ c6 w6 h6
    unfold GotsQ agQ at hget
    have hga : gotQ (gQ (QyM.pv q ++ xs)) = (q, L, true) := by
      rw [HPv.out, law_q.app ⟨okQ_of HMay.out HRng.out, HMay.out⟩ HXs.out.1.1, HL.out, HPv.out]
      rfl
    simp only [hga] at hget
    rw [← hl6] at hget
    simp only [HQq.out, HNl.out] at hget
    rw [← hl6]
    have HGet := Lib.hid hget
    have HB6 := Lib.hid hb6
    have HX6 := Lib.hid (HX4.out.kept hb6)
    clear hget hga hb6 h6 hl6 hown6 hgrow6 hsz5 HX5 HO5 HB5 HX4
    unfold Pause
    go_wp2_with fail
    refine HGet.out.mono ?_
    rintro e w7 ⟨A7, c7, rfl, hs7, hb⟩
    have hbl := below_box w7 A7 n c7 qw qa qi qf
    obtain ⟨y0, y1, y2, y3, y4⟩ := bx5 (bxQ5_new w7 A7 n c7 qw qa qi qf)
    obtain ⟨x0, x1, x2, x3, x4⟩ := bx5 (HX6.out.kept (bt hb hbl))
    have HB8 := Lib.hid (bt HB4.out (bt HB6.out (bt hb hbl)))
    have HSm8 := Lib.hid (HSm.out _ A7 c7 HB8.out (hs7.kept hbl))
    have hnn : ((L : Int) != L) = false := by simp
    clear hb hs7 HB4 HS4 HB6 HGet HSm hbl HX6
    go_wp2_with fail
    refine HSm8.out.mono ?_
    rintro e w8 ⟨rfl, hb⟩
    have HBq := Lib.hid (bt HB8.out hb)
    clear hb HB8 HSm8 y0 y1 y2 y3 y4 x0 x1 x2 x3 x4
    have HG9 := Lib.hid (HG.out _ HBq.out)
    have HXs9 := Lib.hid (HXs.out.kept HBq.out)
    clear HG HXs
    go_wp2_with fail
    refine HG9.out.mono ?_
    rintro e w9 ⟨A9, c9, rfl, hs9, hb⟩
    cases hg : gQ xs with
    | none =>
      have HB10 := Lib.hid (bt HBq.out (bt hb (below_box w9 A9 0 c9 0 0 0 0)))
      obtain ⟨z0, z1, z2, z3, z4⟩ := bx5 (bxQ5_new w9 A9 0 c9 0 0 0 0)
      unfold agQ
      simp only [gotQ, QyM.q0, List.length_nil]
      clear hb hg hs9
      go_wp2_with fail
      go_ret
      exact ⟨ret_bool (by first | rfl | simp), HB10.out⟩
    | some y =>
      obtain ⟨g, m⟩ := y
      obtain ⟨⟨hok, hmay⟩, hm, hput⟩ := law_q.some HXs9.out.1.1 hg
      rw [HLen.out] at hm
      rw [hg] at hs9
      simp only [gotQ] at hs9
      have hpv : QyM.pv g = xs.take m := by rw [QyM.pv, if_pos hmay, hput]
      have hlm2 : (QyM.pv g).length = m := by rw [hpv, List.length_take, HLen.out]; omega
      have hbx := bxQ5_new w9 A9 g.p.length c9 g.w g.a g.i g.f
      have hbl := below_box w9 A9 g.p.length c9 g.w g.a g.i g.f
      have hP2 := Put_any g A9 c9 _ (hs9.kept hbl) (slSt_rng hs9 rfl)
      unfold Putted agQ at hP2
      unfold agQ
      simp only [gotQ]
      obtain ⟨gp, gw, ga, gi, gf⟩ := g
      simp only at hbx hbl hP2 hs9 ⊢
      obtain ⟨ng, hng⟩ : ∃ k, k = gp.length := ⟨_, rfl⟩
      simp only [← hng] at hP2 hbx hbl ⊢
      obtain ⟨V, hV⟩ : ∃ V, V = QyM.pv ⟨gp, gw, ga, gi, gf⟩ := ⟨_, rfl⟩
      rw [← hV] at hpv hlm2
      simp only [← hV, decide_eq_true hmay] at hP2
      obtain ⟨z0, z1, z2, z3, z4⟩ := bx5 hbx
      have HB10 := Lib.hid (bt HBq.out (bt hb hbl))
      have HXs10 := Lib.hid (HXs9.out.kept (bt hb hbl))
      have HP2 := Lib.hid hP2
      have HPv2 := Lib.hid hpv
      have HLm2 := Lib.hid hlm2
      clear hb hg hok hmay hput hpv hlm2 hs9 hP2 hng hbx hbl hV
      go_wp2_with fail
      refine HP2.out.mono ?_
      rintro e w11 ⟨B, d, rfl, h11, hb⟩
      rw [HLm2.out]
      have HB11 := Lib.hid (bt HB10.out hb)
      have HXs11 := Lib.hid (HXs10.out.kept hb)
      have hcx := fun k => conv_any (w := w11.drewN k) (isB_take (isB_kept HXs11.out.1 (below_drewN (Below.refl _ _) k)) m) xcap 9 Try.underlying9
      have hcy := fun k => conv_any (w := w11.drewN k) (isB_kept h11.1 (below_drewN (Below.refl _ _) k)) d 9 Try.underlying9
      rw [← HPv2.out] at hcx
      rw [HLm2.out] at hcx hcy
      obtain ⟨S, hS⟩ : ∃ S, S = strOfNums V := ⟨_, rfl⟩
      rw [← hS] at hcx hcy
      have hee : (S.toList == S.toList) = true := by simp
      have hd1 : decide ((m : Int) ≤ len) = true := by rw [decide_eq_true_iff]; omega
      have hd2 : decide (m ≤ len) = true := decide_eq_true hm
      have hsl := fun W => slice_hi W x len xcap m (by omega)
      clear hb h11 hS HXs10 HP2 z0 z1 z2 z3 z4
      go_wp2_with fail
      go_quiet (fail)
      go_wp2_with fail
      go_ret
      exact ⟨ret_bool (by first | rfl | simp), below_drewN HB11.out _⟩
  · rw [decide_eq_false hm]
    have HBq := Lib.hid HB4.out
    clear hm HB4 HS4
    have HG9 := Lib.hid (HG.out _ HBq.out)
    have HXs9 := Lib.hid (HXs.out.kept HBq.out)
    clear HG HXs
    go_wp2_with fail
    refine HG9.out.mono ?_
    rintro e w9 ⟨A9, c9, rfl, hs9, hb⟩
    cases hg : gQ xs with
    | none =>
      have HB10 := Lib.hid (bt HBq.out (bt hb (below_box w9 A9 0 c9 0 0 0 0)))
      obtain ⟨z0, z1, z2, z3, z4⟩ := bx5 (bxQ5_new w9 A9 0 c9 0 0 0 0)
      unfold agQ
      simp only [gotQ, QyM.q0, List.length_nil]
      clear hb hg hs9
      go_wp2_with fail
      go_ret
      exact ⟨ret_bool (by first | rfl | simp), HB10.out⟩
    | some y =>
      obtain ⟨g, m⟩ := y
      obtain ⟨⟨hok, hmay⟩, hm, hput⟩ := law_q.some HXs9.out.1.1 hg
      rw [HLen.out] at hm
      rw [hg] at hs9
      simp only [gotQ] at hs9
      have hpv : QyM.pv g = xs.take m := by rw [QyM.pv, if_pos hmay, hput]
      have hlm2 : (QyM.pv g).length = m := by rw [hpv, List.length_take, HLen.out]; omega
      have hbx := bxQ5_new w9 A9 g.p.length c9 g.w g.a g.i g.f
      have hbl := below_box w9 A9 g.p.length c9 g.w g.a g.i g.f
      have hP2 := Put_any g A9 c9 _ (hs9.kept hbl) (slSt_rng hs9 rfl)
      unfold Putted agQ at hP2
      unfold agQ
      simp only [gotQ]
      obtain ⟨gp, gw, ga, gi, gf⟩ := g
      simp only at hbx hbl hP2 hs9 ⊢
      obtain ⟨ng, hng⟩ : ∃ k, k = gp.length := ⟨_, rfl⟩
      simp only [← hng] at hP2 hbx hbl ⊢
      obtain ⟨V, hV⟩ : ∃ V, V = QyM.pv ⟨gp, gw, ga, gi, gf⟩ := ⟨_, rfl⟩
      rw [← hV] at hpv hlm2
      simp only [← hV, decide_eq_true hmay] at hP2
      obtain ⟨z0, z1, z2, z3, z4⟩ := bx5 hbx
      have HB10 := Lib.hid (bt HBq.out (bt hb hbl))
      have HXs10 := Lib.hid (HXs9.out.kept (bt hb hbl))
      have HP2 := Lib.hid hP2
      have HPv2 := Lib.hid hpv
      have HLm2 := Lib.hid hlm2
      clear hb hg hok hmay hput hpv hlm2 hs9 hP2 hng hbx hbl hV
      go_wp2_with fail
      refine HP2.out.mono ?_
      rintro e w11 ⟨B, d, rfl, h11, hb⟩
      rw [HLm2.out]
      have HB11 := Lib.hid (bt HB10.out hb)
      have HXs11 := Lib.hid (HXs10.out.kept hb)
      have hcx := fun k => conv_any (w := w11.drewN k) (isB_take (isB_kept HXs11.out.1 (below_drewN (Below.refl _ _) k)) m) xcap 9 Try.underlying9
      have hcy := fun k => conv_any (w := w11.drewN k) (isB_kept h11.1 (below_drewN (Below.refl _ _) k)) d 9 Try.underlying9
      rw [← HPv2.out] at hcx
      rw [HLm2.out] at hcx hcy
      obtain ⟨S, hS⟩ : ∃ S, S = strOfNums V := ⟨_, rfl⟩
      rw [← hS] at hcx hcy
      have hee : (S.toList == S.toList) = true := by simp
      have hd1 : decide ((m : Int) ≤ len) = true := by rw [decide_eq_true_iff]; omega
      have hd2 : decide (m ≤ len) = true := decide_eq_true hm
      have hsl := fun W => slice_hi W x len xcap m (by omega)
      clear hb h11 hS HXs10 HP2 z0 z1 z2 z3 z4
      go_wp2_with fail
      go_quiet (fail)
      go_wp2_with fail
      go_ret
      exact ⟨ret_bool (by first | rfl | simp), below_drewN HB11.out _⟩
end Go.Proofs.Ytbmdkibmfkmjoaa.Qy

namespace Go.Proofs.Ytbmdkibmfkmjoaa.queryBack
open Go.ChangeShapes Go.WideShapes Go.ChangeAt Go.RowKit

theorem own : ownKnob Try.prog.godebug = none := by kernel_rfl
theorem laidOut : laidOutB Try.prog = true := by kernel_rfl

set_option maxRecDepth 100000 in
theorem lifted (os : Os) (started : os.Started) (H : Type) (enc : TypeId × Value → H) :
    ReturnsInHanded {} Try.checked os 3 .any (Rows.queryBackSpec.pre6 enc Try.prog Try.f3 Rows.queryBackRow.domain false) (Rows.queryBackSpec.post enc Try.prog Try.f3 false true false false) := by
  refine returnsInHanded_of_change (C := Try.checked) own started (by kernel_rfl) Try.func3
    (ChangeSpec.witness6 (enc := enc) (C := Try.checked) false ⟨#[], #[.agg #[.slice none 0 0, .int .i64 0, .int .i64 0, .int .i64 0, .int .i64 0], .slice none 0 0], []⟩ 8 (by kernel_rfl) (by kernel_rfl) (by kernel_rfl) (by kernel_rfl)) ?_
  intro W base args ds gs before hval0 hW hcnd _
  have hval : ∀ (j : Nat) t v, Try.f3.params[j]? = some t → args[j]? = some v → Value.okWide Try.prog W .any base t v := hval0
  have hW' := hW
  obtain ⟨p, q, hA0, hV, rfl, hfz, hnd⟩ := hW
  have hA : DataW.TrodAll enc Try.prog W 0 (fun _ => true) true Try.f3.params.toList args.toList ds p := hA0
  rw [Try.params3] at hA hval
  obtain ⟨v0, vs0, d0, ds0, p0, q0, hargs, rfl, rfl, h0, r0⟩ := trodAll_cons hA
  obtain ⟨v1, vs1, d1, ds1, p1, q1, rfl, rfl, rfl, h1, r1⟩ := trodAll_cons r0
  obtain ⟨rfl, rfl, rfl⟩ := trodAll_nil r1
  obtain rfl : args = #[v0, v1] := by cases args; simp_all
  obtain ⟨rfl, rfl⟩ := trodVars_none hV
  have k0 := h0
  have lt0 : ∀ x ∈ p0, x.block < W.heap.size := by obtain ⟨m, hm⟩ := k0; exact DataW.trod_lt m _ _ _ hm
  obtain ⟨qw0, qa0, qi0, qf0, a0, len0, cap0, rfl, w0⟩ := Op.open_query (hval 0 24 v0 rfl rfl) h0
  have k1 := h1
  have lt1 : ∀ x ∈ p1, x.block < W.heap.size := by obtain ⟨m, hm⟩ := k1; exact DataW.trod_lt m _ _ _ hm
  obtain ⟨a1, len1, cap1, z1, rfl, w1⟩ := Op.open_bytes (hval 1 25 v1 rfl rfl) h1
  clear hA0 hval0
  refine (Go.Proofs.Ytbmdkibmfkmjoaa.Qy.back_walk qw0 qa0 qi0 qf0 a0 len0 cap0 a1 len1 cap1 z1 W w0 w1).mono fun e W' ⟨he, bel⟩ => ?_
  subst he
  exact ⟨_, rfl, _, _, _, [], _, [], hW', trodAll_mk1 (shut_bool Try.underlying4 _), (trodAll_cons_mk (Below.trod laidOut (by kernel_rfl) (of_decide_eq_true (by kernel_rfl)) k0 bel lt0) (trodAll_cons_mk (Below.trod laidOut (by kernel_rfl) (of_decide_eq_true (by kernel_rfl)) k1 bel lt1) trodAll_mk0)), rfl, bel.frame _, fun h => by cases h⟩

theorem over : Rows.queryBackRow.holds Try.pinned (OpenSpec.ofChange Rows.queryBackSpec) :=
  OpenClaim.holds_of_wide 3 Try.f3 rfl rfl rfl rfl rfl rfl rfl ⟨rfl, rfl, rfl, rfl, rfl⟩ rfl rfl rfl rfl rfl (by kernel_rfl) Try.func3 (by kernel_rfl)
    (of_decide_eq_true (by kernel_rfl)) (by unfold Func.isWrapper; first | (rw [if_pos (by decide +kernel)]; kernel_rfl) | (rw [if_neg (by decide +kernel)]; exact ⟨rfl, rfl⟩))
    (fun os started H enc _ => lifted os started H enc)

theorem proved : Rows.QueryBackSaid := over
#print axioms proved
end Go.Proofs.Ytbmdkibmfkmjoaa.queryBack
