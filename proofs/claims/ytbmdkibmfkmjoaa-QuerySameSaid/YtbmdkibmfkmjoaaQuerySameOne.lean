/- QuerySame: for every input the law returns true, and each argument reads afterwards as it read before. No condition.
  The walk is the theorem Go.Proofs.Ytbmdkibmfkmjoaa.Qy.same_walk. -/
import Derived.Test.YtbmdkibmfkmjoaaChC
import Derived.Test.YtbmdkibmfkmjoaaRows
import Derived.WalkKit
import Derived.ProofKit
import Derived.OpenShut
import Derived.ShutString
import Derived.ChangeOld
import Derived.Below

namespace Go.Proofs.Ytbmdkibmfkmjoaa.Qy
open Go.RowKit Go.Proofs.Ytbmdkibmfkmjoaa.BM Go.Proofs.Ytbmdkibmfkmjoaa.LM Go.Proofs.Ytbmdkibmfkmjoaa.LeM Go.Proofs.Ytbmdkibmfkmjoaa.VaM Go.Proofs.Ytbmdkibmfkmjoaa.ExM Go.Proofs.Ytbmdkibmfkmjoaa.QyM
open Go.Proofs.Ytbmdkibmfkmjoaa.Ex (SlO slO_none)
open Go.Proofs.Ytbmdkibmfkmjoaa.Va (ret_v)

theorem elem_none (w : World) (p : Nat → Prop) : RG.Elems KSt p (w.alloc (.cells #[.string ⟨#[]⟩, .slice none 0 0, .int .i64 0, .int .i64 0, .bool false, .string ⟨#[]⟩, .slice none 0 0] 40)) [t0] [.string ⟨#[]⟩, .slice none 0 0, .int .i64 0, .int .i64 0, .bool false, .string ⟨#[]⟩, .slice none 0 0] ∧
    IsRow (w.alloc (.cells #[.string ⟨#[]⟩, .slice none 0 0, .int .i64 0, .int .i64 0, .bool false, .string ⟨#[]⟩, .slice none 0 0] 40)) (some ⟨w.heap.size, 0, none⟩) [.string ⟨#[]⟩, .slice none 0 0, .int .i64 0, .int .i64 0, .bool false, .string ⟨#[]⟩, .slice none 0 0] := by
  have hrel : KSt.rel p w t0 (encSt t0 none 0 none 0) := ⟨none, 0, none, 0, rfl, slO_none _, slO_none _, ⟨⟨by unfold maxLen; decide, by unfold maxLen; decide⟩, ⟨by decide, by decide⟩, by decide, by decide⟩, (fun h => absurd h (by decide)), (fun h => absurd h (by decide))⟩
  have h := RG.elem_new w 40 t0 (encSt t0 none 0 none 0) hrel
  exact ⟨h.2, h.1⟩

set_option maxRecDepth 100000 in
set_option maxHeartbeats 16000000 in
theorem same_walk' (pw pa pi' pf : Int) (a : Option Addr) (n c : Nat) (qw qa qi qf : Int) (b : Option Addr) (m d : Nat) (p q : List St) (w : World) (e1 : p.length = n) (e2 : q.length = m) (h1 : SlSt w a p c) (h2 : SlSt w b q d) (f1 : FineQ ⟨p, pw, pa, pi', pf⟩) :
    Calls Try.prog 6 #[.agg #[.slice a n c, .int .i64 pw, .int .i64 pa, .int .i64 pi', .int .i64 pf], .agg #[.slice b m d, .int .i64 qw, .int .i64 qa, .int .i64 qi, .int .i64 qf]] w fun e w' => e = .returned (.bool true) ∧ Below w.heap.size w w' := by
  have hr1 : RngQ ⟨p, pw, pa, pi', pf⟩ := slSt_rng h1 rfl
  have hr2 : RngQ ⟨q, qw, qa, qi, qf⟩ := slSt_rng h2 rfl
  have hF1 := fun W (hW : Below w.heap.size w W) => Few_any ⟨p, pw, pa, pi', pf⟩ a c W (h1.kept hW)
  have hF2 := fun W (hW : Below w.heap.size w W) => Few_any ⟨q, qw, qa, qi, qf⟩ b d W (h2.kept hW)
  have hP1 := fun W (hW : Below w.heap.size w W) => Put_any ⟨p, pw, pa, pi', pf⟩ a c W (h1.kept hW) hr1
  have hP2 := fun W (hW : Below w.heap.size w W) => Put_any ⟨q, qw, qa, qi, qf⟩ b d W (h2.kept hW) hr2
  have hvc : wrap64 (pw + 1) ≠ pw := by
    have g1 := f1.1.1
    have g2 := f1.1.2
    simp only at g1 g2
    unfold wrap64
    omega
  have hnc : (⟨p, pw, pa, pi', pf⟩ : Q) ≠ ⟨p, wrap64 (pw + 1), pa, pi', pf⟩ := fun e => hvc (congrArg Q.w e).symm
  have hnd : (⟨p, pw, pa, pi', pf⟩ : Q) ≠ ⟨p ++ [t0], pw, pa, pi', pf⟩ := fun e => by
    have := congrArg (fun q => q.p.length) e
    simp at this
  have hSab := fun W (hW : Below w.heap.size w W) => Same_any ⟨p, pw, pa, pi', pf⟩ ⟨q, qw, qa, qi, qf⟩ a c b d W (h1.kept hW) (h2.kept hW)
  have hSba := fun W (hW : Below w.heap.size w W) => Same_any ⟨q, qw, qa, qi, qf⟩ ⟨p, pw, pa, pi', pf⟩ b d a c W (h2.kept hW) (h1.kept hW)
  have hSaa := fun W (hW : Below w.heap.size w W) => Same_any ⟨p, pw, pa, pi', pf⟩ ⟨p, pw, pa, pi', pf⟩ a c a c W (h1.kept hW) (h1.kept hW)
  have hSac := fun W (hW : Below w.heap.size w W) => Same_any ⟨p, pw, pa, pi', pf⟩ ⟨p, wrap64 (pw + 1), pa, pi', pf⟩ a c a c W (h1.kept hW) (h1.kept hW)
  have hSad := fun W A k (hW : Below w.heap.size w W) (h : SlSt W A (p ++ [t0]) k) => Same_any ⟨p, pw, pa, pi', pf⟩ ⟨p ++ [t0], pw, pa, pi', pf⟩ a c A k W (h1.kept hW) h
  have hcomm : decide ((⟨q, qw, qa, qi, qf⟩ : Q) = ⟨p, pw, pa, pi', pf⟩) = decide ((⟨p, pw, pa, pi', pf⟩ : Q) = ⟨q, qw, qa, qi, qf⟩) := by rw [decide_eq_decide]; exact eq_comm
  have hfw : Few ⟨p, pw, pa, pi', pf⟩ → n ≤ 8 := fun h => by rw [← e1]; exact h.1
  unfold Putted agQ at hP1 hP2
  unfold agQ at hF1 hF2 hSab hSba hSaa hSac hSad
  have hld : (p ++ [t0]).length = n + 1 := by rw [List.length_append, e1]; rfl
  simp only [e1, e2, hld, decide_true, decide_eq_false hnc, decide_eq_false hnd, hcomm] at hF1 hF2 hP1 hP2 hSab hSba hSaa hSac hSad
  obtain ⟨vc, hvcd⟩ : ∃ x, x = wrap64 (pw + 1) := ⟨_, rfl⟩
  simp only [← hvcd] at hSac
  obtain ⟨X, hXx⟩ : ∃ x : Q, x = ⟨p, pw, pa, pi', pf⟩ := ⟨_, rfl⟩
  obtain ⟨Y, hYy⟩ : ∃ x : Q, x = ⟨q, qw, qa, qi, qf⟩ := ⟨_, rfl⟩
  simp only [← hXx] at hF1 hP1 hSab hSba hfw
  simp only [← hYy] at hF2 hP2 hSab hSba
  rw [← hXx] at hr1
  rw [← hYy] at hr2
  obtain ⟨E, hE⟩ : ∃ E, E = decide (X = Y) := ⟨_, rfl⟩
  simp only [← hE] at hSab hSba
  have HE := Lib.hid hE
  have HVc := Lib.hid hvcd
  have HF1 := Lib.hid hF1
  have HF2 := Lib.hid hF2
  have HP1 := Lib.hid hP1
  have HP2 := Lib.hid hP2
  have HSab := Lib.hid hSab
  have HSba := Lib.hid hSba
  have HSaa := Lib.hid hSaa
  have HSac := Lib.hid hSac
  have HSad := Lib.hid hSad
  have HR1 := Lib.hid hr1
  have HR2 := Lib.hid hr2
  have HFw := Lib.hid hfw
  have HS1 := Lib.hid h1
  have HL1 := Lib.hid e1
  obtain ⟨u1, hu1⟩ : ∃ u, u = w.alloc (.cells #[.slice a n c, .int .i64 pw, .int .i64 pa, .int .i64 pi', .int .i64 pf] 24) := ⟨_, rfl⟩
  have hs1 : u1.heap.size = w.heap.size + 1 := by rw [hu1]; simp
  have hb1 := below_box w a n c pw pa pi' pf
  have hx1 := bxQ5_new w a n c pw pa pi' pf
  rw [← hu1] at hb1 hx1
  have hb2 := below_box u1 b m d qw qa qi qf
  have hx2 := bxQ5_new u1 b m d qw qa qi qf
  rw [hs1] at hx2
  have hk1 := hx1.kept hb2
  have hbb := bt hb1 hb2
  rw [hu1] at hx2 hk1 hbb
  have HX1 := Lib.hid hk1
  have HX2 := Lib.hid hx2
  have HB := Lib.hid hbb
  clear hb1 hx1 hb2 hx2 hk1 hbb hs1 hu1 u1 hF1 hF2 hP1 hP2 hSab hSba hSaa hSac hSad hcomm hnc hnd hvc hvcd hE hr1 hr2 h1 h2 f1 e1 e2 hfw hld hXx hYy
  go_enter Try.func6, Try.ntmps6
  go_wp2_with fail
  refine (awake_any _).mono ?_
  rintro e w1 ⟨rfl, hb⟩
  have HB1 := Lib.hid (bt HB.out hb)
  have HY1 := Lib.hid (HX1.out.kept hb)
  have HY2 := Lib.hid (HX2.out.kept hb)
  clear hb HB HX1 HX2
  obtain ⟨p0, p1, p2, p3, p4⟩ := bx5 HY1.out
  go_wp2_with fail
  refine (HF1.out _ HB1.out).mono ?_
  rintro e w2 ⟨rfl, hb⟩
  have HB2 := Lib.hid (bt HB1.out hb)
  have HX1 := Lib.hid (HY1.out.kept hb)
  have HX2 := Lib.hid (HY2.out.kept hb)
  obtain ⟨P, hP⟩ : ∃ P, P = decide (Few X) := ⟨_, rfl⟩
  rw [← hP]
  have HPd := Lib.hid hP
  clear hb HB1 HY1 HY2 p0 p1 p2 p3 p4 hP HF1
  obtain ⟨p0, p1, p2, p3, p4⟩ := bx5 HX2.out
  go_wp2_with fail
  refine (HF2.out _ HB2.out).mono ?_
  rintro e w0 ⟨rfl, hb⟩
  have HB0 := Lib.hid (bt HB2.out hb)
  have HY1 := Lib.hid (HX1.out.kept hb)
  have HY2 := Lib.hid (HX2.out.kept hb)
  obtain ⟨Z, hZ⟩ : ∃ P, P = decide (Few Y) := ⟨_, rfl⟩
  rw [← hZ]
  clear hb HB2 HX1 HX2 p0 p1 p2 p3 p4 hZ HF2
  by_cases hpq : P = true ∧ Z = true
  rotate_left
  · have hw : P = false ∨ (P = true ∧ Z = false) := by cases P <;> cases Z <;> simp_all
    clear hpq
    rcases hw with rfl | ⟨rfl, rfl⟩
    all_goals
      go_wp2_with fail
      go_ret
      exact ⟨ret_bool (by first | rfl | simp), HB0.out⟩
  obtain ⟨rfl, rfl⟩ := hpq
  have hn8 : n ≤ 8 := HFw.out (of_decide_eq_true HPd.out.symm)
  have hz0 : w.heap.size + 2 ≤ w0.heap.size := by
    have h1 := HY2.out
    have := RG.BxN.lt h1 (show 0 < 5 by decide)
    omega
  -- the copy with another time
  have ht := below_box w0 a n c pw pa pi' pf
  obtain ⟨_, t1, _⟩ := bx5 (HY1.out.kept ht)
  have hc5 := bxQ5_new w0 a n c vc pa pi' pf
  have hbc := below_box w0 a n c vc pa pi' pf
  obtain ⟨u1, hu1⟩ : ∃ u, u = w0.alloc (.cells #[.slice a n c, .int .i64 vc, .int .i64 pa, .int .i64 pi', .int .i64 pf] 24) := ⟨_, rfl⟩
  have hs1 : u1.heap.size = w0.heap.size + 1 := by rw [hu1]; simp
  obtain ⟨y0, y1, y2, y3, y4⟩ := bx5 (HY1.out.kept hbc)
  rw [← hu1] at hc5 hbc
  -- the copy with a step more
  have hd6 := bxQ5_new u1 a n c pw pa pi' pf
  have hbd := below_box u1 a n c pw pa pi' pf
  rw [hs1] at hd6
  have hc6 := hc5.kept hbd
  have hb6 := bt hbc hbd
  obtain ⟨u2, hu2⟩ : ∃ u, u = u1.alloc (.cells #[.slice a n c, .int .i64 pw, .int .i64 pa, .int .i64 pi', .int .i64 pf] 24) := ⟨_, rfl⟩
  have hs2 : u2.heap.size = w0.heap.size + 2 := by rw [hu2]; simp; omega
  rw [← hu2] at hd6 hc6 hb6
  obtain ⟨x0, x1, x2, x3, x4⟩ := bx5 (HY1.out.kept hb6)
  have hsp : RG.SlG KSt (fun k => k ≠ w0.heap.size + 1) w a p c := RG.SlG.mono HS1.out fun k hk _ => by omega
  obtain ⟨⟨vs, hrow, hel⟩, _, hnil, _⟩ := RG.SlG.kept hsp (bt HB0.out hb6)
  have hel2 : RG.Elems KSt (fun k => k ≠ w0.heap.size + 1 ∧ ne (.slice none 0 0) k) u2 p vs := hel.map fun _ _ h => KSt.mono h fun k _ hk => ⟨hk, fun e => by cases e⟩
  have HRow := Lib.hid hrow
  have HEl := Lib.hid hel2
  have HNil := Lib.hid hnil
  have HC6 := Lib.hid hc6
  have HD6 := Lib.hid hd6
  have HB6 := Lib.hid hb6
  rw [hu2, hu1, HVc.out] at x0 x1 x2 x3 x4
  rw [HVc.out] at y0 y1 y2 y3 y4
  rw [hu1] at hu2
  have HU2 := Lib.hid hu2
  have hz2 : w0.heap.size + 2 ≤ u2.heap.size := by omega
  obtain ⟨p0, p1, p2, p3, p4⟩ := bx5 HY1.out
  clear ht hc5 hbc hu1 hs1 hd6 hbd hc6 hb6 hu2 hsp hrow hel hel2 hnil
  rw [HU2.out, HVc.out] at hz2
  go_wp2_with (at_builtin; rw [← HVc.out, ← HU2.out]; refine RG.Ty.wp_append (K := KSt) tySt (fun k => k ≠ w0.heap.size + 1) rfl (.const (.slice none 0 0)) (.tmp 38) rfl u2.heap.size (.slice none 0 0) 0 [] [] rfl (World.ownsRow_nil _ _ _ _) rfl a n c vs p rfl HL1.out HRow.out HEl.out HNil.out (by omega) (Nat.le_refl _) ?_; intro v7 w7 hown7 hel7 hgrow7; refine pause ?_)
  simp only [Nat.zero_add, List.nil_append] at hown7 hel7
  have hb7 : Below u2.heap.size u2 w7 := (Below.refl _ _).grown hgrow7 (Nat.le_refl _) (fun q hq => by cases hq)
  have ha8 := (Below.refl w7.heap.size w7).alloc (Nat.le_refl _) (.cells #[.string ⟨#[]⟩, .slice none 0 0, .int .i64 0, .int .i64 0, .bool false, .string ⟨#[]⟩, .slice none 0 0] 40)
  have hnew := elem_none w7 (fun k => k ≠ w0.heap.size + 1 ∧ ne v7 k)
  have HO8 := Lib.hid (RegA.own_below hown7 ha8)
  have HE8 := Lib.hid (hel7.map (q := fun k => k ≠ w0.heap.size + 1 ∧ ne v7 k) fun _ _ h => KSt.kept h ha8)
  have HN8 := Lib.hid hnew.1
  have HR8 := Lib.hid hnew.2
  have HB8 := Lib.hid (bt hb7 ha8)
  have hz8 : u2.heap.size ≤ (w7.alloc (.cells #[.string ⟨#[]⟩, .slice none 0 0, .int .i64 0, .int .i64 0, .bool false, .string ⟨#[]⟩, .slice none 0 0] 40)).heap.size := (bt hb7 ha8).size
  rw [← HVc.out, ← HU2.out] at hz2
  clear hown7 hel7 hgrow7 hb7 ha8 hnew HRow HEl HNil p0 p1 p2 p3 p4 t1 y0 y1 y2 y3 y4 x0 x1 x2 x3 x4
  unfold Pause
  go_wp2_with (at_builtin; refine RG.Ty.wp_append (K := KSt) tySt (fun k => k ≠ w0.heap.size + 1) rfl (.tmp 39) (.tmp 41) rfl u2.heap.size v7 n vs p rfl HO8.out HE8.out (some ⟨w7.heap.size, 0, none⟩) 1 1 _ [t0] rfl rfl HR8.out HN8.out (fun h => by cases h) (by omega) hz8 ?_; intro v9 w9 hown9 hel9 hgrow9; refine pause ?_)
  have hb9 : Below u2.heap.size u2 w9 := HB8.out.grown hgrow9 hz8 (fun q hq => (HO8.out.lt q hq).1)
  obtain ⟨A9, c9, rfl, hl9, hsl9, hfar9⟩ := RG.own_slG (K := KSt) hown9 hel9 (by decide)
  have hd9 := HD6.out.kept hb9
  have hc9 := HC6.out.kept hb9
  have hx9 := HY1.out.kept (bt HB6.out hb9)
  have hy9 := HY2.out.kept (bt HB6.out hb9)
  have hg10 := Sc.grown_set w9 (w0.heap.size + 1) 0 (.slice A9 (p ++ [t0]).length c9)
  have hs10 := RG.SlG.mono (RG.SlG.grown hsl9 hg10 (fun a ha e => by have := (hfar9 a ha).2.1; omega) (fun k hk => hk.1)) (q := fun _ => True) fun _ _ _ => trivial
  have hd10 := RG.BxN.set hd9 0 (show 0 < 5 by decide) (.slice A9 (p ++ [t0]).length c9)
  have hc10 := RG.BxN.grown hc9 hg10 (fun e => by injection e with e; omega)
  have hx10 := RG.BxN.grown hx9 hg10 (fun e => by injection e with e; omega)
  have hy10 := RG.BxN.grown hy9 hg10 (fun e => by injection e with e; omega)
  have hb10 : Below w.heap.size w (w9.setCell ⟨w0.heap.size + 1, 0, none⟩ (.slice A9 (p ++ [t0]).length c9)) := (bt HB0.out (bt HB6.out hb9)).setCell (p := ⟨w0.heap.size + 1, 0, none⟩) (show w.heap.size ≤ w0.heap.size + 1 by omega) _
  have hld : (p ++ [t0]).length = n + 1 := by rw [List.length_append, HL1.out]; rfl
  rw [hld] at hs10 hd10 hc10 hx10 hy10 hb10 ⊢
  simp only [List.set_cons_zero] at hd10
  obtain ⟨q0', q1', q2', q3', q4'⟩ := bx5 hd9
  obtain ⟨f0, f1, f2, f3, f4⟩ := bx5_free hd9
  obtain ⟨x0, x1, x2, x3, x4⟩ := bx5 hx10
  have HC10 := Lib.hid (show BxQ5 _ w0.heap.size a n c vc pa pi' pf from hc10)
  have HD10 := Lib.hid (show BxQ5 _ (w0.heap.size + 1) A9 (n + 1) c9 pw pa pi' pf from hd10)
  have HX10 := Lib.hid (show BxQ5 _ w.heap.size a n c pw pa pi' pf from hx10)
  have HY10 := Lib.hid (show BxQ5 _ (w.heap.size + 1) b m d qw qa qi qf from hy10)
  have HB10 := Lib.hid hb10
  have HS10 := Lib.hid (show SlSt _ A9 (p ++ [t0]) c9 from hs10)
  clear hown9 hel9 hgrow9 hb9 hl9 hsl9 hfar9 hd9 hc9 hx9 hy9 hg10 hs10 hd10 hc10 hx10 hy10 hb10 hld HO8 HE8 HN8 HR8 HB8 HC6 HD6 HB6 HY1 HY2 HB0 hz8 HU2
  unfold Pause
  go_wp2_with fail
  obtain ⟨w10, hw10⟩ : ∃ v, v = w9.setCell ⟨w0.heap.size + 1, 0, none⟩ (.slice A9 (n + 1) c9) := ⟨_, rfl⟩
  rw [← hw10] at HC10 HD10 HX10 HY10 HB10 HS10 ⊢
  clear hw10 q0' q1' q2' q3' q4' f0 f1 f2 f3 f4 x0 x1 x2 x3 x4
  refine (HP1.out _ HB10.out).mono ?_
  rintro e w11 ⟨A1, d1, rfl, hx1, hb11⟩
  have HB11 := Lib.hid hb11
  have HT1 := Lib.hid hx1
  clear hb11 hx1
  obtain ⟨L1, hL1⟩ : ∃ L, L = (QyM.pv X).length := ⟨_, rfl⟩
  rw [← hL1]
  obtain ⟨q0', q1', q2', q3', q4'⟩ := bx5 (HY10.out.kept HB11.out)
  have HLa := Lib.hid hL1
  clear hL1
  go_wp2_with fail
  refine (HP2.out _ (bt HB10.out HB11.out)).mono ?_
  rintro e w12 ⟨A2, d2, rfl, hx2, hb12⟩
  have HT2 := Lib.hid hx2
  have HT17 := Lib.hid (HT1.out.kept hb12)
  have HB12 := Lib.hid (bt HB11.out hb12)
  clear hb12 hx2 HB11 q0' q1' q2' q3' q4' HT1
  obtain ⟨L2, hL2⟩ : ∃ L, L = (QyM.pv Y).length := ⟨_, rfl⟩
  rw [← hL2]
  have HLb := Lib.hid hL2
  clear hL2
  obtain ⟨p0, p1, p2, p3, p4⟩ := bx5 (HX10.out.kept HB12.out)
  obtain ⟨q0', q1', q2', q3', q4'⟩ := bx5 (HY10.out.kept HB12.out)
  go_wp2_with fail
  refine (HSab.out _ (bt HB10.out HB12.out)).mono ?_
  rintro e w13 ⟨rfl, hb⟩
  have HB13 := Lib.hid (bt HB12.out hb)
  have HT18 := Lib.hid (HT17.out.kept hb)
  have HT28 := Lib.hid (HT2.out.kept hb)
  clear hb HB12 HT17 HT2 p0 p1 p2 p3 p4 q0' q1' q2' q3' q4'
  obtain ⟨p0, p1, p2, p3, p4⟩ := bx5 (HX10.out.kept HB13.out)
  go_wp2_with fail
  refine (HSaa.out _ (bt HB10.out HB13.out)).mono ?_
  rintro e w14 ⟨rfl, hb⟩
  have HB14 := Lib.hid (bt HB13.out hb)
  have HT19 := Lib.hid (HT18.out.kept hb)
  have HT29 := Lib.hid (HT28.out.kept hb)
  clear hb HB13 HT18 HT28 p0 p1 p2 p3 p4
  obtain ⟨p0, p1, p2, p3, p4⟩ := bx5 (HX10.out.kept HB14.out)
  obtain ⟨q0', q1', q2', q3', q4'⟩ := bx5 (HC10.out.kept HB14.out)
  go_wp2_with fail
  refine (HSac.out _ (bt HB10.out HB14.out)).mono ?_
  rintro e w15 ⟨rfl, hb⟩
  have HB15 := Lib.hid (bt HB14.out hb)
  have HT1x := Lib.hid (HT19.out.kept hb)
  have HT2x := Lib.hid (HT29.out.kept hb)
  clear hb HB14 HT19 HT29 p0 p1 p2 p3 p4 q0' q1' q2' q3' q4'
  obtain ⟨p0, p1, p2, p3, p4⟩ := bx5 (HX10.out.kept HB15.out)
  obtain ⟨q0', q1', q2', q3', q4'⟩ := bx5 (HD10.out.kept HB15.out)
  go_wp2_with fail
  refine (HSad.out _ A9 c9 (bt HB10.out HB15.out) (HS10.out.kept HB15.out)).mono ?_
  rintro e w16 ⟨rfl, hb⟩
  have HB16 := Lib.hid (bt HB15.out hb)
  have HT1y := Lib.hid (HT1x.out.kept hb)
  have HT2y := Lib.hid (HT2x.out.kept hb)
  clear hb HB15 HT1x HT2x p0 p1 p2 p3 p4 q0' q1' q2' q3' q4'
  obtain ⟨p0, p1, p2, p3, p4⟩ := bx5 (HX10.out.kept HB16.out)
  obtain ⟨q0', q1', q2', q3', q4'⟩ := bx5 (HY10.out.kept HB16.out)
  go_wp2_with fail
  refine (HSba.out _ (bt HB10.out HB16.out)).mono ?_
  rintro e w17 ⟨rfl, hb⟩
  have HB17 := Lib.hid (bt HB10.out (bt HB16.out hb))
  have hcx := conv_any (HT1y.out.kept hb).1 d1 9 Try.underlying9
  have hcy := conv_any (HT2y.out.kept hb).1 d2 9 Try.underlying9
  rw [← HLa.out] at hcx
  rw [← HLb.out] at hcy
  clear hb HB16 HT1y HT2y p0 p1 p2 p3 p4 q0' q1' q2' q3' q4'
  by_cases m1 : May X
  · by_cases m2 : May Y
    · rw [decide_eq_true m1, decide_eq_true m2]
      cases E
      · have hab := decide_eq_false_iff_not.1 HE.out.symm
        have hne : strOfNums (QyM.pv X) ≠ strOfNums (QyM.pv Y) := fun e => by
          have h := str_inj (pv_bytes HR1.out) (pv_bytes HR2.out) e
          rw [QyM.pv, if_pos m1, QyM.pv, if_pos m2] at h
          exact hab (law_q.inj ⟨okQ_of m1 HR1.out, m1⟩ ⟨okQ_of m2 HR2.out, m2⟩ h)
        obtain ⟨S, hS⟩ : ∃ S, S = strOfNums (QyM.pv X) := ⟨_, rfl⟩
        obtain ⟨T, hT⟩ : ∃ S, S = strOfNums (QyM.pv Y) := ⟨_, rfl⟩
        rw [← hS] at hcx hne
        rw [← hT] at hcy hne
        have hee := str_ne hne
        clear hab hS hT m1 m2 hne HE
        go_wp2_with fail
        go_ret
        exact ⟨ret_bool (by first | rfl | simp), HB17.out⟩
      · have hab := decide_eq_true_iff.1 HE.out.symm
        rw [← hab] at hcy
        obtain ⟨S, hS⟩ : ∃ S, S = strOfNums (QyM.pv X) := ⟨_, rfl⟩
        rw [← hS] at hcx hcy
        have hee : (S.toList == S.toList) = true := by simp
        clear hab hS m1 m2 HE
        go_wp2_with fail
        go_ret
        exact ⟨ret_bool (by first | rfl | simp), HB17.out⟩
    · rw [decide_eq_true m1, decide_eq_false m2]
      clear m1 m2 hcx hcy HE
      cases E
      all_goals
        go_wp2_with fail
        go_ret
        exact ⟨ret_bool (by first | rfl | simp), HB17.out⟩
  · rw [decide_eq_false m1]
    obtain ⟨M2, hM2⟩ : ∃ M, M = decide (May Y) := ⟨_, rfl⟩
    rw [← hM2]
    clear m1 hM2 hcx hcy HE
    cases E
    all_goals
      go_wp2_with fail
      go_ret
      exact ⟨ret_bool (by first | rfl | simp), HB17.out⟩

theorem same_walk (pw pa pi' pf : Int) (a : Option Addr) (n c : Nat) (qw qa qi qf : Int) (b : Option Addr) (m d : Nat) (w : World) (h1 : Op.ArgQ w pw pa pi' pf a n c) (h2 : Op.ArgQ w qw qa qi qf b m d) :
    Calls Try.prog 6 #[.agg #[.slice a n c, .int .i64 pw, .int .i64 pa, .int .i64 pi', .int .i64 pf], .agg #[.slice b m d, .int .i64 qw, .int .i64 qa, .int .i64 qi, .int .i64 qf]] w fun e w' => e = .returned (.bool true) ∧ Below w.heap.size w w' := by
  obtain ⟨p, e1, g1, f1⟩ := h1
  obtain ⟨q, e2, g2, _⟩ := h2
  exact same_walk' pw pa pi' pf a n c qw qa qi qf b m d p q w e1 e2 g1 g2 f1
end Go.Proofs.Ytbmdkibmfkmjoaa.Qy

namespace Go.Proofs.Ytbmdkibmfkmjoaa.querySame
open Go.ChangeShapes Go.WideShapes Go.ChangeAt Go.RowKit

theorem own : ownKnob Try.prog.godebug = none := by kernel_rfl
theorem laidOut : laidOutB Try.prog = true := by kernel_rfl

set_option maxRecDepth 100000 in
theorem lifted (os : Os) (started : os.Started) (H : Type) (enc : TypeId × Value → H) :
    ReturnsInHanded {} Try.checked os 6 .any (Rows.querySameSpec.pre6 enc Try.prog Try.f6 Rows.querySameRow.domain false) (Rows.querySameSpec.post enc Try.prog Try.f6 false true false false) := by
  refine returnsInHanded_of_change (C := Try.checked) own started (by kernel_rfl) Try.func6
    (ChangeSpec.witness6 (enc := enc) (C := Try.checked) false ⟨#[], #[.agg #[.slice none 0 0, .int .i64 0, .int .i64 0, .int .i64 0, .int .i64 0], .agg #[.slice none 0 0, .int .i64 0, .int .i64 0, .int .i64 0, .int .i64 0]], []⟩ 8 (by kernel_rfl) (by kernel_rfl) (by kernel_rfl) (by kernel_rfl)) ?_
  intro W base args ds gs before hval0 hW hcnd _
  have hval : ∀ (j : Nat) t v, Try.f6.params[j]? = some t → args[j]? = some v → Value.okWide Try.prog W .any base t v := hval0
  have hW' := hW
  obtain ⟨p, q, hA0, hV, rfl, hfz, hnd⟩ := hW
  have hA : DataW.TrodAll enc Try.prog W 0 (fun _ => true) true Try.f6.params.toList args.toList ds p := hA0
  rw [Try.params6] at hA hval
  obtain ⟨v0, vs0, d0, ds0, p0, q0, hargs, rfl, rfl, h0, r0⟩ := trodAll_cons hA
  obtain ⟨v1, vs1, d1, ds1, p1, q1, rfl, rfl, rfl, h1, r1⟩ := trodAll_cons r0
  obtain ⟨rfl, rfl, rfl⟩ := trodAll_nil r1
  obtain rfl : args = #[v0, v1] := by cases args; simp_all
  obtain ⟨rfl, rfl⟩ := trodVars_none hV
  have k0 := h0
  have lt0 : ∀ x ∈ p0, x.block < W.heap.size := by obtain ⟨m, hm⟩ := k0; exact DataW.trod_lt m _ _ _ hm
  obtain ⟨qw0, qa0, qi0, qf0, a0, len0, cap0, rfl, w0⟩ := Op.open_query (hval 0 24 v0 rfl rfl) h0
  have k1 := h1
  have lt1 : ∀ x ∈ p1, x.block < W.heap.size := by obtain ⟨m, hm⟩ := k1; exact DataW.trod_lt m _ _ _ hm
  obtain ⟨qw1, qa1, qi1, qf1, a1, len1, cap1, rfl, w1⟩ := Op.open_query (hval 1 24 v1 rfl rfl) h1
  clear hA0 hval0
  refine (Go.Proofs.Ytbmdkibmfkmjoaa.Qy.same_walk qw0 qa0 qi0 qf0 a0 len0 cap0 qw1 qa1 qi1 qf1 a1 len1 cap1 W w0 w1).mono fun e W' ⟨he, bel⟩ => ?_
  subst he
  exact ⟨_, rfl, _, _, _, [], _, [], hW', trodAll_mk1 (shut_bool Try.underlying4 _), (trodAll_cons_mk (Below.trod laidOut (by kernel_rfl) (of_decide_eq_true (by kernel_rfl)) k0 bel lt0) (trodAll_cons_mk (Below.trod laidOut (by kernel_rfl) (of_decide_eq_true (by kernel_rfl)) k1 bel lt1) trodAll_mk0)), rfl, bel.frame _, fun h => by cases h⟩

theorem over : Rows.querySameRow.holds Try.pinned (OpenSpec.ofChange Rows.querySameSpec) :=
  OpenClaim.holds_of_wide 6 Try.f6 rfl rfl rfl rfl rfl rfl rfl ⟨rfl, rfl, rfl, rfl, rfl⟩ rfl rfl rfl rfl rfl (by kernel_rfl) Try.func6 (by kernel_rfl)
    (of_decide_eq_true (by kernel_rfl)) (by unfold Func.isWrapper; first | (rw [if_pos (by decide +kernel)]; kernel_rfl) | (rw [if_neg (by decide +kernel)]; exact ⟨rfl, rfl⟩))
    (fun os started H enc _ => lifted os started H enc)

theorem proved : Rows.QuerySameSaid := over
#print axioms proved
end Go.Proofs.Ytbmdkibmfkmjoaa.querySame
