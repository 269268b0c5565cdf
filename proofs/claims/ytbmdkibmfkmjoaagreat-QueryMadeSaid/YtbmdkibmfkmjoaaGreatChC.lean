/- Several texts in one: what this layer has; what each asks is said at each theorem. -/
import Derived.Test.YtbmdkibmfkmjoaaGreatChA
import Derived.Test.YtbmdkibmfkmjoaaGreatChB
import Derived.Test.YtbmdkibmfkmjoaaGreatQueryMath
import Derived.Test.YtbmdkibmfkmjoaaGreatRegion
import Derived.Test.YtbmdkibmfkmjoaaGreatOpRow
import Derived.Test.YtbmdkibmfkmjoaaGreatStepRow
import Derived.Test.YtbmdkibmfkmjoaaGreatRows
import Derived.Lib.SmallJoins
import Derived.Deep.Slices
import Derived.ShutString
import Derived.OpenShut

namespace Go.Proofs.YtbmdkibmfkmjoaaGreat.Qy
open Go.RowKit Go.Proofs.YtbmdkibmfkmjoaaGreat.BM Go.Proofs.YtbmdkibmfkmjoaaGreat.LM Go.Proofs.YtbmdkibmfkmjoaaGreat.VaM Go.Proofs.YtbmdkibmfkmjoaaGreat.ExM Go.Proofs.YtbmdkibmfkmjoaaGreat.QyM
open Go.Proofs.YtbmdkibmfkmjoaaGreat.Ex (SlO slO_none slO_len)
open Go.Proofs.YtbmdkibmfkmjoaaGreat.Va (ret_v bx_new_t)
open Go.Proofs.YtbmdkibmfkmjoaaGreat.Sc (SlS SlF slF_len)
open Go.Proofs.YtbmdkibmfkmjoaaGreat.ScM (Sc)

set_option maxRecDepth 100000 in
set_option maxHeartbeats 4000000 in
theorem checkAsked_any (l : List Sc) (nm : ByteArray) (f : List O) (A : Option Addr) (c : Nat) (B : Option Addr) (d : Nat) (w : World) (hS : SlS w A l c) (hrm : Rg.RoomL l) (hO : SlO w B f d) :
    Calls Tryz.prog 60 #[.slice A l.length c, .string nm, .slice B f.length d] w fun e w' => e = .returned (.int .i64 (asks l nm f)) ∧ Below w.heap.size w w' := by
  have hfi := Rg.Find_any l nm A c w hS hrm
  have hki := fun K k W (hF : SlF W K (RgM.find l nm).1.f k) (hz : Sc.Fine (RgM.find l nm).1) (h : Below w.heap.size w W) => Ex.Kind_any (RgM.find l nm).1 f K k B d W hF hz (hO.kept h)
  have h1 := @asks_no l nm f
  have h2 := @asks_nil l nm f
  have h3 := @asks_kind l nm f
  obtain ⟨R, hR⟩ : ∃ R, R = asks l nm f := ⟨_, rfl⟩
  rw [← hR] at h1 h2 h3 ⊢
  unfold Rg.Found at hfi
  obtain ⟨⟨s, is⟩, hF⟩ : ∃ F, F = RgM.find l nm := ⟨_, rfl⟩
  rw [← hF] at h1 h2 h3
  simp only [← hF] at hfi hki
  simp only at h1 h2 h3
  obtain ⟨⟨kk, ke⟩, hk⟩ : ∃ K, K = kind s f := ⟨_, rfl⟩
  rw [← hk] at h3
  simp only [← hk] at hki
  simp only at h3
  clear hF hk hR
  obtain ⟨fs, fv, ff⟩ := s
  simp only at hfi hki
  obtain ⟨n, hn⟩ : ∃ n, n = l.length := ⟨_, rfl⟩
  obtain ⟨m, hm⟩ : ∃ n, n = f.length := ⟨_, rfl⟩
  obtain ⟨k, hk⟩ : ∃ n, n = ff.length := ⟨_, rfl⟩
  simp only [← hn, ← hm, ← hk] at hfi hki
  rw [← hn, ← hm]
  have HFi := Lib.hid hfi
  have HKi := Lib.hid hki
  have H1 := Lib.hid h1
  have H2 := Lib.hid h2
  have H3 := Lib.hid h3
  have HM := Lib.hid hm
  clear hfi hki h1 h2 h3 hn hm hk hS hO
  go_enter Tryz.func60, Tryz.ntmps60
  go_wp2_with fail
  refine HFi.out.mono ?_
  rintro e w1 ⟨A1, c1, rfl, hs, hz, hb⟩
  have ha := (Below.refl w1.heap.size w1).alloc (Nat.le_refl _) (.cells #[.string fs, .int .i64 fv, .slice A1 k c1] 40)
  obtain ⟨⟨p0, p1, p2⟩, _⟩ := bx_new_t w1 40 (.string fs) (.int .i64 fv) (.slice A1 k c1)
  have HB := Lib.hid (bt hb ha)
  have HC := Lib.hid (HKi.out A1 c1 _ (hs.kept ha) hz (bt hb ha))
  clear hs hz hb ha HFi HKi
  cases is
  · have HR := Lib.hid (H1.out rfl)
    clear H1 H2 H3
    go_wp2_with fail
    go_ret
    exact ⟨ret_v (x := .int .i64 3) (by rw [HR.out]), HB.out⟩
  · by_cases hf : f = []
    · have HR := Lib.hid (H2.out rfl hf)
      have g0 : m = 0 := by rw [HM.out, hf]; rfl
      subst g0
      clear H1 H2 H3 hf HM
      go_wp2_with fail
      go_ret
      exact ⟨ret_v (x := .int .i64 0) (by rw [HR.out]), HB.out⟩
    · have HR := Lib.hid (H3.out rfl hf)
      have hm0 : m ≠ 0 := fun e => hf (List.length_eq_zero_iff.1 (by rw [← HM.out, e]))
      have g0 : ((m : Int) == 0) = false := by simpa using (show (m : Int) ≠ 0 by omega)
      have g0' : (m == 0) = false := by simpa using hm0
      obtain ⟨z1, g1⟩ : ∃ z, (ke == 0) = z := ⟨_, rfl⟩
      obtain ⟨z2, g2⟩ : ∃ z, (kk != 1) = z := ⟨_, rfl⟩
      have HR2 := Lib.hid (show R = if z1 = true ∧ z2 = true then 5 else ke from by
        rw [HR.out, ← g1, ← g2]
        simp only [beq_iff_eq, bne_iff_ne])
      clear H1 H2 H3 hf hm0 HM HR
      go_wp2_with fail
      refine HC.out.mono ?_
      rintro e w2 ⟨rfl, hb2⟩
      have HB2 := Lib.hid (bt HB.out hb2)
      clear hb2
      cases z1
      · go_wp2_with fail
        go_ret
        exact ⟨ret_v (x := .int .i64 ke) (by rw [HR2.out]; rfl), HB2.out⟩
      · cases z2
        · go_wp2_with fail
          go_ret
          exact ⟨ret_v (x := .int .i64 ke) (by rw [HR2.out]; rfl), HB2.out⟩
        · go_wp2_with fail
          go_ret
          exact ⟨ret_v (x := .int .i64 5) (by rw [HR2.out]; rfl), HB2.out⟩

set_option maxRecDepth 100000 in
set_option maxHeartbeats 4000000 in
theorem checkStep_any (l : List Sc) (x : St) (A : Option Addr) (c : Nat) (A1 : Option Addr) (c1 : Nat) (B1 : Option Addr) (d1 : Nat) (w : World) (hS : SlS w A l c) (hrm : Rg.RoomL l) (hA : SlO w A1 x.f c1) (hB : SlO w B1 x.h d1) :
    Calls Tryz.prog 35 #[.slice A l.length c, agSt x A1 c1 B1 d1] w fun e w' => e = .returned (.int .i64 (asksS l x)) ∧ Below w.heap.size w w' := by
  have hX := bxSt_new w x A1 c1 B1 d1
  have ha := (Below.refl w.heap.size w).alloc (Nat.le_refl _) (.cells #[.string x.s, .slice A1 x.f.length c1, .int .i64 x.lo, .int .i64 x.hi, .bool x.g, .string x.t, .slice B1 x.h.length d1] 47)
  have hk1 := checkAsked_any l x.s x.f A c A1 c1 _ (hS.kept ha) hrm (hA.kept ha)
  have hk2 := fun W (h : Below w.heap.size w W) => checkAsked_any l x.t x.h A c B1 d1 W (hS.kept h) hrm (hB.kept h)
  have hyes := @asksS_yes l x
  have hno := @asksS_no l x
  obtain ⟨S, hSx⟩ : ∃ S, S = asksS l x := ⟨_, rfl⟩
  rw [← hSx] at hyes hno ⊢
  obtain ⟨E1, hE1⟩ : ∃ E, E = asks l x.s x.f := ⟨_, rfl⟩
  obtain ⟨E2, hE2⟩ : ∃ E, E = asks l x.t x.h := ⟨_, rfl⟩
  rw [← hE1] at hyes hno hk1
  rw [← hE2] at hyes
  simp only [← hE2] at hk2
  unfold agSt
  unfold BxSt encSt at hX
  clear hE1 hE2 hSx hS hA hB
  obtain ⟨xs, xf, lo, hi', xg, xt, xh⟩ := x
  simp only at hX ha hk1 hk2 hyes hno ⊢
  obtain ⟨m, hm⟩ : ∃ m, m = l.length := ⟨_, rfl⟩
  obtain ⟨n1, hn1⟩ : ∃ n, n = xf.length := ⟨_, rfl⟩
  obtain ⟨n2, hn2⟩ : ∃ n, n = xh.length := ⟨_, rfl⟩
  simp only [← hm, ← hn1, ← hn2] at hX ha hk1 hk2 ⊢
  have HB1 := Lib.hid ha
  have HX := Lib.hid hX
  have HK1 := Lib.hid hk1
  have HK2 := Lib.hid hk2
  have HYes := Lib.hid hyes
  have HNo := Lib.hid hno
  obtain ⟨p0, p1, p2, p3, p4, p5, p6⟩ := bx7 hX
  clear hX ha hk1 hk2 hyes hno hm hn1 hn2
  go_enter Tryz.func35, Tryz.ntmps35
  go_wp2_with fail
  refine HK1.out.mono ?_
  rintro e w2 ⟨rfl, hb2⟩
  have HB2 := Lib.hid (bt HB1.out hb2)
  obtain ⟨r0, r1, r2, r3, r4, r5, r6⟩ := bx7 (RG.BxN.kept HX.out hb2)
  clear hb2 HK1 p0 p1 p2 p3 p4 p5 p6
  by_cases hE1z : E1 = 0
  · subst hE1z
    cases xg
    · have HS0 := Lib.hid (HNo.out (fun h => by cases h.2))
      go_wp2_with fail
      go_ret
      exact ⟨ret_v (x := .int .i64 0) (by rw [HS0.out]), HB2.out⟩
    · have HS0 := Lib.hid (HYes.out rfl rfl)
      go_wp2_with fail
      refine (HK2.out w2 HB2.out).mono ?_
      rintro e w3 ⟨rfl, hb3⟩
      have HB3 := Lib.hid (bt HB2.out hb3)
      clear hb3
      go_wp2_with fail
      go_ret
      exact ⟨ret_v (x := .int .i64 E2) (by rw [HS0.out]), HB3.out⟩
  · have g2 : (E1 == 0) = false := by simpa using hE1z
    have HS0 := Lib.hid (HNo.out (fun h => hE1z h.1))
    clear hE1z
    go_wp2_with fail
    go_ret
    exact ⟨ret_v (x := .int .i64 E1) (by rw [HS0.out]), HB2.out⟩

set_option maxRecDepth 100000 in
set_option maxHeartbeats 8000000 in
theorem checkAgg_any (l : List Sc) (q : Q) (A : Option Addr) (c : Nat) (B : Option Addr) (d : Nat) (w : World) (hS : SlS w A l c) (hrm : Rg.RoomL l) (hT : SlSt w B q.p d) (hmq : May q) :
    Calls Tryz.prog 36 #[.slice A l.length c, agQ q B d] w fun e w' => e = .returned (.int .i64 (if aggBad l q then 5 else 0)) ∧ Below w.heap.size w w' := by
  have hb1 := (Below.refl w.heap.size w).alloc (Nat.le_refl _) (.cells #[.slice B q.p.length d, .int .i64 q.w, .int .i64 q.a, .int .i64 q.i, .int .i64 q.f] 25)
  have hX := bxQ_new w q B d
  have hfind := fun nm W (h : Below w.heap.size w W) => Rg.Find_any l nm A c W (hS.kept h) hrm
  have hagg : aggBad l q ↔ q.a ≠ 0 ∧ ¬ (q.f < ((RgM.find l (q.p.getD q.i.toNat t0).s).1.f.length : Int) ∧ ((RgM.find l (q.p.getD q.i.toNat t0).s).1.f.getD q.f.toNat ScM.d0).k = 0) := Iff.rfl
  obtain ⟨R, hR⟩ : ∃ R : Int, R = if aggBad l q then 5 else 0 := ⟨_, rfl⟩
  rw [← hR]
  have h5 : aggBad l q → R = 5 := fun h => by rw [hR, if_pos h]
  have h0 : ¬ aggBad l q → R = 0 := fun h => by rw [hR, if_neg h]
  obtain ⟨hi0, hin⟩ : 0 ≤ q.i ∧ q.i < (q.p.length : Int) := hmq.2.2.2.1
  have hf0 : 0 ≤ q.f := hmq.2.2.2.2.1.1
  unfold agQ
  unfold BxQ encQ at hX
  clear hR hS hmq
  obtain ⟨qp, qw, qa, qi, qf⟩ := q
  simp only at hb1 hX hT hagg hi0 hin hf0 ⊢
  obtain ⟨ki, rfl⟩ := Int.eq_ofNat_of_zero_le hi0
  obtain ⟨kf, rfl⟩ := Int.eq_ofNat_of_zero_le hf0
  simp only [Int.toNat_natCast] at hagg
  rw [hagg] at h5 h0
  clear hagg
  obtain ⟨m, hm⟩ : ∃ m, m = l.length := ⟨_, rfl⟩
  obtain ⟨n, hn⟩ : ∃ n, n = qp.length := ⟨_, rfl⟩
  simp only [← hm, ← hn] at hb1 hX hfind hin ⊢
  have hkn : ki < n := by omega
  have HX := Lib.hid hX
  have HB1 := Lib.hid hb1
  obtain ⟨p0, p1, p2, p3, p4⟩ := bx5 hX
  obtain ⟨b1, q1, A1, c1, C1, d1, hix, hc, _⟩ := hT.at ki (by rw [← hn]; exact hkn)
  have hcell := (hc _ hb1).1
  unfold CellSt at hcell
  obtain ⟨x0, x1, x2, x3, x4, x5, x6⟩ := hcell
  have hi := fun W => hix W n d hkn
  have hfn := hfind (qp.getD ki t0).s _ hb1
  obtain ⟨xs, hxs⟩ : ∃ s, s = (qp.getD ki t0).s := ⟨_, rfl⟩
  rw [← hxs] at x0 hfn h5 h0
  unfold Rg.Found at hfn
  obtain ⟨⟨s, is⟩, hF⟩ : ∃ F, F = RgM.find l xs := ⟨_, rfl⟩
  rw [← hF] at hfn h5 h0
  simp only at hfn h5 h0
  obtain ⟨fs, fv, ff⟩ := s
  simp only at hfn h5 h0
  obtain ⟨nf, hnf⟩ : ∃ n, n = ff.length := ⟨_, rfl⟩
  rw [← hnf] at hfn h5 h0
  have HFn := Lib.hid hfn
  have H5 := Lib.hid h5
  have H0 := Lib.hid h0
  have HNf := Lib.hid hnf
  clear hfind hX hb1 hT hm hn hix hc hxs hF hnf hfn h5 h0 x1 x2 x3 x4 x5 x6 hi0 hin hf0
  by_cases hqa : qa = 0
  · subst hqa
    have HR := Lib.hid (H0.out (fun h => h.1 rfl))
    go_enter Tryz.func36, Tryz.ntmps36
    go_wp2_with fail
    go_ret
    exact ⟨ret_v (x := .int .i64 0) (by rw [HR.out]), HB1.out⟩
  · have g1 : (qa == 0) = false := by simpa using hqa
    have H5' := Lib.hid (fun h => H5.out ⟨hqa, h⟩)
    have H0' := Lib.hid (fun h => H0.out (fun k => k.2 h))
    clear H5 H0 hqa
    go_enter Tryz.func36, Tryz.ntmps36
    go_wp2_with fail
    refine HFn.out.mono ?_
    rintro e w5 ⟨K, k5, rfl, hsl, hfz, hb5⟩
    have ha6 := (Below.refl w5.heap.size w5).alloc (Nat.le_refl _) (.cells #[.string fs, .int .i64 fv, .slice K nf k5] 40)
    obtain ⟨⟨y0, y1, y2⟩, _⟩ := bx_new_t w5 40 (.string fs) (.int .i64 fv) (.slice K nf k5)
    have HB6 := Lib.hid (bt HB1.out (bt hb5 ha6))
    obtain ⟨s0, s1, s2, s3, s4⟩ := bx5 (RG.BxN.kept HX.out (bt hb5 ha6))
    have HSl := Lib.hid (hsl.kept ha6)
    clear hsl hb5 ha6 hfz p0 p1 p2 p3 p4 x0 hi HFn
    by_cases hkf : kf < nf
    · have g2 : decide ((nf : Int) ≤ (kf : Int)) = false := by rw [decide_eq_false_iff_not]; omega
      have g2' : decide (nf ≤ kf) = false := by rw [decide_eq_false_iff_not]; omega
      obtain ⟨b6, q6, hix6, hc6, _⟩ := HSl.out.at kf (by rw [← HNf.out]; exact hkf)
      obtain ⟨_, t1⟩ := hc6 _ (Below.refl _ _)
      have hi6 := fun W => hix6 W nf k5 hkf
      obtain ⟨fk, hfk⟩ : ∃ k, k = (ff.getD kf ScM.d0).k := ⟨_, rfl⟩
      rw [← hfk] at t1
      obtain ⟨z, gz⟩ : ∃ z, (fk != 0) = z := ⟨_, rfl⟩
      have HR := Lib.hid (show R = if z = true then 5 else 0 from by
        by_cases hz : fk = 0
        · rw [H0'.out ⟨by omega, by rw [← hfk]; exact hz⟩, ← gz, hz]
          rfl
        · rw [H5'.out (fun h => hz (by rw [hfk]; exact h.2)), ← gz, if_pos (by simpa using hz)])
      clear hc6 hix6 hfk H0' H5'
      cases z
      · go_wp2_with fail
        go_ret
        exact ⟨ret_v (x := .int .i64 0) (by rw [HR.out]; rfl), HB6.out⟩
      · go_wp2_with fail
        go_ret
        exact ⟨ret_v (x := .int .i64 5) (by rw [HR.out]; rfl), HB6.out⟩
    · have g2 : decide ((nf : Int) ≤ (kf : Int)) = true := by rw [decide_eq_true_iff]; omega
      have g2' : decide (nf ≤ kf) = true := by rw [decide_eq_true_iff]; omega
      have HR := Lib.hid (H5'.out (fun h => hkf (by omega)))
      go_wp2_with fail
      go_ret
      exact ⟨ret_v (x := .int .i64 5) (by rw [HR.out]), HB6.out⟩

set_option maxRecDepth 100000 in
set_option maxHeartbeats 8000000 in
theorem Check_any (l : List Sc) (q : Q) (A : Option Addr) (c : Nat) (B : Option Addr) (d : Nat) (w : World) (hS : SlS w A l c) (hT : SlSt w B q.p d) :
    Calls Tryz.prog 14 #[.slice A l.length c, agQ q B d] w fun e w' => e = .returned (.int .i64 (check l q)) ∧ Below w.heap.size w w' := by
  have hlen := slSt_len hT
  have hml := fun W (h : Below w.heap.size w W) => Rg.May_any l A c W (hS.kept h)
  have hmq := fun W (h : Below w.heap.size w W) => wellMade_any q B d W (hT.kept h)
  have hask := fun x K k K2 k2 W (h : Below w.heap.size w W) (hm : RgM.May l) (hO : SlO W K x.f k) (hO2 : SlO W K2 x.h k2) => checkStep_any l x A c K k K2 k2 W (hS.kept h) (Rg.roomL_may hm) hO hO2
  have hag := fun W (h : Below w.heap.size w W) (hm : RgM.May l ∧ May q) => checkAgg_any l q A c B d W (hS.kept h) (Rg.roomL_may hm.1) (hT.kept h) hm.2
  have h1 := @check_1 l q
  have he := fun h j => @check_e l q h j
  have ha := @check_a l q
  have hb1 := (Below.refl w.heap.size w).alloc (Nat.le_refl _) (.cells #[.slice B q.p.length d, .int .i64 q.w, .int .i64 q.a, .int .i64 q.i, .int .i64 q.f] 25)
  have hX := bxQ_new w q B d
  obtain ⟨R, hR⟩ : ∃ R, R = check l q := ⟨_, rfl⟩
  rw [← hR] at h1 ha ⊢
  simp only [← hR] at he
  unfold agQ at hmq hag ⊢
  unfold BxQ encQ at hX
  obtain ⟨m, hm⟩ : ∃ m, m = l.length := ⟨_, rfl⟩
  obtain ⟨n, hn⟩ : ∃ n, n = q.p.length := ⟨_, rfl⟩
  simp only [← hm] at hml hask hag
  simp only [← hn] at hmq he ha hb1 hlen hag hX
  rw [← hm, ← hn]
  have HX := Lib.hid hX
  have HB1 := Lib.hid hb1
  have HMl := Lib.hid hml
  have HMq := Lib.hid hmq
  have HAsk := Lib.hid hask
  have HAgg := Lib.hid hag
  have H1 := Lib.hid h1
  have HE := Lib.hid he
  have HA := Lib.hid ha
  have HN := Lib.hid hn
  have HT := Lib.hid hT
  obtain ⟨p0, p1, p2, p3, p4⟩ := bx5 hX
  clear hml hmq hask hag h1 he ha hb1 hX hR hn hm hS hT
  go_enter Tryz.func14, Tryz.ntmps14
  go_wp2_with fail
  obtain ⟨w1, hw1⟩ : ∃ w1, w1 = w.alloc (.cells #[.slice B n d, .int .i64 q.w, .int .i64 q.a, .int .i64 q.i, .int .i64 q.f] 25) := ⟨_, rfl⟩
  rw [← hw1] at HX HB1 ⊢
  have HXk := Lib.hid (fun W h => bx5 (RG.BxN.kept HX.out (w' := W) h))
  clear hw1 HX p0 p1 p2 p3 p4
  refine (HMl.out w1 HB1.out).mono ?_
  rintro e w2 ⟨rfl, hb2⟩
  have HB2 := Lib.hid hb2
  obtain ⟨p0, p1, p2, p3, p4⟩ := HXk.out w2 hb2
  clear hb2 HMl
  obtain ⟨a1, ha1⟩ : ∃ a, a = decide (RgM.May l) := ⟨_, rfl⟩
  rw [← ha1]
  have HA1 := Lib.hid ha1
  clear ha1
  cases a1
  · have HR := Lib.hid (H1.out (fun h => by
      have g1 := HA1.out
      rw [decide_eq_true h.1] at g1
      cases g1))
    go_wp2_with fail
    go_ret
    exact ⟨ret_v (x := .int .i64 1) (by rw [HR.out]), bt HB1.out HB2.out⟩
  go_wp2_with fail
  refine (HMq.out w2 (bt HB1.out HB2.out)).mono ?_
  rintro e w3 ⟨rfl, hb3⟩
  have HB3 := Lib.hid (bt HB2.out hb3)
  obtain ⟨a2, ha2⟩ : ∃ a, a = decide (May q) := ⟨_, rfl⟩
  rw [← ha2]
  have HA2 := Lib.hid ha2
  obtain ⟨r0, r1, r2, r3, r4⟩ := HXk.out w3 HB3.out
  clear hb3 ha2 HMq HB2 p0 p1 p2 p3 p4
  cases a2
  · have HR := Lib.hid (H1.out (fun h => by
      have g1 := HA2.out
      rw [decide_eq_true h.2] at g1
      cases g1))
    go_wp2_with fail
    go_ret
    exact ⟨ret_v (x := .int .i64 1) (by rw [HR.out]), bt HB1.out HB3.out⟩
  have hmays : RgM.May l ∧ May q := ⟨of_decide_eq_true HA1.out.symm, of_decide_eq_true HA2.out.symm⟩
  have HMs := Lib.hid hmays
  have HE2 := Lib.hid (HE.out hmays)
  have HAg2 := Lib.hid (HA.out hmays)
  clear hmays H1 HE HA HA1 HA2
  go_wp2_with fail
  go_loopw [18] (fun i wr => ∃ j : Nat, i = .int .i64 j ∧ j ≤ n ∧ (∀ i, i < j → asksS l (q.p.getD i t0) = 0) ∧ Below w1.heap.size w1 wr) (fun i _ => n - (intOf i).toNat)
  case atStart => exact ⟨0, rfl, Nat.zero_le _, (fun i hi => absurd hi (Nat.not_lt_zero i)), HB3.out⟩
  case round =>
    obtain ⟨j, rfl, hj, hall, hbel⟩ := hrel
    have HAl := Lib.hid hall
    have HBl := Lib.hid hbel
    obtain ⟨p0, p1, p2, p3, p4⟩ := HXk.out wr hbel
    clear hall hbel HB3 r0 r1 r2 r3 r4
    by_cases hjn : j < n
    · obtain ⟨b1, q1, A1, c1, C1, d1, hix, hc, hfz⟩ := HT.out.at j (by rw [← HN.out]; exact hjn)
      obtain ⟨hcell, hA1, hC1⟩ := hc wr (bt HB1.out HBl.out)
      have hi := fun W => hix W n d hjn
      have hej := HE2.out j hjn HAl.out
      obtain ⟨x, hx⟩ : ∃ x, x = q.p.getD j t0 := ⟨_, rfl⟩
      rw [← hx] at hcell hA1 hC1 hej
      have hsucc : asksS l x = 0 → ∀ i, i < j + 1 → asksS l (q.p.getD i t0) = 0 := fun h i hi => by
        by_cases e : i = j
        · rw [e, ← hx]
          exact h
        · exact HAl.out i (by omega)
      have hk := HAsk.out x A1 c1 C1 d1 wr (bt HB1.out HBl.out) HMs.out.1 hA1 hC1
      obtain ⟨S, hSx⟩ : ∃ S, S = asksS l x := ⟨_, rfl⟩
      rw [← hSx] at hej hsucc hk
      unfold agSt at hk
      unfold CellSt at hcell
      obtain ⟨xs, xf, lo, hi', xg, xt, xh⟩ := x
      simp only at hcell hk
      obtain ⟨x0, x1, x2, x3, x4, x5, x6⟩ := hcell
      obtain ⟨n1, hn1⟩ : ∃ n, n = xf.length := ⟨_, rfl⟩
      obtain ⟨n2, hn2⟩ : ∃ n, n = xh.length := ⟨_, rfl⟩
      simp only [← hn1] at x1 hk
      simp only [← hn2] at x6 hk
      have HK := Lib.hid hk
      have HEj := Lib.hid hej
      have HSu := Lib.hid hsucc
      clear hc hix hfz hA1 hC1 hej hsucc hk hSx hn1 hn2 hx
      go_wp2_with fail
      refine HK.out.mono ?_
      rintro e w5 ⟨rfl, hb5⟩
      have HB5 := Lib.hid (bt HBl.out hb5)
      clear hb5 HK x0 x1 x2 x3 x4 x5 x6 p0 p1 p2 p3 p4 hi
      by_cases hSz : S = 0
      · subst hSz
        have HNx := Lib.hid (HSu.out rfl)
        go_wp2_with fail
        go_roundw
        case rel => exact ⟨j + 1, by go_num, by omega, HNx.out, HB5.out⟩
        case measure => simp [intOf]; omega
      · have g1 : (S != 0) = true := by simpa using hSz
        have HR := Lib.hid (HEj.out hSz)
        clear hSz
        go_wp2_with fail
        go_ret
        exact ⟨ret_v (x := .int .i64 S) (by rw [HR.out]), bt HB1.out HB5.out⟩
    · obtain rfl : j = n := by omega
      have HRr := Lib.hid (HAg2.out HAl.out)
      have hg := HAgg.out wr (bt HB1.out HBl.out) HMs.out
      obtain ⟨E, hE⟩ : ∃ E : Int, E = if aggBad l q then 5 else 0 := ⟨_, rfl⟩
      rw [← hE] at hg
      have HR := Lib.hid (show R = E from by rw [HRr.out, hE])
      have HG := Lib.hid hg
      clear hg hE
      go_wp2_with fail
      refine HG.out.mono ?_
      rintro e w5 ⟨rfl, hb5⟩
      have HB5 := Lib.hid (bt HBl.out hb5)
      clear hb5
      go_wp2_with fail
      go_ret
      exact ⟨ret_v (x := .int .i64 E) (by rw [HR.out]), bt HB1.out HB5.out⟩
end Go.Proofs.YtbmdkibmfkmjoaaGreat.Qy

namespace Go.Proofs.YtbmdkibmfkmjoaaGreat.Qy
open Go.RowKit Go.Proofs.YtbmdkibmfkmjoaaGreat.BM Go.Proofs.YtbmdkibmfkmjoaaGreat.VaM Go.Proofs.YtbmdkibmfkmjoaaGreat.ExM Go.Proofs.YtbmdkibmfkmjoaaGreat.QyM

theorem steps_iff {a b : List St} (h : a.length = b.length) : a = b ↔ ∀ j, j < a.length → a.getD j t0 = b.getD j t0 := by
  constructor
  · rintro rfl j _
    rfl
  · intro hh
    apply List.ext_getElem h
    intro i h1 h2
    have h3 := hh i h1
    rw [List.getD_eq_getElem?_getD, List.getD_eq_getElem?_getD, List.getElem?_eq_getElem h1, List.getElem?_eq_getElem h2] at h3
    exact h3

end Go.Proofs.YtbmdkibmfkmjoaaGreat.Qy

namespace Go.Proofs.YtbmdkibmfkmjoaaGreat.Qy
open Go.RowKit Go.Proofs.YtbmdkibmfkmjoaaGreat.BM Go.Proofs.YtbmdkibmfkmjoaaGreat.LM Go.Proofs.YtbmdkibmfkmjoaaGreat.VaM Go.Proofs.YtbmdkibmfkmjoaaGreat.ExM Go.Proofs.YtbmdkibmfkmjoaaGreat.QyM
open Go.Proofs.YtbmdkibmfkmjoaaGreat.Ex (SlO slO_none slO_len)
open Go.Proofs.YtbmdkibmfkmjoaaGreat.Va (ret_v toList_beq)

set_option maxRecDepth 100000 in
set_option maxHeartbeats 16000000 in
theorem Same_any (a b : Q) (A : Option Addr) (c : Nat) (B : Option Addr) (d : Nat) (w : World) (hS : SlSt w A a.p c) (hT : SlSt w B b.p d) :
    Calls Tryz.prog 16 #[agQ a A c, agQ b B d] w fun e w' => e = .returned (.bool (decide (a = b))) ∧ Below w.heap.size w w' := by
  have hl := slSt_len hS
  have hm := slSt_len hT
  have hq := @steps_iff a.p b.p
  have hba := fun W => behindSteps_any a A c W
  have hbb' := fun W => behindSteps_any b B d W
  have heq := fun W => eql_b a b W
  obtain ⟨z, gz⟩ : ∃ z, decide (a.w = b.w ∧ a.a = b.a ∧ a.i = b.i ∧ a.f = b.f) = z := ⟨_, rfl⟩
  simp only [gz] at heq
  obtain ⟨R, hR⟩ : ∃ R, R = decide (a = b) := ⟨_, rfl⟩
  rw [← hR]
  have hr : R = true ↔ a.p = b.p ∧ z = true := by rw [hR, decide_eq_true_iff, Q.ext_iff', ← gz, decide_eq_true_iff]
  have hX := bxQ_new w a A c
  have hb1 := (Below.refl w.heap.size w).alloc (Nat.le_refl _) (.cells #[.slice A a.p.length c, .int .i64 a.w, .int .i64 a.a, .int .i64 a.i, .int .i64 a.f] 25)
  obtain ⟨u1, hu1⟩ : ∃ u, u = w.alloc (.cells #[.slice A a.p.length c, .int .i64 a.w, .int .i64 a.a, .int .i64 a.i, .int .i64 a.f] 25) := ⟨_, rfl⟩
  have hs1 : u1.heap.size = w.heap.size + 1 := by rw [hu1]; simp
  rw [← hu1] at hX hb1
  have hY := bxQ_new u1 b B d
  rw [hs1] at hY
  have hb2 := (Below.refl u1.heap.size u1).alloc (Nat.le_refl _) (.cells #[.slice B b.p.length d, .int .i64 b.w, .int .i64 b.a, .int .i64 b.i, .int .i64 b.f] 25)
  have hX2 := hX.kept hb2
  have hbb := bt hb1 hb2
  rw [hu1] at hX2 hY hbb
  unfold BxQ encQ at hX2 hY
  clear hX hb1 hb2 hs1 hu1 u1 gz hR
  unfold agQ at hba hbb' ⊢
  unfold agB at hba hbb' heq
  obtain ⟨ap, aw, aa, ai, af⟩ := a
  obtain ⟨bp, bw, ba, bi, bf⟩ := b
  simp only at hS hT hl hm hq hr hX2 hY hbb hba hbb' heq ⊢
  obtain ⟨n, hn⟩ : ∃ n, n = ap.length := ⟨_, rfl⟩
  obtain ⟨r, hr'⟩ : ∃ r, r = bp.length := ⟨_, rfl⟩
  rw [← hn] at hl
  rw [← hr'] at hm
  simp only [← hn, ← hr'] at hX2 hY hbb hba hbb' ⊢
  rw [← hn] at hq
  rw [← hr'] at hq
  have hlen : ap = bp → n = r := fun e => by rw [hn, hr', e]
  obtain ⟨z0, g0⟩ : ∃ z, ((n : Int) != (r : Int)) = z := ⟨_, rfl⟩
  have g0' : (n != r) = z0 := by rw [← g0, Bool.eq_iff_iff, bne_iff_ne, bne_iff_ne]; omega
  have HN := Lib.hid hn
  have HRr := Lib.hid hr'
  have HS := Lib.hid hS
  have HT := Lib.hid hT
  have HQ := Lib.hid hq
  have HR := Lib.hid hr
  have HB := Lib.hid hbb
  have HG0 := Lib.hid g0'
  have HL := Lib.hid hlen
  have HBa := Lib.hid hba
  have HBb := Lib.hid hbb'
  have HEq := Lib.hid heq
  have HX := Lib.hid hX2
  have HY := Lib.hid hY
  obtain ⟨p0, p1, p2, p3, p4⟩ := bx5 hX2
  obtain ⟨q0', q1', q2', q3', q4'⟩ := bx5 hY
  clear hn hr' hS hT hq hr hbb hlen hba hbb' heq hX2 hY
  cases z0
  rotate_left
  · have HF := Lib.hid (show R = false from by
      cases R
      · rfl
      · have h1 := HL.out (HR.out.1 rfl).1
        have h2 := HG0.out
        rw [bne_iff_ne] at h2
        exact absurd h1 h2)
    clear HR HG0
    go_enter Tryz.func16, Tryz.ntmps16
    go_wp2_with fail
    go_ret
    exact ⟨ret_v (x := .bool false) (by rw [HF.out]), HB.out⟩
  have hnr : n = r := by
    have := HG0.out
    rw [bne_eq_false_iff_eq] at this
    exact this
  subst hnr
  have HQ2 := Lib.hid (HQ.out rfl)
  have HFa := Lib.hid (fun h : ap ≠ bp => (by
    cases R
    · rfl
    · exact absurd (HR.out.1 rfl).1 h : R = false))
  clear HQ HG0 HL
  go_enter Tryz.func16, Tryz.ntmps16
  go_wp2_with fail
  obtain ⟨w1, hw1⟩ : ∃ w1, w1 = (w.alloc (.cells #[.slice A n c, .int .i64 aw, .int .i64 aa, .int .i64 ai, .int .i64 af] 25)).alloc (.cells #[.slice B n d, .int .i64 bw, .int .i64 ba, .int .i64 bi, .int .i64 bf] 25) := ⟨_, rfl⟩
  rw [← hw1] at HX HY HB ⊢
  have HXk := Lib.hid (fun W (hW : Below w1.heap.size w1 W) => bx5 (RG.BxN.kept HX.out hW))
  have HYk := Lib.hid (fun W (hW : Below w1.heap.size w1 W) => bx5 (RG.BxN.kept HY.out hW))
  clear hw1 p0 p1 p2 p3 p4 q0' q1' q2' q3' q4' HX HY
  go_loopw [16] (fun i wr => ∃ j : Nat, i = .int .i64 j ∧ j ≤ n ∧ (∀ i, i < j → ap.getD i t0 = bp.getD i t0) ∧ Below w1.heap.size w1 wr) (fun i _ => n - (intOf i).toNat)
  case atStart => exact ⟨0, rfl, Nat.zero_le _, (fun i hi => absurd hi (Nat.not_lt_zero i)), Below.refl _ _⟩
  case round =>
    obtain ⟨j, rfl, hj, hall, hbel⟩ := hrel
    have HAl := Lib.hid hall
    have HBl := Lib.hid hbel
    clear hall hbel
    by_cases hjn : j < n
    · obtain ⟨b1, q1, A1, c1, C1, d1, hix1, hc1, _⟩ := HS.out.at j (by rw [← HN.out]; exact hjn)
      obtain ⟨b2, q2, A2, c2, C2, d2, hix2, hc2, _⟩ := HT.out.at j (by rw [← HRr.out]; exact hjn)
      obtain ⟨hcell1, hA1, hC1⟩ := hc1 wr (bt HB.out HBl.out)
      obtain ⟨hcell2, hA2, hC2⟩ := hc2 wr (bt HB.out HBl.out)
      have hi1 := fun W => hix1 W n c hjn
      have hi2 := fun W => hix2 W n d hjn
      obtain ⟨x, hx⟩ : ∃ x, x = ap.getD j t0 := ⟨_, rfl⟩
      obtain ⟨y, hy⟩ : ∃ y, y = bp.getD j t0 := ⟨_, rfl⟩
      rw [← hx] at hcell1 hA1 hC1
      rw [← hy] at hcell2 hA2 hC2
      have hsucc : x = y → ∀ i, i < j + 1 → ap.getD i t0 = bp.getD i t0 := fun h i hi => by
        by_cases e : i = j
        · rw [e, ← hx, ← hy]
          exact h
        · exact HAl.out i (by omega)
      have hfail : x ≠ y → ap ≠ bp := fun h e => h (by rw [hx, hy, e])
      have hss := fun W (h : Below wr.heap.size wr W) => sameStep_any x y A1 c1 C1 d1 A2 c2 C2 d2 W (hA1.kept h) (hC1.kept h) (hA2.kept h) (hC2.kept h)
      obtain ⟨zs, gs⟩ : ∃ z, decide (x = y) = z := ⟨_, rfl⟩
      simp only [gs] at hss
      have hyes : zs = true → x = y := fun h => by rw [← gs, decide_eq_true_iff] at h; exact h
      have hno : zs = false → x ≠ y := fun h => by rw [← gs, decide_eq_false_iff_not] at h; exact h
      unfold agSt at hss
      unfold CellSt at hcell1 hcell2
      obtain ⟨xs, xf, xlo, xhi, xg, xt, xh⟩ := x
      obtain ⟨ys, yf, ylo, yhi, yg, yt, yh⟩ := y
      simp only at hcell1 hcell2 hss
      obtain ⟨n1, hn1⟩ : ∃ n, n = xf.length := ⟨_, rfl⟩
      obtain ⟨n2, hn2⟩ : ∃ n, n = yf.length := ⟨_, rfl⟩
      obtain ⟨n3, hn3⟩ : ∃ n, n = xh.length := ⟨_, rfl⟩
      obtain ⟨n4, hn4⟩ : ∃ n, n = yh.length := ⟨_, rfl⟩
      simp only [← hn1, ← hn2, ← hn3, ← hn4] at hcell1 hcell2 hss
      obtain ⟨x0, x1, x2, x3, x4, x5, x6⟩ := hcell1
      obtain ⟨y0, y1, y2, y3, y4, y5, y6⟩ := hcell2
      have HSs := Lib.hid hss
      have HYes := Lib.hid hyes
      have HNo := Lib.hid hno
      have HSu := Lib.hid hsucc
      have HFl := Lib.hid hfail
      obtain ⟨p0, _⟩ := HXk.out wr HBl.out
      obtain ⟨q0', _⟩ := HYk.out wr HBl.out
      clear hc1 hc2 hix1 hix2 hA1 hA2 hC1 hC2 hss hsucc hfail hx hy hn1 hn2 hn3 hn4 gs hyes hno
      go_wp2_with fail
      refine Reg.G_start (by kernel_rfl) (by repeat (first | with_reducible exact Reg.frameless_bodyPost | with_reducible refine Reg.frameless_then ?_ | with_reducible refine Reg.frameless_inBlock ?_ | refine Reg.frameless_then ?_ | refine Reg.frameless_inBlock ?_)) (fun W hW => ?_)
      have k0 := Reg.later_cell hW p0
      have k1 := Reg.later_cell hW q0'
      have l0 := Reg.later_cell hW x0
      have l1 := Reg.later_cell hW x1
      have l2 := Reg.later_cell hW x2
      have l3 := Reg.later_cell hW x3
      have l4 := Reg.later_cell hW x4
      have l5 := Reg.later_cell hW x5
      have l6 := Reg.later_cell hW x6
      have m0 := Reg.later_cell hW y0
      have m1 := Reg.later_cell hW y1
      have m2 := Reg.later_cell hW y2
      have m3 := Reg.later_cell hW y3
      have m4 := Reg.later_cell hW y4
      have m5 := Reg.later_cell hW y5
      have m6 := Reg.later_cell hW y6
      clear p0 q0' x0 x1 x2 x3 x4 x5 x6 y0 y1 y2 y3 y4 y5 y6
      first | (refine Reg.G_step (i := 0) rfl (by kernel_rfl) (by rfl) (fun K hK => ?_); go_big_quiet_op; refine hK _ ?_; clear hK K) | (refine Reg.G_skip (i := 0) rfl (by kernel_rfl) (by rfl) ?_; simp only [Act.put, List.setIfInBounds_toArray, List.set_cons_zero, List.set_cons_succ])
      first | (refine Reg.G_step (i := 1) rfl (by kernel_rfl) (by rfl) (fun K hK => ?_); go_big_quiet_op; refine hK _ ?_; clear hK K) | (refine Reg.G_skip (i := 1) rfl (by kernel_rfl) (by rfl) ?_; simp only [Act.put, List.setIfInBounds_toArray, List.set_cons_zero, List.set_cons_succ])
      first | (refine Reg.G_step (i := 2) rfl (by kernel_rfl) (by rfl) (fun K hK => ?_); go_big_quiet_op; refine hK _ ?_; clear hK K) | (refine Reg.G_skip (i := 2) rfl (by kernel_rfl) (by rfl) ?_; simp only [Act.put, List.setIfInBounds_toArray, List.set_cons_zero, List.set_cons_succ])
      first | (refine Reg.G_step (i := 3) rfl (by kernel_rfl) (by rfl) (fun K hK => ?_); go_big_quiet_op; refine hK _ ?_; clear hK K) | (refine Reg.G_skip (i := 3) rfl (by kernel_rfl) (by rfl) ?_; simp only [Act.put, List.setIfInBounds_toArray, List.set_cons_zero, List.set_cons_succ])
      first | (refine Reg.G_step (i := 4) rfl (by kernel_rfl) (by rfl) (fun K hK => ?_); go_big_quiet_op; refine hK _ ?_; clear hK K) | (refine Reg.G_skip (i := 4) rfl (by kernel_rfl) (by rfl) ?_; simp only [Act.put, List.setIfInBounds_toArray, List.set_cons_zero, List.set_cons_succ])
      first | (refine Reg.G_step (i := 5) rfl (by kernel_rfl) (by rfl) (fun K hK => ?_); go_big_quiet_op; refine hK _ ?_; clear hK K) | (refine Reg.G_skip (i := 5) rfl (by kernel_rfl) (by rfl) ?_; simp only [Act.put, List.setIfInBounds_toArray, List.set_cons_zero, List.set_cons_succ])
      first | (refine Reg.G_step (i := 6) rfl (by kernel_rfl) (by rfl) (fun K hK => ?_); go_big_quiet_op; refine hK _ ?_; clear hK K) | (refine Reg.G_skip (i := 6) rfl (by kernel_rfl) (by rfl) ?_; simp only [Act.put, List.setIfInBounds_toArray, List.set_cons_zero, List.set_cons_succ])
      first | (refine Reg.G_step (i := 7) rfl (by kernel_rfl) (by rfl) (fun K hK => ?_); go_big_quiet_op; refine hK _ ?_; clear hK K) | (refine Reg.G_skip (i := 7) rfl (by kernel_rfl) (by rfl) ?_; simp only [Act.put, List.setIfInBounds_toArray, List.set_cons_zero, List.set_cons_succ])
      first | (refine Reg.G_step (i := 8) rfl (by kernel_rfl) (by rfl) (fun K hK => ?_); go_big_quiet_op; refine hK _ ?_; clear hK K) | (refine Reg.G_skip (i := 8) rfl (by kernel_rfl) (by rfl) ?_; simp only [Act.put, List.setIfInBounds_toArray, List.set_cons_zero, List.set_cons_succ])
      first | (refine Reg.G_step (i := 9) rfl (by kernel_rfl) (by rfl) (fun K hK => ?_); go_big_quiet_op; refine hK _ ?_; clear hK K) | (refine Reg.G_skip (i := 9) rfl (by kernel_rfl) (by rfl) ?_; simp only [Act.put, List.setIfInBounds_toArray, List.set_cons_zero, List.set_cons_succ])
      refine Reg.G_event (i := 10) rfl (by kernel_rfl) (by rfl) (fun K hK => ?_)
      go_simp
      refine (HSs.out W hW).mono ?_
      rintro e v0 ⟨rfl, hv0⟩
      refine hK _ _ hv0 ?_
      clear hK K k0 k1 l0 l1 l2 l3 l4 l5 l6 m0 m1 m2 m3 m4 m5 m6
      have HV := Lib.hid (bt hW hv0)
      clear hv0
      first | (refine Reg.G_step (i := 11) rfl (by kernel_rfl) (by rfl) (fun K hK => ?_); go_big_quiet_op; refine hK _ ?_; clear hK K) | (refine Reg.G_skip (i := 11) rfl (by kernel_rfl) (by rfl) ?_; simp only [Act.put, List.setIfInBounds_toArray, List.set_cons_zero, List.set_cons_succ])
      refine Reg.G_done rfl ?_
      cases zs
      · have HRf := Lib.hid (HFa.out (HFl.out (HNo.out rfl)))
        go_wp2_with fail
        go_ret
        exact ⟨ret_v (x := .bool false) (by rw [HRf.out]), bt HB.out (bt HBl.out HV.out)⟩
      · have HSc := Lib.hid (HSu.out (HYes.out rfl))
        clear HSu HFl
        go_wp2_with fail
        go_roundw
        case rel => exact ⟨j + 1, by go_num, by omega, HSc.out, bt HBl.out HV.out⟩
        case measure => simp [intOf]; omega
    · obtain rfl : j = n := by omega
      have HRt := Lib.hid (show R = z from by
        have h1 : ap = bp := HQ2.out.2 HAl.out
        cases z
        · cases R
          · rfl
          · exact absurd (HR.out.1 rfl).2 (by decide)
        · exact HR.out.2 ⟨h1, rfl⟩)
      obtain ⟨p0, p1, p2, p3, p4⟩ := HXk.out wr HBl.out
      obtain ⟨q0', q1', q2', q3', q4'⟩ := HYk.out wr HBl.out
      go_wp2_with fail
      refine Reg.G_start (by kernel_rfl) (by repeat (first | with_reducible exact Reg.frameless_bodyPost | with_reducible refine Reg.frameless_then ?_ | with_reducible refine Reg.frameless_inBlock ?_ | refine Reg.frameless_then ?_ | refine Reg.frameless_inBlock ?_)) (fun W hW => ?_)
      have k0 := Reg.later_cell hW p0
      have k1 := Reg.later_cell hW p1
      have k2 := Reg.later_cell hW p2
      have k3 := Reg.later_cell hW p3
      have k4 := Reg.later_cell hW p4
      have l0 := Reg.later_cell hW q0'
      have l1 := Reg.later_cell hW q1'
      have l2 := Reg.later_cell hW q2'
      have l3 := Reg.later_cell hW q3'
      have l4 := Reg.later_cell hW q4'
      clear p0 p1 p2 p3 p4 q0' q1' q2' q3' q4'
      first | (refine Reg.G_step (i := 0) rfl (by kernel_rfl) (by rfl) (fun K hK => ?_); go_big_quiet_op; refine hK _ ?_; clear hK K) | (refine Reg.G_skip (i := 0) rfl (by kernel_rfl) (by rfl) ?_; simp only [Act.put, List.setIfInBounds_toArray, List.set_cons_zero, List.set_cons_succ])
      first | (refine Reg.G_step (i := 2) rfl (by kernel_rfl) (by rfl) (fun K hK => ?_); go_big_quiet_op; refine hK _ ?_; clear hK K) | (refine Reg.G_skip (i := 2) rfl (by kernel_rfl) (by rfl) ?_; simp only [Act.put, List.setIfInBounds_toArray, List.set_cons_zero, List.set_cons_succ])
      refine Reg.G_event (i := 1) rfl (by kernel_rfl) (by rfl) (fun K hK => ?_)
      go_simp
      refine (HBa.out W).mono ?_
      rintro e v0 ⟨rfl, hv0⟩
      refine hK _ _ hv0 ?_
      clear hK K
      have HV0 := Lib.hid hv0
      obtain ⟨r0, r1, r2, r3, r4⟩ := HYk.out v0 (bt HBl.out (bt hW hv0))
      have n0 := Reg.later_cell (Below.refl _ _) r0
      have n1 := Reg.later_cell (Below.refl _ _) r1
      have n2 := Reg.later_cell (Below.refl _ _) r2
      have n3 := Reg.later_cell (Below.refl _ _) r3
      have n4 := Reg.later_cell (Below.refl _ _) r4
      clear hv0 k0 k1 k2 k3 k4 l0 l1 l2 l3 l4 r0 r1 r2 r3 r4
      refine Reg.G_event (i := 3) rfl (by kernel_rfl) (by rfl) (fun K hK => ?_)
      go_simp
      refine (HBb.out v0).mono ?_
      rintro e v1 ⟨rfl, hv1⟩
      refine hK _ _ hv1 ?_
      clear hK K
      have HV1 := Lib.hid (bt hW (bt HV0.out hv1))
      have hq := fun x : Reg.Later v1 => HEq.out x.world
      clear hv1 n0 n1 n2 n3 n4
      first | (refine Reg.G_step (i := 4) rfl (by kernel_rfl) (by rfl) (fun K hK => ?_); go_big_quiet_op; refine hK _ ?_; clear hK K) | (refine Reg.G_skip (i := 4) rfl (by kernel_rfl) (by rfl) ?_; simp only [Act.put, List.setIfInBounds_toArray, List.set_cons_zero, List.set_cons_succ])
      first | (refine Reg.G_step (i := 5) rfl (by kernel_rfl) (by rfl) (fun K hK => ?_); go_big_quiet_op; refine hK _ ?_; clear hK K) | (refine Reg.G_skip (i := 5) rfl (by kernel_rfl) (by rfl) ?_; simp only [Act.put, List.setIfInBounds_toArray, List.set_cons_zero, List.set_cons_succ])
      refine Reg.G_done rfl ?_
      go_wp2_with fail
      go_ret
      exact ⟨ret_v (x := .bool z) (by rw [HRt.out]), bt HB.out (bt HBl.out HV1.out)⟩
end Go.Proofs.YtbmdkibmfkmjoaaGreat.Qy

namespace Go.Proofs.YtbmdkibmfkmjoaaGreat.Qy
open Go.RowKit Go.Proofs.YtbmdkibmfkmjoaaGreat.BM Go.Proofs.YtbmdkibmfkmjoaaGreat.LM Go.Proofs.YtbmdkibmfkmjoaaGreat.LeM Go.Proofs.YtbmdkibmfkmjoaaGreat.VaM Go.Proofs.YtbmdkibmfkmjoaaGreat.ExM Go.Proofs.YtbmdkibmfkmjoaaGreat.QyM
open Go.Proofs.YtbmdkibmfkmjoaaGreat.Ex (SlO slO_none)
open Go.Proofs.YtbmdkibmfkmjoaaGreat.Va (ret_v bx_new_t)
open Go.Proofs.YtbmdkibmfkmjoaaGreat.Sc (SlS slS_none SlF slF_none)

/-- The example's schemas, as a slice of one. -/
theorem slS_one (w : World) : SlS (w.alloc (.cells #[.string ⟨#[97]⟩, .int .i64 1, .slice none 0 0] 40)) (some ⟨w.heap.size, 0, none⟩) exL 1 := by
  have hrel : Sc.KS.rel (fun _ => True) w (⟨⟨#[97]⟩, 1, []⟩ : ScM.Sc) [.string ⟨#[97]⟩, .int .i64 1, .slice none 0 0] := ⟨none, 0, rfl, slF_none _, ⟨by unfold maxLen; decide, by decide, by decide⟩, fun h => absurd h (by decide)⟩
  have h := RG.elem_new w 40 _ _ hrel
  exact ⟨⟨_, h.1, h.2⟩, Nat.le_refl _, (fun e => by cases e), by unfold maxLen; decide⟩

set_option maxRecDepth 100000 in
set_option maxHeartbeats 8000000 in
theorem awake_any (w : World) : Calls Tryz.prog 6 #[] w fun e w' => e = .returned (.bool true) ∧ Below w.heap.size w w' := by
  have hone := One_any
  have hput := fun W A (h : SlSt W A exQ.p 1) => Put_any exQ A 1 W h ex_rng
  have hget := fun W A c (h : SlB W A (QyM.pv exQ) c) => Get_any A (QyM.pv exQ) c W h
  have hsame := fun W A c B (h : SlSt W A exQ.p c) (k : SlSt W B exQ.p 1) => Same_any exQ exQ A c B 1 W h k
  have hcheck := fun W A B d (h : SlS W A exL 1) (k : SlSt W B exQ.p d) => Check_any exL exQ A 1 B d W h k
  have hnone := fun W B d (k : SlSt W B exQ.p d) => Check_any [] exQ none 0 B d W (slS_none W) k
  unfold Putted at hput
  unfold GotsQ at hget
  simp only [ex_got] at hget
  simp only [decide_eq_true ex_may, ex_pv] at hput
  rw [ex_pv] at hget
  simp only [ex_check] at hcheck
  simp only [ex_none] at hnone
  rw [decide_eq_true (rfl : exQ = exQ)] at hsame
  have hl : exQ.p.length = 1 := rfl
  have hll : exL.length = 1 := rfl
  have e1 : exQ.w = 0 := rfl
  have e2 : exQ.a = 0 := rfl
  have e3 : exQ.i = 0 := rfl
  have e4 : exQ.f = 0 := rfl
  unfold agQ at hput hget hsame hcheck hnone
  simp only [hl, e1, e2, e3, e4, hll, List.length_cons, List.length_nil, Nat.zero_add, Nat.reduceAdd] at hput hget hsame hcheck hnone
  have HOne := Lib.hid hone
  have HPu := Lib.hid hput
  have HGe := Lib.hid hget
  have HSa := Lib.hid hsame
  have HCk := Lib.hid hcheck
  have HNo := Lib.hid hnone
  clear hone hput hget hsame hcheck hnone hl hll e1 e2 e3 e4
  go_enter Tryz.func6, Tryz.ntmps6
  go_wp2_with fail
  refine (HOne.out w).mono ?_
  rintro e w1 ⟨A1, rfl, hs1, hb1⟩
  have HB1 := Lib.hid hb1
  have HP1 := Lib.hid (HPu.out w1 A1 hs1)
  clear hs1 hb1 HPu
  go_wp2_with fail
  refine HP1.out.mono ?_
  rintro e w2 ⟨A2, c2, rfl, hs2, hb2⟩
  have HB2 := Lib.hid (bt HB1.out hb2)
  have HS2 := Lib.hid hs2
  have HG2 := Lib.hid (HGe.out w2 A2 c2 hs2)
  clear hs2 hb2 HP1 HB1 HGe
  go_wp2_with fail
  refine HG2.out.mono ?_
  rintro e w3 ⟨A3, c3, rfl, hs3, hb3⟩
  have ha4 := (Below.refl w3.heap.size w3).alloc (Nat.le_refl _) (.cells #[.slice A3 1 c3, .int .i64 0, .int .i64 0, .int .i64 0, .int .i64 0] 25)
  have hx4 := RG.bxN_new w3 25 [.slice A3 1 c3, .int .i64 0, .int .i64 0, .int .i64 0, .int .i64 0]
  obtain ⟨w4, hw4⟩ : ∃ w4, w4 = w3.alloc (.cells #[.slice A3 1 c3, .int .i64 0, .int .i64 0, .int .i64 0, .int .i64 0] 25) := ⟨_, rfl⟩
  have hz4 : w4.heap.size = w3.heap.size + 1 := by rw [hw4]; simp
  rw [show (List.toArray [Value.slice A3 1 c3, .int .i64 0, .int .i64 0, .int .i64 0, .int .i64 0]) = #[Value.slice A3 1 c3, .int .i64 0, .int .i64 0, .int .i64 0, .int .i64 0] from rfl, ← hw4] at hx4
  rw [← hw4] at ha4
  have ha5 := (Below.refl w4.heap.size w4).alloc (Nat.le_refl _) (.cells #[.string ⟨#[97]⟩, .int .i64 1, .slice none 0 0] 40)
  have hs5 := slS_one w4
  rw [hz4] at hs5
  have hb34 := bt hb3 (bt ha4 ha5)
  have HX5 := Lib.hid (RG.BxN.kept hx4 ha5)
  have HL5 := Lib.hid hs5
  have HB5 := Lib.hid (bt HB2.out hb34)
  have HS5 := Lib.hid (HS2.out.kept hb34)
  have HQ5 := Lib.hid (hs3.kept (bt ha4 ha5))
  have HW4 := Lib.hid hw4
  clear hs3 hb3 ha4 hx4 hw4 hz4 ha5 hs5 hb34 HG2 HB2 HS2
  go_wp2_with fail
  rw [← HW4.out]
  obtain ⟨w5, hw5⟩ : ∃ w5, w5 = w4.alloc (.cells #[.string ⟨#[97]⟩, .int .i64 1, .slice none 0 0] 40) := ⟨_, rfl⟩
  obtain ⟨bq, hbq⟩ : ∃ b, b = w3.heap.size := ⟨_, rfl⟩
  obtain ⟨LA, hLA⟩ : ∃ a, a = (some ⟨bq + 1, 0, none⟩ : Option Addr) := ⟨_, rfl⟩
  rw [← hw5] at HX5 HL5 HB5 HS5 HQ5 ⊢
  rw [← hbq] at HX5 HL5 ⊢
  rw [← hLA] at HL5 ⊢
  clear hw5 hbq hLA HW4
  refine Reg.G_start (by kernel_rfl) (by repeat (first | exact Reg.frameless_bodyPost | refine Reg.frameless_then ?_ | refine Reg.frameless_inBlock ?_)) (fun W hW => ?_)
  obtain ⟨z0, z1, z2, z3, z4⟩ := bx5 (RG.BxN.kept HX5.out hW)
  have x0 := Reg.later_cell (Below.refl _ W) z0
  have x1 := Reg.later_cell (Below.refl _ W) z1
  have x2 := Reg.later_cell (Below.refl _ W) z2
  have x3 := Reg.later_cell (Below.refl _ W) z3
  have x4 := Reg.later_cell (Below.refl _ W) z4
  clear z0 z1 z2 z3 z4
  have hcv : ∀ x : Reg.Later W, (convert 26 9 (.slice A2 11 c2)).run Tryz.prog x.world = .ok (.string ⟨#[1, 1, 97, 0, 1, 1, 0, 0, 0, 0, 0]⟩) x.world := fun x => by
    have h := conv_any (w := x.world) (HS5.out.kept (bt hW x.ext)).1 c2 9 Tryz.underlying9
    exact h
  first | (refine Reg.G_step (i := 0) rfl (by kernel_rfl) (by rfl) (fun K hK => ?_); go_big_quiet_op; refine hK _ ?_; clear hK K) | (refine Reg.G_skip (i := 0) rfl (by kernel_rfl) (by rfl) ?_; simp only [Act.put, List.setIfInBounds_toArray, List.set_cons_zero, List.set_cons_succ])
  first | (refine Reg.G_step (i := 1) rfl (by kernel_rfl) (by rfl) (fun K hK => ?_); go_big_quiet_op; refine hK _ ?_; clear hK K) | (refine Reg.G_skip (i := 1) rfl (by kernel_rfl) (by rfl) ?_; simp only [Act.put, List.setIfInBounds_toArray, List.set_cons_zero, List.set_cons_succ])
  first | (refine Reg.G_step (i := 2) rfl (by kernel_rfl) (by rfl) (fun K hK => ?_); go_big_quiet_op; refine hK _ ?_; clear hK K) | (refine Reg.G_skip (i := 2) rfl (by kernel_rfl) (by rfl) ?_; simp only [Act.put, List.setIfInBounds_toArray, List.set_cons_zero, List.set_cons_succ])
  first | (refine Reg.G_step (i := 3) rfl (by kernel_rfl) (by rfl) (fun K hK => ?_); go_big_quiet_op; refine hK _ ?_; clear hK K) | (refine Reg.G_skip (i := 3) rfl (by kernel_rfl) (by rfl) ?_; simp only [Act.put, List.setIfInBounds_toArray, List.set_cons_zero, List.set_cons_succ])
  first | (refine Reg.G_step (i := 4) rfl (by kernel_rfl) (by rfl) (fun K hK => ?_); go_big_quiet_op; refine hK _ ?_; clear hK K) | (refine Reg.G_skip (i := 4) rfl (by kernel_rfl) (by rfl) ?_; simp only [Act.put, List.setIfInBounds_toArray, List.set_cons_zero, List.set_cons_succ])
  first | (refine Reg.G_step (i := 5) rfl (by kernel_rfl) (by rfl) (fun K hK => ?_); go_big_quiet_op; refine hK _ ?_; clear hK K) | (refine Reg.G_skip (i := 5) rfl (by kernel_rfl) (by rfl) ?_; simp only [Act.put, List.setIfInBounds_toArray, List.set_cons_zero, List.set_cons_succ])
  first | (refine Reg.G_step (i := 6) rfl (by kernel_rfl) (by rfl) (fun K hK => ?_); go_big_quiet_op; refine hK _ ?_; clear hK K) | (refine Reg.G_skip (i := 6) rfl (by kernel_rfl) (by rfl) ?_; simp only [Act.put, List.setIfInBounds_toArray, List.set_cons_zero, List.set_cons_succ])
  first | (refine Reg.G_step (i := 7) rfl (by kernel_rfl) (by rfl) (fun K hK => ?_); go_big_quiet_op; refine hK _ ?_; clear hK K) | (refine Reg.G_skip (i := 7) rfl (by kernel_rfl) (by rfl) ?_; simp only [Act.put, List.setIfInBounds_toArray, List.set_cons_zero, List.set_cons_succ])
  first | (refine Reg.G_step (i := 8) rfl (by kernel_rfl) (by rfl) (fun K hK => ?_); go_big_quiet_op; refine hK _ ?_; clear hK K) | (refine Reg.G_skip (i := 8) rfl (by kernel_rfl) (by rfl) ?_; simp only [Act.put, List.setIfInBounds_toArray, List.set_cons_zero, List.set_cons_succ])
  first | (refine Reg.G_step (i := 9) rfl (by kernel_rfl) (by rfl) (fun K hK => ?_); go_big_quiet_op; refine hK _ ?_; clear hK K) | (refine Reg.G_skip (i := 9) rfl (by kernel_rfl) (by rfl) ?_; simp only [Act.put, List.setIfInBounds_toArray, List.set_cons_zero, List.set_cons_succ])
  first | (refine Reg.G_step (i := 10) rfl (by kernel_rfl) (by rfl) (fun K hK => ?_); go_big_quiet_op; refine hK _ ?_; clear hK K) | (refine Reg.G_skip (i := 10) rfl (by kernel_rfl) (by rfl) ?_; simp only [Act.put, List.setIfInBounds_toArray, List.set_cons_zero, List.set_cons_succ])
  first | (refine Reg.G_step (i := 11) rfl (by kernel_rfl) (by rfl) (fun K hK => ?_); go_big_quiet_op; refine hK _ ?_; clear hK K) | (refine Reg.G_skip (i := 11) rfl (by kernel_rfl) (by rfl) ?_; simp only [Act.put, List.setIfInBounds_toArray, List.set_cons_zero, List.set_cons_succ])
  first | (refine Reg.G_step (i := 12) rfl (by kernel_rfl) (by rfl) (fun K hK => ?_); go_big_quiet_op; refine hK _ ?_; clear hK K) | (refine Reg.G_skip (i := 12) rfl (by kernel_rfl) (by rfl) ?_; simp only [Act.put, List.setIfInBounds_toArray, List.set_cons_zero, List.set_cons_succ])
  first | (refine Reg.G_step (i := 13) rfl (by kernel_rfl) (by rfl) (fun K hK => ?_); go_big_quiet_op; refine hK _ ?_; clear hK K) | (refine Reg.G_skip (i := 13) rfl (by kernel_rfl) (by rfl) ?_; simp only [Act.put, List.setIfInBounds_toArray, List.set_cons_zero, List.set_cons_succ])
  first | (refine Reg.G_step (i := 14) rfl (by kernel_rfl) (by rfl) (fun K hK => ?_); go_big_quiet_op; refine hK _ ?_; clear hK K) | (refine Reg.G_skip (i := 14) rfl (by kernel_rfl) (by rfl) ?_; simp only [Act.put, List.setIfInBounds_toArray, List.set_cons_zero, List.set_cons_succ])
  refine Reg.G_event (i := 15) rfl (by kernel_rfl) (by rfl) (fun K hK => ?_)
  go_simp
  refine (HOne.out _).mono ?_
  rintro e v0 ⟨B0, rfl, hB0, hv0⟩
  refine hK _ _ hv0 ?_
  clear hK K x0 x1 x2 x3 x4 hcv
  have hw0 := bt hW hv0
  obtain ⟨z0, z1, z2, z3, z4⟩ := bx5 (RG.BxN.kept HX5.out hw0)
  have x0 := Reg.later_cell (Below.refl _ v0) z0
  have x1 := Reg.later_cell (Below.refl _ v0) z1
  have x2 := Reg.later_cell (Below.refl _ v0) z2
  have x3 := Reg.later_cell (Below.refl _ v0) z3
  have x4 := Reg.later_cell (Below.refl _ v0) z4
  clear z0 z1 z2 z3 z4
  refine Reg.G_event (i := 16) rfl (by kernel_rfl) (by rfl) (fun K hK => ?_)
  go_simp
  refine (HSa.out _ A3 c3 B0 (HQ5.out.kept hw0) hB0).mono ?_
  rintro e v1 ⟨rfl, hv1⟩
  refine hK _ _ hv1 ?_
  clear hK K x0 x1 x2 x3 x4
  have hw1 := bt hw0 hv1
  obtain ⟨z0, z1, z2, z3, z4⟩ := bx5 (RG.BxN.kept HX5.out hw1)
  have x0 := Reg.later_cell (Below.refl _ v1) z0
  have x1 := Reg.later_cell (Below.refl _ v1) z1
  have x2 := Reg.later_cell (Below.refl _ v1) z2
  have x3 := Reg.later_cell (Below.refl _ v1) z3
  have x4 := Reg.later_cell (Below.refl _ v1) z4
  clear z0 z1 z2 z3 z4
  first | (refine Reg.G_step (i := 17) rfl (by kernel_rfl) (by rfl) (fun K hK => ?_); go_big_quiet_op; refine hK _ ?_; clear hK K) | (refine Reg.G_skip (i := 17) rfl (by kernel_rfl) (by rfl) ?_; simp only [Act.put, List.setIfInBounds_toArray, List.set_cons_zero, List.set_cons_succ])
  first | (refine Reg.G_step (i := 18) rfl (by kernel_rfl) (by rfl) (fun K hK => ?_); go_big_quiet_op; refine hK _ ?_; clear hK K) | (refine Reg.G_skip (i := 18) rfl (by kernel_rfl) (by rfl) ?_; simp only [Act.put, List.setIfInBounds_toArray, List.set_cons_zero, List.set_cons_succ])
  first | (refine Reg.G_step (i := 19) rfl (by kernel_rfl) (by rfl) (fun K hK => ?_); go_big_quiet_op; refine hK _ ?_; clear hK K) | (refine Reg.G_skip (i := 19) rfl (by kernel_rfl) (by rfl) ?_; simp only [Act.put, List.setIfInBounds_toArray, List.set_cons_zero, List.set_cons_succ])
  first | (refine Reg.G_step (i := 20) rfl (by kernel_rfl) (by rfl) (fun K hK => ?_); go_big_quiet_op; refine hK _ ?_; clear hK K) | (refine Reg.G_skip (i := 20) rfl (by kernel_rfl) (by rfl) ?_; simp only [Act.put, List.setIfInBounds_toArray, List.set_cons_zero, List.set_cons_succ])
  refine Reg.G_event (i := 21) rfl (by kernel_rfl) (by rfl) (fun K hK => ?_)
  go_simp
  refine (HCk.out _ LA A3 c3 (HL5.out.kept hw1) (HQ5.out.kept hw1)).mono ?_
  rintro e v2 ⟨rfl, hv2⟩
  refine hK _ _ hv2 ?_
  clear hK K x0 x1 x2 x3 x4
  have hw2 := bt hw1 hv2
  obtain ⟨z0, z1, z2, z3, z4⟩ := bx5 (RG.BxN.kept HX5.out hw2)
  have x0 := Reg.later_cell (Below.refl _ v2) z0
  have x1 := Reg.later_cell (Below.refl _ v2) z1
  have x2 := Reg.later_cell (Below.refl _ v2) z2
  have x3 := Reg.later_cell (Below.refl _ v2) z3
  have x4 := Reg.later_cell (Below.refl _ v2) z4
  clear z0 z1 z2 z3 z4
  first | (refine Reg.G_step (i := 22) rfl (by kernel_rfl) (by rfl) (fun K hK => ?_); go_big_quiet_op; refine hK _ ?_; clear hK K) | (refine Reg.G_skip (i := 22) rfl (by kernel_rfl) (by rfl) ?_; simp only [Act.put, List.setIfInBounds_toArray, List.set_cons_zero, List.set_cons_succ])
  first | (refine Reg.G_step (i := 23) rfl (by kernel_rfl) (by rfl) (fun K hK => ?_); go_big_quiet_op; refine hK _ ?_; clear hK K) | (refine Reg.G_skip (i := 23) rfl (by kernel_rfl) (by rfl) ?_; simp only [Act.put, List.setIfInBounds_toArray, List.set_cons_zero, List.set_cons_succ])
  first | (refine Reg.G_step (i := 24) rfl (by kernel_rfl) (by rfl) (fun K hK => ?_); go_big_quiet_op; refine hK _ ?_; clear hK K) | (refine Reg.G_skip (i := 24) rfl (by kernel_rfl) (by rfl) ?_; simp only [Act.put, List.setIfInBounds_toArray, List.set_cons_zero, List.set_cons_succ])
  first | (refine Reg.G_step (i := 25) rfl (by kernel_rfl) (by rfl) (fun K hK => ?_); go_big_quiet_op; refine hK _ ?_; clear hK K) | (refine Reg.G_skip (i := 25) rfl (by kernel_rfl) (by rfl) ?_; simp only [Act.put, List.setIfInBounds_toArray, List.set_cons_zero, List.set_cons_succ])
  refine Reg.G_event (i := 26) rfl (by kernel_rfl) (by rfl) (fun K hK => ?_)
  go_simp
  refine (HNo.out _ A3 c3 (HQ5.out.kept hw2)).mono ?_
  rintro e v3 ⟨rfl, hv3⟩
  refine hK _ _ hv3 ?_
  clear hK K x0 x1 x2 x3 x4
  have hw3 := bt hw2 hv3
  first | (refine Reg.G_step (i := 27) rfl (by kernel_rfl) (by rfl) (fun K hK => ?_); go_big_quiet_op; refine hK _ ?_; clear hK K) | (refine Reg.G_skip (i := 27) rfl (by kernel_rfl) (by rfl) ?_; simp only [Act.put, List.setIfInBounds_toArray, List.set_cons_zero, List.set_cons_succ])
  first | (refine Reg.G_step (i := 28) rfl (by kernel_rfl) (by rfl) (fun K hK => ?_); go_big_quiet_op; refine hK _ ?_; clear hK K) | (refine Reg.G_skip (i := 28) rfl (by kernel_rfl) (by rfl) ?_; simp only [Act.put, List.setIfInBounds_toArray, List.set_cons_zero, List.set_cons_succ])
  first | (refine Reg.G_step (i := 29) rfl (by kernel_rfl) (by rfl) (fun K hK => ?_); go_big_quiet_op; refine hK _ ?_; clear hK K) | (refine Reg.G_skip (i := 29) rfl (by kernel_rfl) (by rfl) ?_; simp only [Act.put, List.setIfInBounds_toArray, List.set_cons_zero, List.set_cons_succ])
  refine Reg.G_done (by kernel_rfl) ?_
  have HB9 := Lib.hid (bt HB5.out hw3)
  clear hw0 hw1 hw2 hw3 hv0 hv1 hv2 hv3 hW
  go_wp2_with fail
  go_ret
  exact ⟨ret_v (x := .bool true) rfl, HB9.out⟩
end Go.Proofs.YtbmdkibmfkmjoaaGreat.Qy

namespace Go.Proofs.YtbmdkibmfkmjoaaGreat.Ex
open Go.RowKit Go.Proofs.YtbmdkibmfkmjoaaGreat.BM Go.Proofs.YtbmdkibmfkmjoaaGreat.VaM Go.Proofs.YtbmdkibmfkmjoaaGreat.Va Go.Proofs.YtbmdkibmfkmjoaaGreat.ExM Go.Proofs.YtbmdkibmfkmjoaaGreat.EvM

/-- An expression of few parts, of few bytes. -/
def Few (l : List O) : Prop := l.length ≤ 20 ∧ ∀ i, i < l.length → (l.getD i o0).v.s.size ≤ 100
instance (l : List O) : Decidable (Few l) := by unfold Few; infer_instance

set_option maxRecDepth 100000 in
set_option maxHeartbeats 1000000 in
theorem Few_any (l : List O) (A : Option Addr) (c : Nat) (w : World) (hS : SlO w A l c) :
    Calls Tryz.prog 21 #[.slice A l.length c] w fun e w' => e = .returned (.bool (decide (Few l))) ∧ Below w.heap.size w w' := by
  have hl := slO_len hS
  have hfew : Few l ↔ l.length ≤ 20 ∧ ∀ i, i < l.length → (l.getD i o0).v.s.size ≤ 100 := Iff.rfl
  obtain ⟨n, hn⟩ : ∃ n, n = l.length := ⟨_, rfl⟩
  rw [← hn] at hl hfew ⊢
  have HLen := Lib.hid hn
  have HS := Lib.hid hS
  have HFew := Lib.hid hfew
  clear hn hS hfew
  by_cases m1 : n ≤ 20
  · have hd1 : decide ((20 : Int) < (n : Int)) = false := by rw [decide_eq_false_iff_not]; omega
    have HF := Lib.hid (show Few l ↔ ∀ i, i < n → (l.getD i o0).v.s.size ≤ 100 from ⟨fun h => (HFew.out.1 h).2, fun h => HFew.out.2 ⟨m1, h⟩⟩)
    clear m1 HFew
    go_enter Tryz.func21, Tryz.ntmps21
    go_wp2_with fail
    go_loopw [3] (fun i wr => ∃ j : Nat, i = .int .i64 j ∧ j ≤ n ∧ (∀ r, r < j → (l.getD r o0).v.s.size ≤ 100) ∧ wr = w) (fun i _ => n - (intOf i).toNat)
    case atStart => exact ⟨0, rfl, Nat.zero_le _, fun r hr => absurd hr (Nat.not_lt_zero r), rfl⟩
    case round =>
      obtain ⟨j, rfl, hj, hall, rfl⟩ := hrel
      have HAl := Lib.hid hall
      clear hall
      by_cases hjn : j < n
      · obtain ⟨b, q, hix, hc, hfz⟩ := HS.out.at j (by rw [← HLen.out]; exact hjn)
        obtain ⟨⟨fc, fa, fk, fn, fs⟩, hf⟩ : ∃ f, f = l.getD j o0 := ⟨_, rfl⟩
        rw [← hf] at hc hfz
        obtain ⟨_, _, _, _, c0⟩ := hc wr (Below.refl _ _)
        have hsz := hfz.1
        simp only at c0 hsz
        unfold maxLen at hsz
        have hi := fun W => hix W n c hjn
        have HFl := Lib.hid hf
        clear hc hix hf hfz
        by_cases h60 : fs.size ≤ 100
        · have hd3 : decide ((100 : Int) < (fs.size : Int)) = false := by rw [decide_eq_false_iff_not]; omega
          have HY := Lib.hid h60
          clear h60
          go_wp2_with fail
          go_roundw
          case rel =>
            refine ⟨j + 1, by go_num, by omega, fun r hr => ?_, by trivial⟩
            by_cases e : r = j
            · rw [e, ← HFl.out]
              exact HY.out
            · exact HAl.out r (by omega)
          case measure => simp [intOf]; omega
        · have hd3 : decide ((100 : Int) < (fs.size : Int)) = true := by rw [decide_eq_true_iff]; omega
          have HNo := Lib.hid (show ¬ Few l from fun h => h60 (by have := HF.out.1 h j hjn; rw [← HFl.out] at this; exact this))
          clear h60
          go_wp2_with fail
          go_ret
          exact ⟨ret_v (x := .bool false) (by rw [decide_eq_false HNo.out]), Below.refl _ _⟩
      · obtain rfl : j = n := by omega
        have HYes := Lib.hid (HF.out.2 HAl.out)
        go_wp2_with fail
        go_ret
        exact ⟨ret_v (x := .bool true) (by rw [decide_eq_true HYes.out]), Below.refl _ _⟩
  · have hd1 : decide ((20 : Int) < (n : Int)) = true := by rw [decide_eq_true_iff]; omega
    have HNo := Lib.hid (show ¬ Few l from fun h => m1 (HFew.out.1 h).1)
    clear m1
    go_enter Tryz.func21, Tryz.ntmps21
    go_wp2_with fail
    go_ret
    exact ⟨ret_v (x := .bool false) (by rw [decide_eq_false HNo.out]), Below.refl _ _⟩
end Go.Proofs.YtbmdkibmfkmjoaaGreat.Ex

namespace Go.Proofs.YtbmdkibmfkmjoaaGreat.Qy
open Go.RowKit Go.Proofs.YtbmdkibmfkmjoaaGreat.BM Go.Proofs.YtbmdkibmfkmjoaaGreat.LM Go.Proofs.YtbmdkibmfkmjoaaGreat.VaM Go.Proofs.YtbmdkibmfkmjoaaGreat.ExM Go.Proofs.YtbmdkibmfkmjoaaGreat.QyM
open Go.Proofs.YtbmdkibmfkmjoaaGreat.Ex (SlO slO_none slO_len)
open Go.Proofs.YtbmdkibmfkmjoaaGreat.Va (ret_v)

/-- Is a step small? -/
def FewSt (x : St) : Prop := Ex.Few x.f ∧ Ex.Few x.h ∧ x.s.size ≤ 60 ∧ x.t.size ≤ 60
instance (x : St) : Decidable (FewSt x) := by unfold FewSt; infer_instance
/-- A few steps, each a small one. -/
def Few (q : Q) : Prop := q.p.length ≤ 8 ∧ ∀ i, i < q.p.length → FewSt (q.p.getD i t0)
instance (q : Q) : Decidable (Few q) := by unfold Few; infer_instance

set_option maxRecDepth 100000 in
set_option maxHeartbeats 4000000 in
theorem Few_any (q : Q) (A : Option Addr) (c : Nat) (w : World) (hS : SlSt w A q.p c) :
    Calls Tryz.prog 7 #[agQ q A c] w fun e w' => e = .returned (.bool (decide (Few q))) ∧ Below w.heap.size w w' := by
  have hl := slSt_len hS
  have hfew : Few q ↔ q.p.length ≤ 8 ∧ ∀ i, i < q.p.length → FewSt (q.p.getD i t0) := Iff.rfl
  have hX := (bxQ_new w q A c).kept (Below.refl _ _)
  have hb1 := (Below.refl w.heap.size w).alloc (Nat.le_refl _) (.cells #[.slice A q.p.length c, .int .i64 q.w, .int .i64 q.a, .int .i64 q.i, .int .i64 q.f] 25)
  obtain ⟨R, hR⟩ : ∃ R, R = decide (Few q) := ⟨_, rfl⟩
  unfold agQ
  rw [← hR]
  have hr : R = true ↔ q.p.length ≤ 8 ∧ ∀ i, i < q.p.length → FewSt (q.p.getD i t0) := by rw [hR, decide_eq_true_iff, hfew]
  obtain ⟨qp, qw, qa, qi, qf⟩ := q
  simp only at hS hl hX hb1 hr ⊢
  unfold BxQ encQ at hX
  simp only at hX
  obtain ⟨n, hn⟩ : ∃ n, n = qp.length := ⟨_, rfl⟩
  rw [← hn] at hl hX hb1 hr ⊢
  have HLen := Lib.hid hn
  have HS := Lib.hid hS
  have HR := Lib.hid hr
  have HFa := Lib.hid (fun h : ¬ (n ≤ 8 ∧ ∀ i, i < n → FewSt (qp.getD i t0)) => by
    cases R
    · rfl
    · exact absurd (hr.1 rfl) h
    : ¬ (n ≤ 8 ∧ ∀ i, i < n → FewSt (qp.getD i t0)) → R = false)
  have HX := Lib.hid hX
  have HB1 := Lib.hid hb1
  obtain ⟨p0, _⟩ := hX 0 _ rfl
  clear hn hS hfew hX hb1 hr hR
  by_cases m1 : n ≤ 8
  · have hd1 : decide ((8 : Int) < (n : Int)) = false := by rw [decide_eq_false_iff_not]; omega
    have hd1' : decide (8 < n) = false := by rw [decide_eq_false_iff_not]; omega
    go_enter Tryz.func7, Tryz.ntmps7
    go_wp2_with fail
    obtain ⟨w1, hw1⟩ : ∃ w1, w1 = w.alloc (.cells #[.slice A n c, .int .i64 qw, .int .i64 qa, .int .i64 qi, .int .i64 qf] 25) := ⟨_, rfl⟩
    rw [← hw1] at p0 HB1 ⊢
    have HP0 := Lib.hid (fun W (hW : Below w1.heap.size w1 W) => (hW.cell (p := ⟨w.heap.size, 0, none⟩) (World.block_lt_of_cell? w1 _ p0)).trans p0)
    clear hw1 p0 HX
    go_loopw [3] (fun i wr => ∃ j : Nat, i = .int .i64 j ∧ j ≤ n ∧ (∀ i, i < j → FewSt (qp.getD i t0)) ∧ Below w1.heap.size w1 wr) (fun i _ => n - (intOf i).toNat)
    case atStart => exact ⟨0, rfl, Nat.zero_le _, (fun i hi => absurd hi (Nat.not_lt_zero i)), Below.refl _ _⟩
    case round =>
      obtain ⟨j, rfl, hj, hall, hbel⟩ := hrel
      have HAl := Lib.hid hall
      have HBl := Lib.hid hbel
      have p0 := HP0.out wr hbel
      clear hall hbel
      by_cases hjn : j < n
      · obtain ⟨b1, q1, A1, c1, C1, d1, hix1, hc1, _⟩ := HS.out.at j (by rw [← HLen.out]; exact hjn)
        obtain ⟨hcell1, hA1, hC1⟩ := hc1 wr (bt HB1.out HBl.out)
        have hi1 := fun W => hix1 W n c hjn
        obtain ⟨x, hx⟩ : ∃ x, x = qp.getD j t0 := ⟨_, rfl⟩
        rw [← hx] at hcell1 hA1 hC1
        have hsucc : FewSt x → ∀ i, i < j + 1 → FewSt (qp.getD i t0) := fun h i hi => by
          by_cases e : i = j
          · rw [e, ← hx]
            exact h
          · exact HAl.out i (by omega)
        have hfail : ¬ FewSt x → R = false := fun h => HFa.out (fun k => h (by rw [hx]; exact k.2 j hjn))
        have hm1 := fun W (h : Below wr.heap.size wr W) => Ex.Few_any x.f A1 c1 W (hA1.kept h)
        have hm2 := fun W (h : Below wr.heap.size wr W) => Ex.Few_any x.h C1 d1 W (hC1.kept h)
        have hX := bxSt_new wr x A1 c1 C1 d1
        have hb1 := (Below.refl wr.heap.size wr).alloc (Nat.le_refl _) (.cells #[.string x.s, .slice A1 x.f.length c1, .int .i64 x.lo, .int .i64 x.hi, .bool x.g, .string x.t, .slice C1 x.h.length d1] 47)
        have hXk := fun W h => (BxSt.kept hX (w' := W) h).cells
        have hXc := hX.cells
        obtain ⟨z1, e1⟩ : ∃ z, decide (Ex.Few x.f) = z := ⟨_, rfl⟩
        obtain ⟨z2, e2⟩ : ∃ z, decide (Ex.Few x.h) = z := ⟨_, rfl⟩
        obtain ⟨z3, e3⟩ : ∃ z, decide ((60 : Int) < (x.s.size : Int)) = z := ⟨_, rfl⟩
        obtain ⟨z4, e4⟩ : ∃ z, decide ((60 : Int) < (x.t.size : Int)) = z := ⟨_, rfl⟩
        have e3' : decide (60 < x.s.size) = z3 := by rw [← e3]; exact decide_eq_decide.2 (by omega)
        have e4' : decide (60 < x.t.size) = z4 := by rw [← e4]; exact decide_eq_decide.2 (by omega)
        have hiff : FewSt x ↔ z1 = true ∧ z2 = true ∧ z3 = false ∧ z4 = false := by
          unfold FewSt
          rw [← e1, ← e2, ← e3', ← e4', decide_eq_true_iff, decide_eq_true_iff, decide_eq_false_iff_not, decide_eq_false_iff_not, Nat.not_lt, Nat.not_lt]
        simp only [e1] at hm1
        simp only [e2] at hm2
        unfold CellSt at hcell1 hXc hXk
        obtain ⟨xs, xf, xlo, xhi, xg, xt, xh⟩ := x
        simp only at hcell1 hXc hXk hb1 hm1 hm2 e3 e4 e3' e4'
        obtain ⟨n1, hn1⟩ : ∃ n, n = xf.length := ⟨_, rfl⟩
        obtain ⟨n2, hn2⟩ : ∃ n, n = xh.length := ⟨_, rfl⟩
        simp only [← hn1, ← hn2] at hcell1 hXc hXk hb1 hm1 hm2
        have HM1 := Lib.hid hm1
        have HM2 := Lib.hid hm2
        have HXk := Lib.hid hXk
        have HBb := Lib.hid hb1
        have HSu := Lib.hid hsucc
        have HFl := Lib.hid hfail
        have HIf := Lib.hid hiff
        obtain ⟨x0, x1, x2, x3, x4, x5, x6⟩ := hcell1
        obtain ⟨r0, r1, r2, r3, r4, r5, r6⟩ := hXc
        clear hx hc1 hix1 hA1 hC1 hX hsucc hfail hiff hm1 hm2 hXk hb1 e1 e2 hn1 hn2
        go_wp2_with fail
        refine (HM1.out _ HBb.out).mono ?_
        rintro e w2 ⟨rfl, hb2⟩
        have HB2 := Lib.hid (bt HBb.out hb2)
        have HK2 := Lib.hid hb2
        obtain ⟨y0, y1, y2, y3, y4, y5, y6⟩ := HXk.out w2 hb2
        clear hb2 x0 x1 x2 x3 x4 x5 x6 r0 r1 r2 r3 r4 r5 r6
        go_wp2_with fail
        refine (HM2.out _ HB2.out).mono ?_
        rintro e w3 ⟨rfl, hb3⟩
        have HB3 := Lib.hid (bt HBl.out (bt HB2.out hb3))
        obtain ⟨x0, x1, x2, x3, x4, x5, x6⟩ := HXk.out w3 (bt HK2.out hb3)
        clear hb3 y0 y1 y2 y3 y4 y5 y6
        by_cases hF : z1 = true ∧ z2 = true ∧ z3 = false ∧ z4 = false
        · obtain ⟨rfl, rfl, rfl, rfl⟩ := hF
          have HAll := Lib.hid (HSu.out (HIf.out.2 ⟨rfl, rfl, rfl, rfl⟩))
          go_wp2_with fail
          go_roundw
          case rel => exact ⟨j + 1, by go_num, by omega, HAll.out, HB3.out⟩
          case measure => simp [intOf]; omega
        · have HNo := Lib.hid (HFl.out (fun h => hF (HIf.out.1 h)))
          cases z1 <;> cases z2 <;> cases z3 <;> cases z4
          all_goals first
            | exact absurd ⟨rfl, rfl, rfl, rfl⟩ hF
            | (clear hF
               go_wp2_with fail
               go_ret
               exact ⟨ret_v (x := .bool false) (by rw [HNo.out]), bt HB1.out HB3.out⟩)
      · obtain rfl : j = n := by omega
        have HYes := Lib.hid (HR.out.2 ⟨m1, HAl.out⟩)
        go_wp2_with fail
        go_ret
        exact ⟨ret_v (x := .bool true) (by rw [HYes.out]), bt HB1.out HBl.out⟩
  · have hd1 : decide ((8 : Int) < (n : Int)) = true := by rw [decide_eq_true_iff]; omega
    have hd1' : decide (8 < n) = true := by rw [decide_eq_true_iff]; omega
    have HNo := Lib.hid (HFa.out (fun h => m1 h.1))
    clear m1
    go_enter Tryz.func7, Tryz.ntmps7
    go_wp2_with fail
    go_ret
    exact ⟨ret_v (x := .bool false) (by rw [HNo.out]), HB1.out⟩
end Go.Proofs.YtbmdkibmfkmjoaaGreat.Qy

namespace Go.Proofs.YtbmdkibmfkmjoaaGreat.Op
open Go.RowKit Go.ChangeShapes Go.WideShapes Go.Proofs.YtbmdkibmfkmjoaaGreat.VaM Go.Proofs.YtbmdkibmfkmjoaaGreat.ExM Go.Proofs.YtbmdkibmfkmjoaaGreat.Ex

/-- Parts that came in lie where their slice says. -/
def ArgO (W : World) (a : Option Addr) (len cap : Nat) : Prop := ∃ l : List O, l.length = len ∧ SlO W a l cap

theorem cells_o {w : World} {b : Nat} : ∀ (l : List O) (o : Nat), (∀ i, i < l.length → CellO w b (o + i * 5) (l.getD i o0)) → ∀ (j : Nat) (u : Value), (l.flatMap encO)[j]? = some u → w.cell? ⟨b, o + j, none⟩ = some u
  | [], _, _, j, u, h => by simp at h
  | x :: l, o, hc, j, u, h => by
    rw [List.flatMap_cons] at h
    have h0 := hc 0 (by simp)
    rw [Nat.zero_mul, Nat.add_zero, List.getD_cons_zero] at h0
    obtain ⟨c0, c1, c2, c3, c4⟩ := h0
    by_cases hj : j < 5
    · rw [List.getElem?_append_left (by simpa [encO] using hj)] at h
      have hw : j = 0 ∨ j = 1 ∨ j = 2 ∨ j = 3 ∨ j = 4 := by omega
      rcases hw with rfl | rfl | rfl | rfl | rfl
      · obtain rfl : _ = u := by simpa [encO] using h
        exact c0
      · obtain rfl : _ = u := by simpa [encO] using h
        exact c1
      · obtain rfl : _ = u := by simpa [encO] using h
        exact c2
      · obtain rfl : _ = u := by simpa [encO] using h
        exact c3
      · obtain rfl : _ = u := by simpa [encO] using h
        exact c4
    · rw [List.getElem?_append_right (by simp only [encO, List.length_cons, List.length_nil]; omega)] at h
      have h2 := cells_o l (o + 5) (fun i hi => by
        have h3 := hc (i + 1) (by simpa using hi)
        rw [List.getD_cons_succ] at h3
        rw [show o + 5 + i * 5 = o + (i + 1) * 5 from by omega]
        exact h3) (j - 5) u h
      rw [show o + 5 + (j - 5) = o + j from by omega] at h2
      exact h2

set_option maxRecDepth 100000 in
/-- The same, of one cell. -/
theorem open_parts {H : Type} {enc : TypeId × Value → H} {W : World} {fuel : Nat} {v2 : Value} {y2 : DataW H × List MemPlace} (h2 : DataW.trod enc Tryz.prog W 0 (fun _ => true) true fuel 45 [v2] = some y2) :
    ∃ a len cap, v2 = .slice a len cap ∧ ArgO W a len cap := by
  rcases Deep.open_slice Tryz.underlying45 h2 with ⟨hcs, _⟩ | ⟨x, len, cap, m, n, D, Pl, hcs, _, hl, hm, hmm, _, hr⟩
  · simp only [List.cons.injEq, and_true] at hcs
    subst hcs
    exact ⟨none, 0, 0, rfl, [], rfl, slO_none W⟩
  · simp only [List.cons.injEq, and_true] at hcs
    subst hcs
    refine ⟨some x, len, cap, rfl, ?_⟩
    simp only [if_true] at hmm
    subst hmm
    have each : ∀ i, i < len → ∃ y : O, Fin y ∧ W.cell? (x.add (i * 5)) = some (.int .i64 y.c) ∧ W.cell? (x.add (i * 5 + 1)) = some (.int .i64 y.a) ∧ W.cell? (x.add (i * 5 + 2)) = some (.int .i64 y.v.k) ∧ W.cell? (x.add (i * 5 + 3)) = some (.int .i64 y.v.n) ∧ W.cell? (x.add (i * 5 + 4)) = some (.string y.v.s) := by
      intro i hi
      obtain ⟨cs', hc, ht⟩ := hr i (by omega)
      rw [show Tryz.prog.cellsOf 80 = 5 from by kernel_rfl] at hc
      obtain ⟨_, hlen, hcell⟩ := World.cells?_some hc
      match cs', hlen with
      | [u0, u1, u2, u3, u4], _ =>
        obtain ⟨y0, y1, y2, k, _, _, t0, t1, t2⟩ := Deep.trod_struct3 Tryz.underlying80 ht
        have c1 : Tryz.prog.cellsOf 3 = 1 := by kernel_rfl
        have c2 : Tryz.prog.cellsOf 9 = 1 := by kernel_rfl
        have c3 : Tryz.prog.cellsOf 78 = 3 := by kernel_rfl
        simp only [c1] at t0 t1
        simp only [c3] at t2
        simp only [List.drop_zero, List.drop_succ_cons, List.take_succ_cons, List.take_zero] at t0 t1 t2
        obtain ⟨n0, e0', _, w0⟩ := DataW.trod_int Tryz.underlying3 t0
        obtain ⟨n1, e1', _, w1⟩ := DataW.trod_int Tryz.underlying3 t1
        obtain ⟨z0, z1, z2, k', _, _, s0, s1, s2⟩ := Deep.trod_struct3 Tryz.underlying78 t2
        simp only [c1] at s0 s1
        simp only [c2] at s2
        obtain ⟨n2, e2', _, _⟩ := DataW.trod_int Tryz.underlying3 s0
        obtain ⟨n3, e3', _, w3⟩ := DataW.trod_int Tryz.underlying3 s1
        obtain ⟨s, e4', _, w4⟩ := DataW.trod_string Tryz.underlying9 s2
        simp only [List.drop_zero, List.drop_succ_cons, List.take_succ_cons, List.take_zero, List.cons.injEq, and_true] at e0' e1' e2' e3' e4'
        subst e0' e1' e2' e3' e4'
        have g0 := hcell 0 (by decide)
        have g1 := hcell 1 (by decide)
        have g2 := hcell 2 (by decide)
        have g3 := hcell 3 (by decide)
        have g4 := hcell 4 (by decide)
        have b0 := bounds_i64 w0
        have b1 := bounds_i64 w1
        have b3 := bounds_i64 w3
        refine ⟨⟨n0, n1, ⟨n2, n3, s⟩⟩, ⟨w4, ⟨by simp only; omega, by simp only; omega⟩, ⟨by simp only; omega, by simp only; omega⟩, by simp only; omega, by simp only; omega⟩, ?_, ?_, ?_, ?_, ?_⟩
        · rw [Deep.add_add, Nat.add_zero] at g0
          exact g0
        · rw [Deep.add_add] at g1
          exact g1
        · rw [Deep.add_add] at g2
          exact g2
        · rw [Deep.add_add] at g3
          exact g3
        · rw [Deep.add_add] at g4
          exact g4
    let g : Nat → O := fun i => if h : i < len then Classical.choose (each i h) else o0
    have hg : ∀ i, i < len → Fin (g i) ∧ W.cell? (x.add (i * 5)) = some (.int .i64 (g i).c) ∧ W.cell? (x.add (i * 5 + 1)) = some (.int .i64 (g i).a) ∧ W.cell? (x.add (i * 5 + 2)) = some (.int .i64 (g i).v.k) ∧ W.cell? (x.add (i * 5 + 3)) = some (.int .i64 (g i).v.n) ∧ W.cell? (x.add (i * 5 + 4)) = some (.string (g i).v.s) := by
      intro i hi
      have e : g i = Classical.choose (each i hi) := dif_pos hi
      rw [e]
      exact Classical.choose_spec (each i hi)
    have hgl : ((List.range len).map g).length = len := by simp
    have hgd : ∀ i, i < len → ((List.range len).map g).getD i o0 = g i := fun i hi => by simp [List.getD_eq_getElem?_getD, hi]
    refine ⟨(List.range len).map g, hgl, ⟨⟨((List.range len).map g).flatMap encO, fun h0 => ?_, elems_o _ _ _⟩, by rw [hgl]; exact hl, (fun e => by cases e), hm⟩, fun f hf => ?_⟩
    · have hl0 : 0 < len := by
        rcases Nat.eq_zero_or_pos len with e | e
        · subst e
          simp at h0
        · exact e
      obtain ⟨b, o, sp⟩ := x
      have hsp : sp = none := by simpa [Addr.add] using World.cell?_spot (hg 0 hl0).2.1
      subst hsp
      refine ⟨b, o, rfl, cells_o _ o fun i hi => ?_⟩
      rw [hgl] at hi
      rw [hgd i hi]
      obtain ⟨_, g0, g1, g2, g3, g4⟩ := hg i hi
      rw [Addr.add_lit] at g0 g1 g2 g3 g4
      exact ⟨g0, g1, g2, g3, g4⟩
    · obtain ⟨i, hi, rfl⟩ := List.mem_map.1 hf
      exact (hg i (List.mem_range.1 hi)).1
set_option maxRecDepth 100000 in
theorem open_ops {H : Type} {enc : TypeId × Value → H} {W : World} {r : Reach} {b0 : Nat} {v : Value} {d : DataW H} {p : List MemPlace} (hv : Value.okWide Tryz.prog W r b0 45 v)
    (h : DataW.Trod enc Tryz.prog W 0 (fun _ => true) true 45 v d p) : ∃ a len cap, v = .slice a len cap ∧ ArgO W a len cap := by
  obtain ⟨a, len, cap, rfl⟩ := okWide_slice Tryz.underlying45 hv
  obtain ⟨fuel, hf⟩ := h
  simp only [Value.cells] at hf
  exact open_parts hf
end Go.Proofs.YtbmdkibmfkmjoaaGreat.Op

namespace Go.Proofs.YtbmdkibmfkmjoaaGreat.Op
open Go.RowKit Go.ChangeShapes Go.WideShapes Go.Proofs.YtbmdkibmfkmjoaaGreat.VaM Go.Proofs.YtbmdkibmfkmjoaaGreat.ExM Go.Proofs.YtbmdkibmfkmjoaaGreat.Ex Go.Proofs.YtbmdkibmfkmjoaaGreat.QyM Go.Proofs.YtbmdkibmfkmjoaaGreat.Qy

/-- A query that came in: its steps lie where its slice says, its numbers are ints. -/
def ArgQ (W : World) (w a i f : Int) (A : Option Addr) (len cap : Nat) : Prop := ∃ p : List St, p.length = len ∧ SlSt W A p cap ∧ FineQ ⟨p, w, a, i, f⟩

theorem seven {H : Type} {enc : TypeId × Value → H} {P : Program} {w : World} {base : Nat} {spare : Nat → Bool} {held : Bool} {t : TypeId} {g0 g1 g2 g3 g4 g5 g6 : Field} {fuel : Nat} {cs : List Value} {x : DataW H × List MemPlace}
    (ht : P.underlying t = some (.struct #[g0, g1, g2, g3, g4, g5, g6])) (h : DataW.trod enc P w base spare held fuel t cs = some x) :
    ∃ y0 y1 y2 y3 y4 y5 y6 n, DataW.trod enc P w base spare held n g0.type ((cs.drop g0.offset).take (P.cellsOf g0.type)) = some y0 ∧ DataW.trod enc P w base spare held n g1.type ((cs.drop g1.offset).take (P.cellsOf g1.type)) = some y1 ∧
      DataW.trod enc P w base spare held n g2.type ((cs.drop g2.offset).take (P.cellsOf g2.type)) = some y2 ∧ DataW.trod enc P w base spare held n g3.type ((cs.drop g3.offset).take (P.cellsOf g3.type)) = some y3 ∧
      DataW.trod enc P w base spare held n g4.type ((cs.drop g4.offset).take (P.cellsOf g4.type)) = some y4 ∧ DataW.trod enc P w base spare held n g5.type ((cs.drop g5.offset).take (P.cellsOf g5.type)) = some y5 ∧
      DataW.trod enc P w base spare held n g6.type ((cs.drop g6.offset).take (P.cellsOf g6.type)) = some y6 := by
  obtain ⟨xs, n, _, rfl, _, hlen, hf⟩ := DataW.trod_struct ht h
  match xs, hlen with
  | [y0, y1, y2, y3, y4, y5, y6], _ => exact ⟨y0, y1, y2, y3, y4, y5, y6, n, by simpa using hf 0 g0 rfl, by simpa using hf 1 g1 rfl, by simpa using hf 2 g2 rfl, by simpa using hf 3 g3 rfl, by simpa using hf 4 g4 rfl, by simpa using hf 5 g5 rfl, by simpa using hf 6 g6 rfl⟩

theorem five {H : Type} {enc : TypeId × Value → H} {P : Program} {w : World} {base : Nat} {spare : Nat → Bool} {held : Bool} {t : TypeId} {g0 g1 g2 g3 g4 : Field} {fuel : Nat} {cs : List Value} {x : DataW H × List MemPlace}
    (ht : P.underlying t = some (.struct #[g0, g1, g2, g3, g4])) (h : DataW.trod enc P w base spare held fuel t cs = some x) :
    ∃ y0 y1 y2 y3 y4 n, DataW.trod enc P w base spare held n g0.type ((cs.drop g0.offset).take (P.cellsOf g0.type)) = some y0 ∧ DataW.trod enc P w base spare held n g1.type ((cs.drop g1.offset).take (P.cellsOf g1.type)) = some y1 ∧
      DataW.trod enc P w base spare held n g2.type ((cs.drop g2.offset).take (P.cellsOf g2.type)) = some y2 ∧ DataW.trod enc P w base spare held n g3.type ((cs.drop g3.offset).take (P.cellsOf g3.type)) = some y3 ∧
      DataW.trod enc P w base spare held n g4.type ((cs.drop g4.offset).take (P.cellsOf g4.type)) = some y4 := by
  obtain ⟨xs, n, _, rfl, _, hlen, hf⟩ := DataW.trod_struct ht h
  match xs, hlen with
  | [y0, y1, y2, y3, y4], _ => exact ⟨y0, y1, y2, y3, y4, n, by simpa using hf 0 g0 rfl, by simpa using hf 1 g1 rfl, by simpa using hf 2 g2 rfl, by simpa using hf 3 g3 rfl, by simpa using hf 4 g4 rfl⟩

theorem array5 {α : Type} {cs : Array α} (h : cs.size = 5) : ∃ c0 c1 c2 c3 c4, cs = #[c0, c1, c2, c3, c4] := by
  obtain ⟨l⟩ := cs
  match l, h with
  | [c0, c1, c2, c3, c4], _ => exact ⟨c0, c1, c2, c3, c4, rfl⟩

/-- Elements' cells, one behind the other, by each element's. -/
theorem cells_gen {α : Type} {w : World} {b : Nat} (enc : α → List Value) (sz : Nat) (hl : ∀ x, (enc x).length = sz) : ∀ (L : List α) (o : Nat), (∀ i x, L[i]? = some x → ∀ k u, (enc x)[k]? = some u → w.cell? ⟨b, o + i * sz + k, none⟩ = some u) →
    ∀ (j : Nat) (u : Value), (L.flatMap enc)[j]? = some u → w.cell? ⟨b, o + j, none⟩ = some u
  | [], _, _, j, u, h => by simp at h
  | x :: L, o, hc, j, u, h => by
    rw [List.flatMap_cons] at h
    by_cases hj : j < sz
    · rw [List.getElem?_append_left (by rw [hl]; exact hj)] at h
      have h2 := hc 0 x rfl j u h
      rw [Nat.zero_mul, Nat.add_zero] at h2
      exact h2
    · rw [List.getElem?_append_right (by rw [hl]; omega), hl] at h
      have h2 := cells_gen enc sz hl L (o + sz) (fun i y hi k v hv => by
        have h3 := hc (i + 1) y (by simpa using hi) k v hv
        rw [show o + sz + i * sz + k = o + (i + 1) * sz + k from by rw [Nat.add_mul]; omega]
        exact h3) (j - sz) u h
      rw [show o + sz + (j - sz) = o + j from by omega] at h2
      exact h2

/-- A step, and where its expressions lie. -/
abbrev E := St × (Option Addr × Nat) × (Option Addr × Nat)
def encE (x : E) : List Value := encSt x.1 x.2.1.1 x.2.1.2 x.2.2.1 x.2.2.2
def OkE (W : World) (x : E) : Prop := SlO W x.2.1.1 x.1.f x.2.1.2 ∧ SlO W x.2.2.1 x.1.h x.2.2.2 ∧ FineSt x.1
theorem elems_e {W : World} : ∀ L : List E, (∀ x ∈ L, OkE W x) → RG.Elems KSt (fun _ => True) W (L.map (·.1)) (L.flatMap encE)
  | [], _ => rfl
  | x :: L, h => by
    obtain ⟨h1, h2, h3⟩ := h x (by simp)
    exact ⟨encE x, L.flatMap encE, rfl, ⟨x.2.1.1, x.2.1.2, x.2.2.1, x.2.2.2, rfl, h1, h2, h3, (fun _ _ _ => True.intro), fun _ _ _ => True.intro⟩, elems_e L fun y hy => h y (by simp [hy])⟩

set_option maxRecDepth 100000 in
set_option maxHeartbeats 1000000 in
theorem open_steps {H : Type} {enc : TypeId × Value → H} {W : World} {fuel : Nat} {v2 : Value} {y2 : DataW H × List MemPlace} (h2 : DataW.trod enc Tryz.prog W 0 (fun _ => true) true fuel 23 [v2] = some y2) :
    ∃ a len cap, v2 = .slice a len cap ∧ ∃ p : List St, p.length = len ∧ SlSt W a p cap := by
  rcases Deep.open_slice Tryz.underlying23 h2 with ⟨hcs, _⟩ | ⟨x, len, cap, m, n, D, Pl, hcs, _, hl, hm, hmm, _, hr⟩
  · simp only [List.cons.injEq, and_true] at hcs
    subst hcs
    exact ⟨none, 0, 0, rfl, [], rfl, slSt_none W⟩
  · simp only [List.cons.injEq, and_true] at hcs
    subst hcs
    refine ⟨some x, len, cap, rfl, ?_⟩
    simp only [if_true] at hmm
    subst hmm
    have each : ∀ i, i < len → ∃ y : E, OkE W y ∧ ∀ k u, (encE y)[k]? = some u → W.cell? (x.add (i * 7 + k)) = some u := by
      intro i hi
      obtain ⟨cs', hc, ht⟩ := hr i (by omega)
      rw [show Tryz.prog.cellsOf 47 = 7 from by kernel_rfl] at hc
      obtain ⟨_, hlen, hcell⟩ := World.cells?_some hc
      match cs', hlen with
      | [u0, u1, u2, u3, u4, u5, u6], _ =>
        obtain ⟨y0, y1, y2, y3, y4, y5, y6, k, t0, t1, t2, t3, t4, t5, t6⟩ := seven Tryz.underlying47 ht
        have c1 : Tryz.prog.cellsOf 3 = 1 := by kernel_rfl
        have c2 : Tryz.prog.cellsOf 9 = 1 := by kernel_rfl
        have c3 : Tryz.prog.cellsOf 45 = 1 := by kernel_rfl
        have c4 : Tryz.prog.cellsOf 4 = 1 := by kernel_rfl
        simp only [c2] at t0 t5
        simp only [c3] at t1 t6
        simp only [c1] at t2 t3
        simp only [c4] at t4
        simp only [List.drop_zero, List.drop_succ_cons, List.take_succ_cons, List.take_zero] at t0 t1 t2 t3 t4 t5 t6
        obtain ⟨s0, e0', _, w0⟩ := DataW.trod_string Tryz.underlying9 t0
        obtain ⟨A1, n1, k1, e1', l1, hl1, hs1⟩ := open_parts t1
        obtain ⟨n2, e2', _, w2⟩ := DataW.trod_int Tryz.underlying3 t2
        obtain ⟨n3, e3', _, w3⟩ := DataW.trod_int Tryz.underlying3 t3
        obtain ⟨g4, e4', _⟩ := DataW.trod_bool Tryz.underlying4 t4
        obtain ⟨s5, e5', _, w5⟩ := DataW.trod_string Tryz.underlying9 t5
        obtain ⟨A6, n6, k6, e6', l6, hl6, hs6⟩ := open_parts t6
        simp only [List.cons.injEq, and_true] at e0' e2' e3' e4' e5'
        subst e0' e1' e2' e3' e4' e5' e6' hl1 hl6
        have b2 := bounds_i64 w2
        have b3 := bounds_i64 w3
        refine ⟨(⟨s0, l1, n2, n3, g4, s5, l6⟩, (A1, k1), (A6, k6)), ⟨hs1, hs6, ⟨w0, w5⟩, ⟨by simp only; omega, by simp only; omega⟩, by simp only; omega, by simp only; omega⟩, fun j u hu => ?_⟩
        have hj : j < 7 := (List.getElem?_eq_some_iff.1 hu).1
        have h3 := hcell j (by simpa using hj)
        rw [Deep.add_add] at h3
        rw [h3]
        exact hu
    let g : Nat → E := fun i => if h : i < len then Classical.choose (each i h) else (t0, (none, 0), (none, 0))
    have hg : ∀ i, i < len → OkE W (g i) ∧ ∀ k u, (encE (g i))[k]? = some u → W.cell? (x.add (i * 7 + k)) = some u := by
      intro i hi
      have e : g i = Classical.choose (each i hi) := dif_pos hi
      rw [e]
      exact Classical.choose_spec (each i hi)
    have hgl : (((List.range len).map g).map (·.1)).length = len := by simp
    refine ⟨((List.range len).map g).map (·.1), hgl, ⟨((List.range len).map g).flatMap encE, fun h0 => ?_, elems_e _ fun y hy => ?_⟩, by rw [hgl]; exact hl, (fun e => by cases e), hm⟩
    · have hl0 : 0 < len := by
        rcases Nat.eq_zero_or_pos len with e | e
        · subst e
          simp at h0
        · exact e
      obtain ⟨b, o, sp⟩ := x
      have hsp : sp = none := by simpa [Addr.add] using World.cell?_spot ((hg 0 hl0).2 0 _ rfl)
      subst hsp
      refine ⟨b, o, rfl, cells_gen encE 7 (fun _ => rfl) _ o fun i y hi => ?_⟩
      have hi2 : i < len := by
        have := (List.getElem?_eq_some_iff.1 hi).1
        simpa using this
      have hy : y = g i := by
        rw [List.getElem?_map, List.getElem?_range hi2] at hi
        simpa using hi.symm
      subst hy
      intro k u hu
      have h3 := (hg i hi2).2 k u hu
      rw [Addr.add_lit, ← Nat.add_assoc] at h3
      exact h3
    · obtain ⟨i, hi, rfl⟩ := List.mem_map.1 hy
      exact (hg i (List.mem_range.1 hi)).1

set_option maxRecDepth 100000 in
theorem open_query {H : Type} {enc : TypeId × Value → H} {W : World} {r : Reach} {b0 : Nat} {v : Value} {d : DataW H} {p : List MemPlace} (hv : Value.okWide Tryz.prog W r b0 25 v)
    (h : DataW.Trod enc Tryz.prog W 0 (fun _ => true) true 25 v d p) : ∃ w a i f A len cap, v = .agg #[.slice A len cap, .int .i64 w, .int .i64 a, .int .i64 i, .int .i64 f] ∧ ArgQ W w a i f A len cap := by
  obtain ⟨cs, rfl, hsz⟩ := okWide_struct Tryz.underlying25 hv
  obtain ⟨v0, v1, v2, v3, v4, rfl⟩ := array5 (hsz.trans (show Tryz.prog.cellsOf 25 = 5 from by kernel_rfl))
  obtain ⟨fuel, hf⟩ := h
  obtain ⟨y0, y1, y2, y3, y4, n, t0, t1, t2, t3, t4⟩ := five Tryz.underlying25 hf
  have c1 : Tryz.prog.cellsOf 3 = 1 := by kernel_rfl
  have c2 : Tryz.prog.cellsOf 23 = 1 := by kernel_rfl
  simp only [c2] at t0
  simp only [c1] at t1 t2 t3 t4
  simp only [Value.cells, List.drop_zero, List.drop_succ_cons, List.take_succ_cons, List.take_zero] at t0 t1 t2 t3 t4
  obtain ⟨A, len, cap, rfl, p, hl, hs⟩ := open_steps t0
  obtain ⟨n1, e1', _, w1⟩ := DataW.trod_int Tryz.underlying3 t1
  obtain ⟨n2, e2', _, w2⟩ := DataW.trod_int Tryz.underlying3 t2
  obtain ⟨n3, e3', _, w3⟩ := DataW.trod_int Tryz.underlying3 t3
  obtain ⟨n4, e4', _, w4⟩ := DataW.trod_int Tryz.underlying3 t4
  simp only [List.cons.injEq, and_true] at e1' e2' e3' e4'
  subst e1' e2' e3' e4'
  have b1 := bounds_i64 w1
  have b2 := bounds_i64 w2
  have b3 := bounds_i64 w3
  have b4 := bounds_i64 w4
  exact ⟨n1, n2, n3, n4, A, len, cap, rfl, p, hl, hs, ⟨by simp only; omega, by simp only; omega⟩, ⟨by simp only; omega, by simp only; omega⟩, ⟨by simp only; omega, by simp only; omega⟩, by simp only; omega, by simp only; omega⟩
end Go.Proofs.YtbmdkibmfkmjoaaGreat.Op

namespace Go.Proofs.YtbmdkibmfkmjoaaGreat.Qy
open Go.RowKit Go.Proofs.YtbmdkibmfkmjoaaGreat.BM Go.Proofs.YtbmdkibmfkmjoaaGreat.LM Go.Proofs.YtbmdkibmfkmjoaaGreat.LeM Go.Proofs.YtbmdkibmfkmjoaaGreat.VaM Go.Proofs.YtbmdkibmfkmjoaaGreat.ExM Go.Proofs.YtbmdkibmfkmjoaaGreat.QyM
open Go.Proofs.YtbmdkibmfkmjoaaGreat.Ex (SlO slO_none)
open Go.Proofs.YtbmdkibmfkmjoaaGreat.Va (ret_v)

theorem elems_rng {p : Nat → Prop} {w : World} : ∀ {l : List St} {vs : List Value}, RG.Elems KSt p w l vs → ∀ x ∈ l, Rngs x.f ∧ Rngs x.h
  | [], _, _, x, hx => by cases hx
  | y :: l, _, ⟨_, _, _, ⟨A, c, B, d, _, h1, h2, _⟩, hr⟩, x, hx => by
    rcases List.mem_cons.1 hx with rfl | hx
    · exact ⟨fun z hz => (h1.2 z hz).2.1, fun z hz => (h2.2 z hz).2.1⟩
    · exact elems_rng hr x hx
theorem slSt_rng {w : World} {A : Option Addr} {p : List St} {c : Nat} (h : SlSt w A p c) {q : Q} (hq : q.p = p) : RngQ q := by
  obtain ⟨⟨vs, _, h2⟩, _⟩ := h
  intro x hx
  rw [hq] at hx
  exact elems_rng h2 x hx

/-- A query's box. -/
def BxQ5 (w : World) (b : Nat) (A : Option Addr) (n c : Nat) (x y z t : Int) : Prop := RG.BxN w b [.slice A n c, .int .i64 x, .int .i64 y, .int .i64 z, .int .i64 t]
theorem bxQ5_new (w : World) (A : Option Addr) (n c : Nat) (x y z t : Int) : BxQ5 (w.alloc (.cells #[.slice A n c, .int .i64 x, .int .i64 y, .int .i64 z, .int .i64 t] 25)) w.heap.size A n c x y z t :=
  RG.bxN_new w 25 [.slice A n c, .int .i64 x, .int .i64 y, .int .i64 z, .int .i64 t]
theorem BxQ5.kept {w w' : World} {b : Nat} {A : Option Addr} {n c : Nat} {x y z t : Int} (h : BxQ5 w b A n c x y z t) (hb : Below w.heap.size w w') : BxQ5 w' b A n c x y z t := RG.BxN.kept h hb
theorem below_box (w : World) (A : Option Addr) (n c : Nat) (x y z t : Int) : Below w.heap.size w (w.alloc (.cells #[.slice A n c, .int .i64 x, .int .i64 y, .int .i64 z, .int .i64 t] 25)) := (Below.refl w.heap.size w).alloc (Nat.le_refl _) _
end Go.Proofs.YtbmdkibmfkmjoaaGreat.Qy
