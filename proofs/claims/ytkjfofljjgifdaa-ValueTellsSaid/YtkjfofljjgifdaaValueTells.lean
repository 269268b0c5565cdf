/- The walk of ValueTells: any value may be, is put, and is less than another one, and any bytes begin by one, as the document says; no condition. -/
import Derived.Test.YtkjfofljjgifdaaValueLaw
import Derived.Test.YtkjfofljjgifdaaValueRefPut
import Derived.Test.YtkjfofljjgifdaaValueRefGet
import Derived.Test.YtkjfofljjgifdaaValueRefLess
namespace Go.Proofs.Ytkjfofljjgifdaa.Va
open Go.RowKit Go.Proofs.Ytkjfofljjgifdaa.BM Go.Proofs.Ytkjfofljjgifdaa.LM Go.Proofs.Ytkjfofljjgifdaa.VaM

theorem same_self (a : V) : same a a = true := same_iff.2 rfl

set_option maxRecDepth 100000 in
set_option maxHeartbeats 4000000 in
theorem tells_walk (k1 n1 : Int) (s1 : ByteArray) (k2 n2 : Int) (s2 : ByteArray) (a : Option Addr) (len cap : Nat) (zs : List Int) (w : World) (hv1 : (Lit.int .i64 k1).wf = true ∧ (Lit.int .i64 n1).wf = true ∧ s1.size ≤ maxLen) (hv2 : (Lit.int .i64 k2).wf = true ∧ (Lit.int .i64 n2).wf = true ∧ s2.size ≤ maxLen) (hz : RowU8 w a len cap zs) :
    Calls Try.prog 3 #[.agg #[.int .i64 k1, .int .i64 n1, .string s1], .agg #[.int .i64 k2, .int .i64 n2, .string s2], .slice a len cap] w fun e w' => e = .returned (.bool true) ∧ Below w.heap.size w w' := by
  obtain ⟨xs, hlen, hxs⟩ := row_slB hz
  have hr1 : Rng ⟨k1, n1, s1⟩ := rng_of hv1.2.1
  have hlm : len ≤ 9223372036854775807 := by
    have h1 := hxs.2.1
    have h2 := hxs.2.2.2
    unfold maxLen at h2
    omega
  have HF1 := Lib.hid (fun W => few_any k1 n1 s1 W hv1.2.2)
  have HF2 := Lib.hid (fun W => few_any k2 n2 s2 W hv2.2.2)
  have HM1 := Lib.hid (May_any k1 n1 s1)
  have HRM := Lib.hid (refMay_any k1 n1 s1)
  have HP := Lib.hid (fun W => Put_any k1 n1 s1 W hr1)
  have HRP := Lib.hid (fun W => refPut_any k1 n1 s1 W hr1)
  have HL := Lib.hid (Less_any ⟨k1, n1, s1⟩ ⟨k2, n2, s2⟩)
  have HRL := Lib.hid (refLess_any ⟨k1, n1, s1⟩ ⟨k2, n2, s2⟩)
  have hG := fun W (hW : Below w.heap.size w W) => Get_any a xs cap W (hxs.kept hW)
  have hRG := fun W (hW : Below w.heap.size w W) => refGet_any a xs cap W (hxs.kept hW)
  rw [hlen] at hG hRG
  unfold Gots at hG hRG
  obtain ⟨gk, gn, gs, gm, gb, hg⟩ : ∃ gk gn gs gm gb, gotP (getP xs) = (⟨gk, gn, gs⟩, gm, gb) := ⟨_, _, _, _, _, rfl⟩
  rw [hg] at hG hRG
  simp only [got3] at hG hRG
  have HG := Lib.hid hG
  have HRG := Lib.hid hRG
  have hb1 := (Below.refl w.heap.size w).alloc (Nat.le_refl _) (.cells #[.int .i64 k1, .int .i64 n1, .string s1] 23)
  have hk := (Below.refl (w.alloc (.cells #[.int .i64 k1, .int .i64 n1, .string s1] 23)).heap.size (w.alloc (.cells #[.int .i64 k1, .int .i64 n1, .string s1] 23))).alloc (Nat.le_refl _) (.cells #[.int .i64 k2, .int .i64 n2, .string s2] 23)
  have hx2 := bx_new (w.alloc (.cells #[.int .i64 k1, .int .i64 n1, .string s1] 23)) (.int .i64 k2) (.int .i64 n2) (.string s2)
  rw [show (w.alloc (.cells #[.int .i64 k1, .int .i64 n1, .string s1] 23)).heap.size = w.heap.size + 1 from by simp] at hx2
  have HX1 := Lib.hid ((bx_new w (.int .i64 k1) (.int .i64 n1) (.string s1)).kept hk)
  have HX2 := Lib.hid hx2
  have HB := Lib.hid (bt hb1 hk)
  clear hb1 hk hx2 hv1 hv2 hz hr1 hG hRG hg hxs hlen
  go_enter Try.func3, Try.ntmps3
  go_wp2_with fail
  refine (awake_any _).mono ?_
  rintro e w1 ⟨rfl, hb⟩
  have HX11 := Lib.hid (HX1.out.kept hb)
  have HX21 := Lib.hid (HX2.out.kept hb)
  have HB1 := Lib.hid (bt HB.out hb)
  clear hb HX1 HX2 HB
  obtain ⟨⟨p0, p1, p2⟩, _⟩ := HX11.out
  go_wp2_with fail
  refine (HF1.out _).mono ?_
  rintro e w2 ⟨rfl, hb⟩
  obtain ⟨P, hP⟩ : ∃ P, P = decide (s1.size ≤ 100) := ⟨_, rfl⟩
  rw [← hP]
  have HX12 := Lib.hid (HX11.out.kept hb)
  have HX22 := Lib.hid (HX21.out.kept hb)
  have HB2 := Lib.hid (bt HB1.out hb)
  clear hb p0 p1 p2 hP HF1 HX11 HX21 HB1
  obtain ⟨⟨p0, p1, p2⟩, _⟩ := HX22.out
  go_wp2_with fail
  refine (HF2.out _).mono ?_
  rintro e w3 ⟨rfl, hb⟩
  obtain ⟨Q, hQ⟩ : ∃ Q, Q = decide (s2.size ≤ 100) := ⟨_, rfl⟩
  rw [← hQ]
  have HX13 := Lib.hid (HX12.out.kept hb)
  have HX23 := Lib.hid (HX22.out.kept hb)
  have HB3 := Lib.hid (bt HB2.out hb)
  clear hb p0 p1 p2 hQ HF2 HX12 HX22 HB2
  by_cases hpqr : P = true ∧ Q = true ∧ len ≤ 100
  · obtain ⟨rfl, rfl, hl100⟩ := hpqr
    obtain ⟨⟨p0, p1, p2⟩, _⟩ := HX13.out
    go_wp2_with fail
    refine (HP.out _).mono ?_
    rintro e w4 ⟨A, c, rfl, h4, _, hb⟩
    obtain ⟨L, hL⟩ : ∃ L, L = (pv ⟨k1, n1, s1⟩).length := ⟨_, rfl⟩
    obtain ⟨I, hI⟩ : ∃ I, I = decide (May ⟨k1, n1, s1⟩) := ⟨_, rfl⟩
    rw [← hL, ← hI]
    have HLn := Lib.hid hL
    have HI := Lib.hid hI
    have HS4 := Lib.hid h4
    have HX14 := Lib.hid (HX13.out.kept hb)
    have HX24 := Lib.hid (HX23.out.kept hb)
    have HB4 := Lib.hid (bt HB3.out hb)
    clear hb p0 p1 p2 hL hI h4 HP HX13 HX23 HB3
    obtain ⟨⟨p0, p1, p2⟩, _⟩ := HX14.out
    go_wp2_with fail
    refine (HRP.out _).mono ?_
    rintro e w5 ⟨B, d, rfl, h5, _, hb⟩
    rw [← HLn.out, ← HI.out]
    have HS5 := Lib.hid (HS4.out.kept hb)
    have HT5 := Lib.hid h5
    have HX15 := Lib.hid (HX14.out.kept hb)
    have HX25 := Lib.hid (HX24.out.kept hb)
    have HB5 := Lib.hid (bt HB4.out hb)
    clear hb p0 p1 p2 h5 HRP HX14 HX24 HB4 HS4
    go_wp2_with fail
    refine (HG.out _ HB5.out).mono ?_
    rintro e w6 ⟨rfl, hb⟩
    have ha7 := (Below.refl w6.heap.size w6).alloc (Nat.le_refl _) (.cells #[.int .i64 gk, .int .i64 gn, .string gs] 23)
    have hk7 := bt hb ha7
    have HY7 := Lib.hid (bx_new w6 (.int .i64 gk) (.int .i64 gn) (.string gs))
    have HS7 := Lib.hid (HS5.out.kept hk7)
    have HT7 := Lib.hid (HT5.out.kept hk7)
    have HX17 := Lib.hid (HX15.out.kept hk7)
    have HX27 := Lib.hid (HX25.out.kept hk7)
    have HB7 := Lib.hid (bt HB5.out hk7)
    clear hb ha7 hk7 HG HX15 HX25 HB5 HS5 HT5
    go_wp2_with fail
    refine (HRG.out _ HB7.out).mono ?_
    rintro e w8 ⟨rfl, hb⟩
    have ha9 := (Below.refl w8.heap.size w8).alloc (Nat.le_refl _) (.cells #[.int .i64 gk, .int .i64 gn, .string gs] 23)
    have hk9 := bt hb ha9
    have HZ9 := Lib.hid (bx_new w8 (.int .i64 gk) (.int .i64 gn) (.string gs))
    have HY9 := Lib.hid (HY7.out.kept hk9)
    have HS9 := Lib.hid (HS7.out.kept hk9)
    have HT9 := Lib.hid (HT7.out.kept hk9)
    have HX19 := Lib.hid (HX17.out.kept hk9)
    have HX29 := Lib.hid (HX27.out.kept hk9)
    have HB9 := Lib.hid (bt HB7.out hk9)
    obtain ⟨⟨p0, p1, p2⟩, _⟩ := HX19.out
    obtain ⟨⟨q0, q1, q2⟩, _⟩ := HX29.out
    have l1 := (HX17.out.kept hb).lt
    have l2 := (HX27.out.kept hb).lt
    obtain ⟨⟨r0, r1, r2⟩, _⟩ := HX17.out.kept hb
    obtain ⟨⟨t0, t1, t2⟩, _⟩ := HX27.out.kept hb
    clear hb ha9 hk9 HRG HX17 HX27 HB7 HS7 HT7 HY7
    go_wp2_with fail
    refine (HL.out _).mono ?_
    rintro e w10 ⟨rfl, hb⟩
    obtain ⟨U, hU⟩ : ∃ U, U = (can ⟨k1, n1, s1⟩ ⟨k2, n2, s2⟩ && lt ⟨k1, n1, s1⟩ ⟨k2, n2, s2⟩) := ⟨_, rfl⟩
    obtain ⟨C, hC⟩ : ∃ C, C = can ⟨k1, n1, s1⟩ ⟨k2, n2, s2⟩ := ⟨_, rfl⟩
    rw [← hU, ← hC]
    have HU := Lib.hid hU
    have HC := Lib.hid hC
    have HZ10 := Lib.hid (HZ9.out.kept hb)
    have HY10 := Lib.hid (HY9.out.kept hb)
    have HS10 := Lib.hid (HS9.out.kept hb)
    have HT10 := Lib.hid (HT9.out.kept hb)
    have HX110 := Lib.hid (HX19.out.kept hb)
    have HX210 := Lib.hid (HX29.out.kept hb)
    have HB10 := Lib.hid (bt HB9.out hb)
    clear p0 p1 p2 q0 q1 q2 r0 r1 r2 t0 t1 t2 l1 l2 hb hU hC HL HX19 HX29 HB9 HS9 HT9 HY9 HZ9
    obtain ⟨⟨p0, p1, p2⟩, _⟩ := HX110.out
    obtain ⟨⟨q0, q1, q2⟩, _⟩ := HX210.out
    go_wp2_with fail
    refine (HRL.out _).mono ?_
    rintro e w11 ⟨rfl, hb⟩
    rw [← HU.out, ← HC.out]
    have HZ11 := Lib.hid (HZ10.out.kept hb)
    have HY11 := Lib.hid (HY10.out.kept hb)
    have HS11 := Lib.hid (HS10.out.kept hb)
    have HT11 := Lib.hid (HT10.out.kept hb)
    have HX111 := Lib.hid (HX110.out.kept hb)
    have HB11 := Lib.hid (bt HB10.out hb)
    clear p0 p1 p2 q0 q1 q2 hb HRL HX110 HX210 HB10 HS10 HT10 HY10 HZ10
    obtain ⟨⟨p0, p1, p2⟩, _⟩ := HX111.out
    go_wp2_with fail
    refine (HRM.out _).mono ?_
    rintro e w12 ⟨rfl, hb⟩
    rw [← HI.out]
    have cvx := conv_any (HS11.out.kept hb).1 c 9 Try.underlying9
    have cvy := conv_any (HT11.out.kept hb).1 d 9 Try.underlying9
    rw [← HLn.out] at cvx cvy
    have heq : ∀ W, (binOp .eql 23 (.agg #[.int .i64 gk, .int .i64 gn, .string gs]) (.agg #[.int .i64 gk, .int .i64 gn, .string gs])).run Try.prog W = .ok (.bool true) W := fun W => by rw [eql_v, same_self]
    have HB12 := Lib.hid (bt HB11.out hb)
    clear p0 p1 p2
    obtain ⟨⟨p0, p1, p2⟩, _⟩ := HX111.out.kept hb
    obtain ⟨⟨q0, q1, q2⟩, _⟩ := HY11.out.kept hb
    obtain ⟨⟨r0, r1, r2⟩, _⟩ := HZ11.out.kept hb
    clear hb HRM HX111 HB11 HS11 HT11 HY11 HZ11
    go_wp2_with fail
    refine (HM1.out _).mono ?_
    rintro e w13 ⟨rfl, hb⟩
    rw [← HI.out]
    have HB13 := Lib.hid (bt HB12.out hb)
    clear hb p0 p1 p2 q0 q1 q2 r0 r1 r2 cvx cvy heq
    go_wp2_with fail
    go_ret
    exact ⟨ret_bool (by first | rfl | simp), HB13.out⟩
  · have hor : P = false ∨ (P = true ∧ Q = false) ∨ (P = true ∧ Q = true ∧ 100 < len) := by
      cases P
      · exact Or.inl rfl
      · cases Q
        · exact Or.inr (Or.inl ⟨rfl, rfl⟩)
        · exact Or.inr (Or.inr ⟨rfl, rfl, Nat.lt_of_not_le (fun h => hpqr ⟨rfl, rfl, h⟩)⟩)
    clear hpqr
    rcases hor with rfl | ⟨rfl, rfl⟩ | ⟨rfl, rfl, hl⟩
    all_goals
      go_wp2_with fail
      go_ret
      exact ⟨ret_bool (by first | rfl | simp), HB3.out⟩
end Go.Proofs.Ytkjfofljjgifdaa.Va
