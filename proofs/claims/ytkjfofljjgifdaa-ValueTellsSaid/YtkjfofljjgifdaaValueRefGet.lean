/- Get of the document's answers: what it answers of any bytes; asked: the slice reads as bytes. -/
import Derived.Test.YtkjfofljjgifdaaValueGet
import Derived.Test.YtkjfofljjgifdaaValueRefMay
import Derived.Test.YtkjfofljjgifdaaLeRefGet
namespace Go.Proofs.Ytkjfofljjgifdaa.Va
open Go.RowKit Go.Proofs.Ytkjfofljjgifdaa.BM Go.Proofs.Ytkjfofljjgifdaa.LM Go.Proofs.Ytkjfofljjgifdaa.LeM Go.Proofs.Ytkjfofljjgifdaa.LeZ Go.Proofs.Ytkjfofljjgifdaa.VaM

set_option maxRecDepth 100000 in
theorem refGet_nil (A : Option Addr) (c : Nat) (w : World) : Calls Try.prog 15 #[.slice A 0 c] w (Gots [] w) := by
  go_enter Try.func15, Try.ntmps15
  go_wp2_with fail
  obtain ⟨⟨r0, r1, r2⟩, _⟩ := bx_new w (.int .i64 0) (.int .i64 0) (.string ⟨#[]⟩)
  exact bodyPost_ret (v := .tuple #[.agg #[.int .i64 0, .int .i64 0, .string ⟨#[]⟩], .int .i64 0, .bool false]) (by simp [results, Try.results15, go_sem]) rfl ⟨rfl, (Below.refl _ _).alloc (Nat.le_refl _) _⟩

set_option maxRecDepth 100000 in
theorem refGet_no (A : Option Addr) (k : Int) (t : List Int) (c : Nat) (w : World) (h : SlB w A (k :: t) c) (hg : getS t = none) : Calls Try.prog 15 #[.slice A (k :: t).length c] w (Gots (k :: t) w) := by
  have hm := h.2.2.2
  have hc := h.2.1
  unfold maxLen at hm
  rw [List.length_cons] at hc ⊢
  have hB := (Below.refl w.heap.size w).alloc (Nat.le_refl _) (.cells #[.int .i64 0, .int .i64 0, .string ⟨#[]⟩] 23)
  have hr : gotP (getP (k :: t)) = (⟨0, 0, e0⟩, 0, false) := by
    rw [show getP (k :: t) = getB k t (getS t) from rfl, hg]
    rfl
  have hsl := fun W => slice_1 W A t.length c
  obtain ⟨D, hD⟩ : ∃ D, D = dropA A 1 c := ⟨_, rfl⟩
  have hd := (Cut.slB_drop h 1 (by simp)).kept hB
  rw [← hD] at hsl hd
  have hGet := LeG.refGet_any D t (c - 1) _ hd.2.1 (by omega) hd.1
  rw [hg] at hGet
  have HG := Lib.hid hGet
  have HR := Lib.hid hr
  have HX := Lib.hid (bx_new w (.int .i64 0) (.int .i64 0) (.string ⟨#[]⟩))
  obtain ⟨L, hL⟩ : ∃ L, L = t.length := ⟨_, rfl⟩
  rw [← hL] at hsl HG hc ⊢
  have HB := Lib.hid hB
  clear hB hr hD hd hGet hg hL h
  go_enter Try.func15, Try.ntmps15
  go_wp2_with fail
  refine HG.out.mono ?_
  rintro e w1 ⟨rfl, hb1⟩
  simp only [LeG.gotV]
  have hx := HX.out.kept hb1
  have hst := bx_store hx (.int .i64 0) (.int .i64 0) (.string ⟨#[]⟩)
  obtain ⟨⟨r0, r1, r2⟩, _⟩ := hst
  have R0 := Lib.hid r0
  have R1 := Lib.hid r1
  have R2 := Lib.hid r2
  have HF := Lib.hid (stored3 (bt HB.out hb1) (Nat.le_refl _) (.int .i64 0) (.int .i64 0) (.string ⟨#[]⟩))
  obtain ⟨⟨p0, p1, p2⟩, p3, p4, p5⟩ := hx
  clear r0 r1 r2 hb1
  go_wp2_with fail
  obtain ⟨W2, hW2⟩ : ∃ W2, W2 = ((w1.setCell ⟨w.heap.size, 0, none⟩ (.int .i64 0)).setCell ⟨w.heap.size, 1, none⟩ (.int .i64 0)).setCell ⟨w.heap.size, 2, none⟩ (.string ⟨#[]⟩) := ⟨_, rfl⟩
  rw [← hW2] at HF R0 R1 R2 ⊢
  have r0 := R0.out
  have r1 := R1.out
  have r2 := R2.out
  clear hW2 p0 p1 p2 p3 p4 p5
  exact bodyPost_ret (v := .tuple #[.agg #[.int .i64 0, .int .i64 0, .string ⟨#[]⟩], .int .i64 0, .bool false]) (by simp [results, Try.results15, go_sem, r0, r1, r2]) rfl ⟨ret_v (by rw [HR.out]; rfl), HF.out⟩

set_option maxRecDepth 100000 in
set_option maxHeartbeats 2000000 in
theorem refGet_yes (A : Option Addr) (b o : Nat) (hA : A = some ⟨b, o, none⟩) (k : Int) (t : List Int) (c : Nat) (w : World) (h : SlB w A (k :: t) c) (n u : Nat) (hg : getS t = some (n, u)) : Calls Try.prog 15 #[.slice A (k :: t).length c] w (Gots (k :: t) w) := by
  have hm := h.2.2.2
  have hc := h.2.1
  unfold maxLen at hm
  rw [List.length_cons] at hc ⊢
  have htb : ∀ x ∈ t, (0 : Int) ≤ x ∧ x < 256 := fun x hx => h.1.1 x (List.mem_cons_of_mem _ hx)
  have hk := h.1.1 k (by simp)
  obtain ⟨hn, hu, hpu⟩ := (getS_iff t htb n u).1 hg
  have hu10 : u ≤ 10 := by
    have h10 := putL_len64 hn
    rw [hpu, List.length_take] at h10
    omega
  clear hpu
  have hB := (Below.refl w.heap.size w).alloc (Nat.le_refl _) (.cells #[.int .i64 0, .int .i64 0, .string ⟨#[]⟩] 23)
  have hr := getP_read (k := k) hg hn
  have hsl := fun W => slice_1 W A t.length c
  have hd := (Cut.slB_drop h 1 (by simp)).kept hB
  have hcell : w.cell? ⟨b, o, none⟩ = some (.int .u8 k) := by
    rw [hA] at h
    have h0 := isB_cell h.1 0 (by simp)
    rw [Nat.add_zero, List.getD_cons_zero] at h0
    exact h0
  have hix : ∀ W, (Instr.indexAt 24 (.slice A (t.length + 1) c) (.int .i64 0)).run Try.prog W = .ok (.pointer (some ⟨b, o, none⟩)) W := fun W => by
    rw [hA]
    exact index_0 W b o _ c (by omega)
  obtain ⟨D, hD⟩ : ∃ D, D = dropA A 1 c := ⟨_, rfl⟩
  rw [← hD] at hsl hd
  have hGet := LeG.refGet_any D t (c - 1) _ hd.2.1 (by omega) hd.1
  rw [hg] at hGet
  have HG := Lib.hid hGet
  have HS := Lib.hid h
  obtain ⟨L, hL⟩ : ∃ L, L = t.length := ⟨_, rfl⟩
  have HL := Lib.hid hL
  rw [← hL] at hsl HG hc hu ⊢
  simp only [← hL] at hix
  have HR := Lib.hid hr
  have HC := Lib.hid hcell
  have HX := Lib.hid (bx_new w (.int .i64 0) (.int .i64 0) (.string ⟨#[]⟩))
  have HB := Lib.hid hB
  clear hA hB hr hD hd hGet hg hL h hcell htb
  go_enter Try.func15, Try.ntmps15
  go_wp2_with fail
  refine HG.out.mono ?_
  rintro e w1 ⟨rfl, hb1⟩
  simp only [LeG.gotV]
  have HB1 := Lib.hid (bt HB.out hb1)
  have HX1 := Lib.hid (HX.out.kept hb1)
  have hc1 : w1.cell? ⟨b, o, none⟩ = some (.int .u8 k) := by
    rw [HB1.out.cell (World.block_lt_of_cell? w _ HC.out)]
    exact HC.out
  clear HG hb1 HB HX HC
  by_cases k0 : k = 0
  · subst k0
    have HZ := Lib.hid (fun W => refZag_any (n : Int) W (by omega) (by omega))
    go_wp2_with fail
    refine (HZ.out _).mono ?_
    rintro e w2 ⟨rfl, rfl⟩
    go_wp2_with fail
    have HB5 := Lib.hid ((Below.refl w1.heap.size w1).alloc (Nat.le_refl _) (.cells #[.int .i64 0, .int .i64 (zag n), .string ⟨#[]⟩] 23))
    have HBk := Lib.hid (bx_new w1 (.int .i64 0) (.int .i64 (zag n)) (.string ⟨#[]⟩))
    obtain ⟨bk, hbk⟩ : ∃ bk, bk = w1.heap.size := ⟨_, rfl⟩
    obtain ⟨w5, hw5⟩ : ∃ w5, w5 = w1.alloc (.cells #[.int .i64 0, .int .i64 (zag n), .string ⟨#[]⟩] 23) := ⟨_, rfl⟩
    rw [← hw5] at HBk HB5 ⊢
    rw [← hbk] at HBk ⊢
    obtain ⟨⟨q0, q1, q2⟩, _⟩ := HBk.out
    clear hbk hw5 hc1
    go_wp2_with fail
    refine (refMay_any 0 (zag n) e0 _).mono ?_
    rintro e w6 ⟨rfl, hb6⟩
    have hx := HX1.out.kept (bt HB5.out hb6)
    have HBB := Lib.hid (bt HB5.out hb6)
    have HBk6 := Lib.hid (HBk.out.kept hb6)
    clear q0 q1 q2 hb6 HB5 HBk
    by_cases hmay : May ⟨0, (zag n), e0⟩
    · rw [decide_eq_true hmay]
      have HN := Lib.hid (show gotP (getP (0 :: t)) = (⟨0, (zag n), e0⟩, 1 + u + 0, true) from by rw [HR.out, if_pos ⟨by first | exact rfl | exact trivial, hmay⟩]; rfl)
      have hst := bx_store hx (.int .i64 0) (.int .i64 (zag n)) (.string ⟨#[]⟩)
      obtain ⟨⟨r0, r1, r2⟩, _⟩ := hst
      have R0 := Lib.hid r0
      have R1 := Lib.hid r1
      have R2 := Lib.hid r2
      have HF := Lib.hid (stored3 (bt HB1.out HBB.out) (Nat.le_refl _) (.int .i64 0) (.int .i64 (zag n)) (.string ⟨#[]⟩))
      obtain ⟨⟨p0, p1, p2⟩, p3, p4, p5⟩ := hx
      obtain ⟨⟨q0, q1, q2⟩, _⟩ := HBk6.out
      clear r0 r1 r2 hmay
      go_wp2_with fail
      obtain ⟨W2, hW2⟩ : ∃ W2, W2 = ((w6.setCell ⟨w.heap.size, 0, none⟩ (.int .i64 0)).setCell ⟨w.heap.size, 1, none⟩ (.int .i64 (zag n))).setCell ⟨w.heap.size, 2, none⟩ (.string ⟨#[]⟩) := ⟨_, rfl⟩
      rw [← hW2] at HF R0 R1 R2 ⊢
      have r0 := R0.out
      have r1 := R1.out
      have r2 := R2.out
      clear hW2 p0 p1 p2 p3 p4 p5 q0 q1 q2
      have hcast : ((1 + u + 0 : Nat) : Int) = 1 + (u : Int) := by omega
      exact bodyPost_ret (v := .tuple #[.agg #[.int .i64 0, .int .i64 (zag n), .string ⟨#[]⟩], .int .i64 (1 + (u : Int)), .bool true]) (by simp [results, Try.results15, go_sem, r0, r1, r2]) rfl ⟨ret_v (by rw [HN.out, got3]; simp only [hcast] <;> rfl), HF.out⟩
    · rw [decide_eq_false hmay]
      have HN := Lib.hid (show gotP (getP (0 :: t)) = (⟨0, 0, e0⟩, 0, false) from by rw [HR.out, if_neg (fun h => hmay h.2)]; rfl)
      clear hmay
      have hst := bx_store hx (.int .i64 0) (.int .i64 0) (.string ⟨#[]⟩)
      obtain ⟨⟨r0, r1, r2⟩, _⟩ := hst
      have R0 := Lib.hid r0
      have R1 := Lib.hid r1
      have R2 := Lib.hid r2
      have HF := Lib.hid (stored3 (bt HB1.out HBB.out) (Nat.le_refl _) (.int .i64 0) (.int .i64 0) (.string ⟨#[]⟩))
      obtain ⟨⟨p0, p1, p2⟩, p3, p4, p5⟩ := hx
      clear r0 r1 r2
      go_wp2_with fail
      obtain ⟨W2, hW2⟩ : ∃ W2, W2 = (((w6).setCell ⟨w.heap.size, 0, none⟩ (.int .i64 0)).setCell ⟨w.heap.size, 1, none⟩ (.int .i64 0)).setCell ⟨w.heap.size, 2, none⟩ (.string ⟨#[]⟩) := ⟨_, rfl⟩
      rw [← hW2] at HF R0 R1 R2 ⊢
      have r0 := R0.out
      have r1 := R1.out
      have r2 := R2.out
      clear hW2 p0 p1 p2 p3 p4 p5
      exact bodyPost_ret (v := .tuple #[.agg #[.int .i64 0, .int .i64 0, .string ⟨#[]⟩], .int .i64 0, .bool false]) (by simp [results, Try.results15, go_sem, r0, r1, r2]) rfl ⟨ret_v (by rw [HN.out]; rfl), HF.out⟩
  · by_cases k2 : k = 2
    · subst k2
      by_cases h40 : n ≤ 40
      · have hw : wrap64 (n : Int) = n := IntWalk.wrap64_in _ (by omega)
        by_cases hfit : n ≤ L - u
        · have hs2 := fun W => Cut.slice_2 W A (L + 1) c (1 + u) (1 + u + n) (by omega) (by omega)
          have hcut := ((Cut.slB_cut HS.out (1 + u) (1 + u + n) c (by omega) (by omega) (Nat.le_refl _) (by rw [List.length_cons, ← HL.out]; omega)).kept HB1.out).kept ((Below.refl w1.heap.size w1).alloc (Nat.le_refl _) (.cells #[.int .i64 2, .int .i64 0, .string ⟨#[]⟩] 23))
          have hcv := conv_any hcut.1 (c - (1 + u)) 9 Try.underlying9
          have hln : ((List.drop (1 + u) (2 :: t)).take (1 + u + n - (1 + u))).length = n := by rw [List.length_take, List.length_drop, List.length_cons, ← HL.out]; omega
          rw [hln] at hcv
          rw [show (List.drop (1 + u) (2 :: t)).take (1 + u + n - (1 + u)) = (t.drop u).take n from by rw [Nat.add_comm 1 u, List.drop_succ_cons]; congr 1; omega] at hcv
          simp only [show 1 + u + n - (1 + u) = n from by omega, show ((1 + u : Nat) : Int) = 1 + (u : Int) from by omega, show ((1 + u + n : Nat) : Int) = 1 + (u : Int) + (n : Int) from by omega] at hs2
          have hrd : rdV 2 n (t.drop u) = (⟨2, 0, strOfNums ((t.drop u).take n)⟩, n, true) := by rw [rdV, if_neg k0, if_pos rfl, if_pos ⟨h40, by rw [List.length_drop, ← HL.out]; exact hfit⟩]
          rw [hrd] at HR
          clear hrd
          obtain ⟨S, hS⟩ : ∃ S, S = strOfNums ((t.drop u).take n) := ⟨_, rfl⟩
          rw [← hS] at hcv HR
          obtain ⟨E, hE⟩ : ∃ E, E = dropA A (1 + u) c := ⟨_, rfl⟩
          rw [← hE] at hcv
          simp only [← hE] at hs2
          clear hS hE hcut hln
          go_wp2_with fail
          have HB5 := Lib.hid ((Below.refl w1.heap.size w1).alloc (Nat.le_refl _) (.cells #[.int .i64 2, .int .i64 0, .string S] 23))
          have HBk := Lib.hid (bx_new w1 (.int .i64 2) (.int .i64 0) (.string S))
          obtain ⟨bk, hbk⟩ : ∃ bk, bk = w1.heap.size := ⟨_, rfl⟩
          obtain ⟨w5, hw5⟩ : ∃ w5, w5 = w1.alloc (.cells #[.int .i64 2, .int .i64 0, .string S] 23) := ⟨_, rfl⟩
          rw [← hw5] at HBk HB5 ⊢
          rw [← hbk] at HBk ⊢
          obtain ⟨⟨q0, q1, q2⟩, _⟩ := HBk.out
          clear hbk hw5 hc1
          go_wp2_with fail
          refine (refMay_any 2 0 S _).mono ?_
          rintro e w6 ⟨rfl, hb6⟩
          have hx := HX1.out.kept (bt HB5.out hb6)
          have HBB := Lib.hid (bt HB5.out hb6)
          have HBk6 := Lib.hid (HBk.out.kept hb6)
          clear q0 q1 q2 hb6 HB5 HBk
          by_cases hmay : May ⟨2, 0, S⟩
          · rw [decide_eq_true hmay]
            have HN := Lib.hid (show gotP (getP (2 :: t)) = (⟨2, 0, S⟩, 1 + u + n, true) from by rw [HR.out, if_pos ⟨by first | exact rfl | exact trivial, hmay⟩]; rfl)
            have hst := bx_store hx (.int .i64 2) (.int .i64 0) (.string S)
            obtain ⟨⟨r0, r1, r2⟩, _⟩ := hst
            have R0 := Lib.hid r0
            have R1 := Lib.hid r1
            have R2 := Lib.hid r2
            have HF := Lib.hid (stored3 (bt HB1.out HBB.out) (Nat.le_refl _) (.int .i64 2) (.int .i64 0) (.string S))
            obtain ⟨⟨p0, p1, p2⟩, p3, p4, p5⟩ := hx
            obtain ⟨⟨q0, q1, q2⟩, _⟩ := HBk6.out
            clear r0 r1 r2 hmay
            go_wp2_with fail
            obtain ⟨W2, hW2⟩ : ∃ W2, W2 = ((w6.setCell ⟨w.heap.size, 0, none⟩ (.int .i64 2)).setCell ⟨w.heap.size, 1, none⟩ (.int .i64 0)).setCell ⟨w.heap.size, 2, none⟩ (.string S) := ⟨_, rfl⟩
            rw [← hW2] at HF R0 R1 R2 ⊢
            have r0 := R0.out
            have r1 := R1.out
            have r2 := R2.out
            clear hW2 p0 p1 p2 p3 p4 p5 q0 q1 q2
            have hcast : ((1 + u + n : Nat) : Int) = 1 + (u : Int) + (n : Int) := by omega
            exact bodyPost_ret (v := .tuple #[.agg #[.int .i64 2, .int .i64 0, .string S], .int .i64 (1 + (u : Int) + (n : Int)), .bool true]) (by simp [results, Try.results15, go_sem, r0, r1, r2]) rfl ⟨ret_v (by rw [HN.out, got3]; simp only [hcast] <;> rfl), HF.out⟩
          · rw [decide_eq_false hmay]
            have HN := Lib.hid (show gotP (getP (2 :: t)) = (⟨0, 0, e0⟩, 0, false) from by rw [HR.out, if_neg (fun h => hmay h.2)]; rfl)
            clear hmay
            have hst := bx_store hx (.int .i64 0) (.int .i64 0) (.string ⟨#[]⟩)
            obtain ⟨⟨r0, r1, r2⟩, _⟩ := hst
            have R0 := Lib.hid r0
            have R1 := Lib.hid r1
            have R2 := Lib.hid r2
            have HF := Lib.hid (stored3 (bt HB1.out HBB.out) (Nat.le_refl _) (.int .i64 0) (.int .i64 0) (.string ⟨#[]⟩))
            obtain ⟨⟨p0, p1, p2⟩, p3, p4, p5⟩ := hx
            clear r0 r1 r2
            go_wp2_with fail
            obtain ⟨W2, hW2⟩ : ∃ W2, W2 = (((w6).setCell ⟨w.heap.size, 0, none⟩ (.int .i64 0)).setCell ⟨w.heap.size, 1, none⟩ (.int .i64 0)).setCell ⟨w.heap.size, 2, none⟩ (.string ⟨#[]⟩) := ⟨_, rfl⟩
            rw [← hW2] at HF R0 R1 R2 ⊢
            have r0 := R0.out
            have r1 := R1.out
            have r2 := R2.out
            clear hW2 p0 p1 p2 p3 p4 p5
            exact bodyPost_ret (v := .tuple #[.agg #[.int .i64 0, .int .i64 0, .string ⟨#[]⟩], .int .i64 0, .bool false]) (by simp [results, Try.results15, go_sem, r0, r1, r2]) rfl ⟨ret_v (by rw [HN.out]; rfl), HF.out⟩
        · have hrd : rdV 2 n (t.drop u) = (⟨0, 0, e0⟩, 0, false) := by rw [rdV, if_neg k0, if_pos rfl, if_neg (fun h => hfit (by have := h.2; rw [List.length_drop, ← HL.out] at this; exact this))]
          rw [hrd] at HR
          have HN := Lib.hid (show gotP (getP (2 :: t)) = (⟨0, 0, e0⟩, 0, false) from by rw [HR.out, if_neg (fun h => by cases h.1)]; rfl)
          have HBB := Lib.hid ((Below.refl w1.heap.size w1).alloc (Nat.le_refl _) (.cells #[.int .i64 2, .int .i64 n, .string ⟨#[]⟩] 23))
          have hx := HX1.out.kept HBB.out
          have hst := bx_store hx (.int .i64 0) (.int .i64 0) (.string ⟨#[]⟩)
          obtain ⟨⟨r0, r1, r2⟩, _⟩ := hst
          have R0 := Lib.hid r0
          have R1 := Lib.hid r1
          have R2 := Lib.hid r2
          have HF := Lib.hid (stored3 (bt HB1.out HBB.out) (Nat.le_refl _) (.int .i64 0) (.int .i64 0) (.string ⟨#[]⟩))
          obtain ⟨⟨p0, p1, p2⟩, p3, p4, p5⟩ := hx
          clear r0 r1 r2
          go_wp2_with fail
          obtain ⟨W2, hW2⟩ : ∃ W2, W2 = (((w1.alloc (.cells #[.int .i64 2, .int .i64 n, .string ⟨#[]⟩] 23)).setCell ⟨w.heap.size, 0, none⟩ (.int .i64 0)).setCell ⟨w.heap.size, 1, none⟩ (.int .i64 0)).setCell ⟨w.heap.size, 2, none⟩ (.string ⟨#[]⟩) := ⟨_, rfl⟩
          rw [← hW2] at HF R0 R1 R2 ⊢
          have r0 := R0.out
          have r1 := R1.out
          have r2 := R2.out
          clear hW2 p0 p1 p2 p3 p4 p5
          exact bodyPost_ret (v := .tuple #[.agg #[.int .i64 0, .int .i64 0, .string ⟨#[]⟩], .int .i64 0, .bool false]) (by simp [results, Try.results15, go_sem, r0, r1, r2]) rfl ⟨ret_v (by rw [HN.out]; rfl), HF.out⟩
      · have hrd : rdV 2 n (t.drop u) = (⟨0, 0, e0⟩, 0, false) := by rw [rdV, if_neg k0, if_pos rfl, if_neg (fun h => h40 h.1)]
        rw [hrd] at HR
        have HN := Lib.hid (show gotP (getP (2 :: t)) = (⟨0, 0, e0⟩, 0, false) from by rw [HR.out, if_neg (fun h => by cases h.1)]; rfl)
        have HBB := Lib.hid ((Below.refl w1.heap.size w1).alloc (Nat.le_refl _) (.cells #[.int .i64 2, .int .i64 (wrap64 n), .string ⟨#[]⟩] 23))
        have hx := HX1.out.kept HBB.out
        have hst := bx_store hx (.int .i64 0) (.int .i64 0) (.string ⟨#[]⟩)
        obtain ⟨⟨r0, r1, r2⟩, _⟩ := hst
        have R0 := Lib.hid r0
        have R1 := Lib.hid r1
        have R2 := Lib.hid r2
        have HF := Lib.hid (stored3 (bt HB1.out HBB.out) (Nat.le_refl _) (.int .i64 0) (.int .i64 0) (.string ⟨#[]⟩))
        obtain ⟨⟨p0, p1, p2⟩, p3, p4, p5⟩ := hx
        clear r0 r1 r2
        go_wp2_with fail
        obtain ⟨W2, hW2⟩ : ∃ W2, W2 = (((w1.alloc (.cells #[.int .i64 2, .int .i64 (wrap64 n), .string ⟨#[]⟩] 23)).setCell ⟨w.heap.size, 0, none⟩ (.int .i64 0)).setCell ⟨w.heap.size, 1, none⟩ (.int .i64 0)).setCell ⟨w.heap.size, 2, none⟩ (.string ⟨#[]⟩) := ⟨_, rfl⟩
        rw [← hW2] at HF R0 R1 R2 ⊢
        have r0 := R0.out
        have r1 := R1.out
        have r2 := R2.out
        clear hW2 p0 p1 p2 p3 p4 p5
        exact bodyPost_ret (v := .tuple #[.agg #[.int .i64 0, .int .i64 0, .string ⟨#[]⟩], .int .i64 0, .bool false]) (by simp [results, Try.results15, go_sem, r0, r1, r2]) rfl ⟨ret_v (by rw [HN.out]; rfl), HF.out⟩
    · rw [show rdV k n (t.drop u) = (⟨k, wrap64 n, e0⟩, 0, true) from by rw [rdV, if_neg k0, if_neg k2]] at HR
      have b0 : (k == 0) = false := by simpa using k0
      have b2 : (k == 2) = false := by simpa using k2
      go_wp2_with fail
      have HB5 := Lib.hid ((Below.refl w1.heap.size w1).alloc (Nat.le_refl _) (.cells #[.int .i64 k, .int .i64 (wrap64 n), .string ⟨#[]⟩] 23))
      have HBk := Lib.hid (bx_new w1 (.int .i64 k) (.int .i64 (wrap64 n)) (.string ⟨#[]⟩))
      obtain ⟨bk, hbk⟩ : ∃ bk, bk = w1.heap.size := ⟨_, rfl⟩
      obtain ⟨w5, hw5⟩ : ∃ w5, w5 = w1.alloc (.cells #[.int .i64 k, .int .i64 (wrap64 n), .string ⟨#[]⟩] 23) := ⟨_, rfl⟩
      rw [← hw5] at HBk HB5 ⊢
      rw [← hbk] at HBk ⊢
      obtain ⟨⟨q0, q1, q2⟩, _⟩ := HBk.out
      clear hbk hw5 hc1
      go_wp2_with fail
      refine (refMay_any k (wrap64 n) e0 _).mono ?_
      rintro e w6 ⟨rfl, hb6⟩
      have hx := HX1.out.kept (bt HB5.out hb6)
      have HBB := Lib.hid (bt HB5.out hb6)
      have HBk6 := Lib.hid (HBk.out.kept hb6)
      clear q0 q1 q2 hb6 HB5 HBk
      by_cases hmay : May ⟨k, (wrap64 n), e0⟩
      · rw [decide_eq_true hmay]
        have HN := Lib.hid (show gotP (getP (k :: t)) = (⟨k, (wrap64 n), e0⟩, 1 + u + 0, true) from by rw [HR.out, if_pos ⟨by first | exact rfl | exact trivial, hmay⟩]; rfl)
        have hst := bx_store hx (.int .i64 k) (.int .i64 (wrap64 n)) (.string ⟨#[]⟩)
        obtain ⟨⟨r0, r1, r2⟩, _⟩ := hst
        have R0 := Lib.hid r0
        have R1 := Lib.hid r1
        have R2 := Lib.hid r2
        have HF := Lib.hid (stored3 (bt HB1.out HBB.out) (Nat.le_refl _) (.int .i64 k) (.int .i64 (wrap64 n)) (.string ⟨#[]⟩))
        obtain ⟨⟨p0, p1, p2⟩, p3, p4, p5⟩ := hx
        obtain ⟨⟨q0, q1, q2⟩, _⟩ := HBk6.out
        clear r0 r1 r2 hmay
        go_wp2_with fail
        obtain ⟨W2, hW2⟩ : ∃ W2, W2 = ((w6.setCell ⟨w.heap.size, 0, none⟩ (.int .i64 k)).setCell ⟨w.heap.size, 1, none⟩ (.int .i64 (wrap64 n))).setCell ⟨w.heap.size, 2, none⟩ (.string ⟨#[]⟩) := ⟨_, rfl⟩
        rw [← hW2] at HF R0 R1 R2 ⊢
        have r0 := R0.out
        have r1 := R1.out
        have r2 := R2.out
        clear hW2 p0 p1 p2 p3 p4 p5 q0 q1 q2
        have hcast : ((1 + u + 0 : Nat) : Int) = 1 + (u : Int) := by omega
        exact bodyPost_ret (v := .tuple #[.agg #[.int .i64 k, .int .i64 (wrap64 n), .string ⟨#[]⟩], .int .i64 (1 + (u : Int)), .bool true]) (by simp [results, Try.results15, go_sem, r0, r1, r2]) rfl ⟨ret_v (by rw [HN.out, got3]; simp only [hcast] <;> rfl), HF.out⟩
      · rw [decide_eq_false hmay]
        have HN := Lib.hid (show gotP (getP (k :: t)) = (⟨0, 0, e0⟩, 0, false) from by rw [HR.out, if_neg (fun h => hmay h.2)]; rfl)
        clear hmay
        have hst := bx_store hx (.int .i64 0) (.int .i64 0) (.string ⟨#[]⟩)
        obtain ⟨⟨r0, r1, r2⟩, _⟩ := hst
        have R0 := Lib.hid r0
        have R1 := Lib.hid r1
        have R2 := Lib.hid r2
        have HF := Lib.hid (stored3 (bt HB1.out HBB.out) (Nat.le_refl _) (.int .i64 0) (.int .i64 0) (.string ⟨#[]⟩))
        obtain ⟨⟨p0, p1, p2⟩, p3, p4, p5⟩ := hx
        clear r0 r1 r2
        go_wp2_with fail
        obtain ⟨W2, hW2⟩ : ∃ W2, W2 = (((w6).setCell ⟨w.heap.size, 0, none⟩ (.int .i64 0)).setCell ⟨w.heap.size, 1, none⟩ (.int .i64 0)).setCell ⟨w.heap.size, 2, none⟩ (.string ⟨#[]⟩) := ⟨_, rfl⟩
        rw [← hW2] at HF R0 R1 R2 ⊢
        have r0 := R0.out
        have r1 := R1.out
        have r2 := R2.out
        clear hW2 p0 p1 p2 p3 p4 p5
        exact bodyPost_ret (v := .tuple #[.agg #[.int .i64 0, .int .i64 0, .string ⟨#[]⟩], .int .i64 0, .bool false]) (by simp [results, Try.results15, go_sem, r0, r1, r2]) rfl ⟨ret_v (by rw [HN.out]; rfl), HF.out⟩

/-- Get of any bytes. -/
theorem refGet_any (A : Option Addr) (xs : List Int) (c : Nat) (w : World) (h : SlB w A xs c) : Calls Try.prog 15 #[.slice A xs.length c] w (Gots xs w) := by
  cases xs with
  | nil => exact refGet_nil A c w
  | cons k t =>
    cases hg : getS t with
    | none => exact refGet_no A k t c w h hg
    | some p =>
      obtain ⟨n, u⟩ := p
      obtain ⟨b, o, hA, _⟩ := h.1.2 (by simp)
      exact refGet_yes A b o hA k t c w h n u hg
end Go.Proofs.Ytkjfofljjgifdaa.Va
