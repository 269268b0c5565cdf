/- Several texts in one: what this layer has; what each asks is said at each theorem. -/
import Derived.Test.YtbmdkibmfkmjoaaGreatTcA
import Derived.Test.YtbmdkibmfkmjoaaGreatValueRefMay
import Derived.Test.YtbmdkibmfkmjoaaGreatExprPile
import Derived.Test.YtbmdkibmfkmjoaaGreatSchemaMath
import Derived.Test.YtbmdkibmfkmjoaaGreatStrCore
import Derived.Laws.RangeAny
import Derived.Test.YtbmdkibmfkmjoaaGreatRegionB
import Derived.Test.YtbmdkibmfkmjoaaGreatBMem
import Derived.Test.YtbmdkibmfkmjoaaGreatSlB
import Derived.Test.YtbmdkibmfkmjoaaGreatIsRow
import Derived.Maps.AppendAt
import Derived.Test.YtbmdkibmfkmjoaaGreatRowG
import Derived.Test.YtbmdkibmfkmjoaaGreatEventMath
import Derived.Test.YtbmdkibmfkmjoaaGreatOpRow
import Derived.Test.YtbmdkibmfkmjoaaGreatLeGet
import Derived.Test.YtbmdkibmfkmjoaaGreatBx
import Derived.Test.YtbmdkibmfkmjoaaGreatLeMem
import Derived.Test.YtbmdkibmfkmjoaaGreatValueHeld
import Derived.BigQuiet

namespace Go.Proofs.YtbmdkibmfkmjoaaGreat.Va
open Go.RowKit Go.Proofs.YtbmdkibmfkmjoaaGreat.BM Go.Proofs.YtbmdkibmfkmjoaaGreat.LM Go.Proofs.YtbmdkibmfkmjoaaGreat.LeM Go.Proofs.YtbmdkibmfkmjoaaGreat.LeZ Go.Proofs.YtbmdkibmfkmjoaaGreat.VaM

set_option maxRecDepth 100000 in
theorem refGet_nil (A : Option Addr) (c : Nat) (w : World) : Calls Tryz.prog 89 #[.slice A 0 c] w (Gots [] w) := by
  go_enter Tryz.func89, Tryz.ntmps89
  go_wp2_with fail
  obtain ⟨⟨r0, r1, r2⟩, _⟩ := bx_new w (.int .i64 0) (.int .i64 0) (.string ⟨#[]⟩)
  exact bodyPost_ret (v := .tuple #[.agg #[.int .i64 0, .int .i64 0, .string ⟨#[]⟩], .int .i64 0, .bool false]) (by simp [results, Tryz.results89, go_sem]) rfl ⟨rfl, (Below.refl _ _).alloc (Nat.le_refl _) _⟩

set_option maxRecDepth 100000 in
theorem refGet_no (A : Option Addr) (k : Int) (t : List Int) (c : Nat) (w : World) (h : SlB w A (k :: t) c) (hg : getS t = none) : Calls Tryz.prog 89 #[.slice A (k :: t).length c] w (Gots (k :: t) w) := by
  have hm := h.2.2.2
  have hc := h.2.1
  unfold maxLen at hm
  rw [List.length_cons] at hc ⊢
  have hB := (Below.refl w.heap.size w).alloc (Nat.le_refl _) (.cells #[.int .i64 0, .int .i64 0, .string ⟨#[]⟩] 78)
  have hr : gotP (getP (k :: t)) = (⟨0, 0, e0⟩, 0, false) := by
    rw [show getP (k :: t) = getB k t (getS t) from rfl, hg]
    rfl
  have hsl := fun W => slice_1 W A t.length c
  obtain ⟨D, hD⟩ : ∃ D, D = dropA A 1 c := ⟨_, rfl⟩
  have hd := (Cut.slB_drop h 1 (by simp)).kept hB
  rw [← hD] at hsl hd
  have hGet := LeG.refGet_any D t (c - 1) _ hd.2.1 (by omega) hd.1
  rw [hg] at hGet
  have HG := Lib.hid hGet
  have HR := Lib.hid hr
  have HX := Lib.hid (bx_new w (.int .i64 0) (.int .i64 0) (.string ⟨#[]⟩))
  obtain ⟨L, hL⟩ : ∃ L, L = t.length := ⟨_, rfl⟩
  rw [← hL] at hsl HG hc ⊢
  have HB := Lib.hid hB
  clear hB hr hD hd hGet hg hL h
  go_enter Tryz.func89, Tryz.ntmps89
  go_wp2_with fail
  refine HG.out.mono ?_
  rintro e w1 ⟨rfl, hb1⟩
  simp only [LeG.gotV]
  have hx := HX.out.kept hb1
  have hst := bx_store hx (.int .i64 0) (.int .i64 0) (.string ⟨#[]⟩)
  obtain ⟨⟨r0, r1, r2⟩, _⟩ := hst
  have R0 := Lib.hid r0
  have R1 := Lib.hid r1
  have R2 := Lib.hid r2
  have HF := Lib.hid (stored3 (bt HB.out hb1) (Nat.le_refl _) (.int .i64 0) (.int .i64 0) (.string ⟨#[]⟩))
  obtain ⟨⟨p0, p1, p2⟩, p3, p4, p5⟩ := hx
  clear r0 r1 r2 hb1
  go_wp2_with fail
  obtain ⟨W2, hW2⟩ : ∃ W2, W2 = ((w1.setCell ⟨w.heap.size, 0, none⟩ (.int .i64 0)).setCell ⟨w.heap.size, 1, none⟩ (.int .i64 0)).setCell ⟨w.heap.size, 2, none⟩ (.string ⟨#[]⟩) := ⟨_, rfl⟩
  rw [← hW2] at HF R0 R1 R2 ⊢
  have r0 := R0.out
  have r1 := R1.out
  have r2 := R2.out
  clear hW2 p0 p1 p2 p3 p4 p5
  exact bodyPost_ret (v := .tuple #[.agg #[.int .i64 0, .int .i64 0, .string ⟨#[]⟩], .int .i64 0, .bool false]) (by simp [results, Tryz.results89, go_sem, r0, r1, r2]) rfl ⟨ret_v (by rw [HR.out]; rfl), HF.out⟩

set_option maxRecDepth 100000 in
set_option maxHeartbeats 2000000 in
theorem refGet_yes (A : Option Addr) (b o : Nat) (hA : A = some ⟨b, o, none⟩) (k : Int) (t : List Int) (c : Nat) (w : World) (h : SlB w A (k :: t) c) (n u : Nat) (hg : getS t = some (n, u)) : Calls Tryz.prog 89 #[.slice A (k :: t).length c] w (Gots (k :: t) w) := by
  have hm := h.2.2.2
  have hc := h.2.1
  unfold maxLen at hm
  rw [List.length_cons] at hc ⊢
  have htb : ∀ x ∈ t, (0 : Int) ≤ x ∧ x < 256 := fun x hx => h.1.1 x (List.mem_cons_of_mem _ hx)
  have hk := h.1.1 k (by simp)
  obtain ⟨hn, hu, hpu⟩ := (getS_iff t htb n u).1 hg
  have hu10 : u ≤ 10 := by
    have h10 := putL_len64 hn
    rw [hpu, List.length_take] at h10
    omega
  clear hpu
  have hB := (Below.refl w.heap.size w).alloc (Nat.le_refl _) (.cells #[.int .i64 0, .int .i64 0, .string ⟨#[]⟩] 78)
  have hr := getP_read (k := k) hg hn
  have hsl := fun W => slice_1 W A t.length c
  have hd := (Cut.slB_drop h 1 (by simp)).kept hB
  have hcell : w.cell? ⟨b, o, none⟩ = some (.int .u8 k) := by
    rw [hA] at h
    have h0 := isB_cell h.1 0 (by simp)
    rw [Nat.add_zero, List.getD_cons_zero] at h0
    exact h0
  have hix : ∀ W, (Instr.indexAt 26 (.slice A (t.length + 1) c) (.int .i64 0)).run Tryz.prog W = .ok (.pointer (some ⟨b, o, none⟩)) W := fun W => by
    rw [hA]
    exact index_0 W b o _ c (by omega)
  obtain ⟨D, hD⟩ : ∃ D, D = dropA A 1 c := ⟨_, rfl⟩
  rw [← hD] at hsl hd
  have hGet := LeG.refGet_any D t (c - 1) _ hd.2.1 (by omega) hd.1
  rw [hg] at hGet
  have HG := Lib.hid hGet
  have HS := Lib.hid h
  obtain ⟨L, hL⟩ : ∃ L, L = t.length := ⟨_, rfl⟩
  have HL := Lib.hid hL
  rw [← hL] at hsl HG hc hu ⊢
  simp only [← hL] at hix
  have HR := Lib.hid hr
  have HC := Lib.hid hcell
  have HX := Lib.hid (bx_new w (.int .i64 0) (.int .i64 0) (.string ⟨#[]⟩))
  have HB := Lib.hid hB
  clear hA hB hr hD hd hGet hg hL h hcell htb
  go_enter Tryz.func89, Tryz.ntmps89
  go_wp2_with fail
  refine HG.out.mono ?_
  rintro e w1 ⟨rfl, hb1⟩
  simp only [LeG.gotV]
  have HB1 := Lib.hid (bt HB.out hb1)
  have HX1 := Lib.hid (HX.out.kept hb1)
  have hc1 : w1.cell? ⟨b, o, none⟩ = some (.int .u8 k) := by
    rw [HB1.out.cell (World.block_lt_of_cell? w _ HC.out)]
    exact HC.out
  clear HG hb1 HB HX HC
  by_cases k0 : k = 0
  · subst k0
    have HZ := Lib.hid (fun W => refZag_any (n : Int) W (by omega) (by omega))
    go_wp2_with fail
    refine (HZ.out _).mono ?_
    rintro e w2 ⟨rfl, rfl⟩
    go_wp2_with fail
    have HB5 := Lib.hid ((Below.refl w1.heap.size w1).alloc (Nat.le_refl _) (.cells #[.int .i64 0, .int .i64 (zag n), .string ⟨#[]⟩] 78))
    have HBk := Lib.hid (bx_new w1 (.int .i64 0) (.int .i64 (zag n)) (.string ⟨#[]⟩))
    obtain ⟨bk, hbk⟩ : ∃ bk, bk = w1.heap.size := ⟨_, rfl⟩
    obtain ⟨w5, hw5⟩ : ∃ w5, w5 = w1.alloc (.cells #[.int .i64 0, .int .i64 (zag n), .string ⟨#[]⟩] 78) := ⟨_, rfl⟩
    rw [← hw5] at HBk HB5 ⊢
    rw [← hbk] at HBk ⊢
    obtain ⟨⟨q0, q1, q2⟩, _⟩ := HBk.out
    clear hbk hw5 hc1
    go_wp2_with fail
    refine (refMay_any 0 (zag n) e0 _).mono ?_
    rintro e w6 ⟨rfl, hb6⟩
    have hx := HX1.out.kept (bt HB5.out hb6)
    have HBB := Lib.hid (bt HB5.out hb6)
    have HBk6 := Lib.hid (HBk.out.kept hb6)
    clear q0 q1 q2 hb6 HB5 HBk
    by_cases hmay : May ⟨0, (zag n), e0⟩
    · rw [decide_eq_true hmay]
      have HN := Lib.hid (show gotP (getP (0 :: t)) = (⟨0, (zag n), e0⟩, 1 + u + 0, true) from by rw [HR.out, if_pos ⟨by first | exact rfl | exact trivial, hmay⟩]; rfl)
      have hst := bx_store hx (.int .i64 0) (.int .i64 (zag n)) (.string ⟨#[]⟩)
      obtain ⟨⟨r0, r1, r2⟩, _⟩ := hst
      have R0 := Lib.hid r0
      have R1 := Lib.hid r1
      have R2 := Lib.hid r2
      have HF := Lib.hid (stored3 (bt HB1.out HBB.out) (Nat.le_refl _) (.int .i64 0) (.int .i64 (zag n)) (.string ⟨#[]⟩))
      obtain ⟨⟨p0, p1, p2⟩, p3, p4, p5⟩ := hx
      obtain ⟨⟨q0, q1, q2⟩, _⟩ := HBk6.out
      clear r0 r1 r2 hmay
      go_wp2_with fail
      obtain ⟨W2, hW2⟩ : ∃ W2, W2 = ((w6.setCell ⟨w.heap.size, 0, none⟩ (.int .i64 0)).setCell ⟨w.heap.size, 1, none⟩ (.int .i64 (zag n))).setCell ⟨w.heap.size, 2, none⟩ (.string ⟨#[]⟩) := ⟨_, rfl⟩
      rw [← hW2] at HF R0 R1 R2 ⊢
      have r0 := R0.out
      have r1 := R1.out
      have r2 := R2.out
      clear hW2 p0 p1 p2 p3 p4 p5 q0 q1 q2
      have hcast : ((1 + u + 0 : Nat) : Int) = 1 + (u : Int) := by omega
      exact bodyPost_ret (v := .tuple #[.agg #[.int .i64 0, .int .i64 (zag n), .string ⟨#[]⟩], .int .i64 (1 + (u : Int)), .bool true]) (by simp [results, Tryz.results89, go_sem, r0, r1, r2]) rfl ⟨ret_v (by rw [HN.out, got3]; simp only [hcast] <;> rfl), HF.out⟩
    · rw [decide_eq_false hmay]
      have HN := Lib.hid (show gotP (getP (0 :: t)) = (⟨0, 0, e0⟩, 0, false) from by rw [HR.out, if_neg (fun h => hmay h.2)]; rfl)
      clear hmay
      have hst := bx_store hx (.int .i64 0) (.int .i64 0) (.string ⟨#[]⟩)
      obtain ⟨⟨r0, r1, r2⟩, _⟩ := hst
      have R0 := Lib.hid r0
      have R1 := Lib.hid r1
      have R2 := Lib.hid r2
      have HF := Lib.hid (stored3 (bt HB1.out HBB.out) (Nat.le_refl _) (.int .i64 0) (.int .i64 0) (.string ⟨#[]⟩))
      obtain ⟨⟨p0, p1, p2⟩, p3, p4, p5⟩ := hx
      clear r0 r1 r2
      go_wp2_with fail
      obtain ⟨W2, hW2⟩ : ∃ W2, W2 = (((w6).setCell ⟨w.heap.size, 0, none⟩ (.int .i64 0)).setCell ⟨w.heap.size, 1, none⟩ (.int .i64 0)).setCell ⟨w.heap.size, 2, none⟩ (.string ⟨#[]⟩) := ⟨_, rfl⟩
      rw [← hW2] at HF R0 R1 R2 ⊢
      have r0 := R0.out
      have r1 := R1.out
      have r2 := R2.out
      clear hW2 p0 p1 p2 p3 p4 p5
      exact bodyPost_ret (v := .tuple #[.agg #[.int .i64 0, .int .i64 0, .string ⟨#[]⟩], .int .i64 0, .bool false]) (by simp [results, Tryz.results89, go_sem, r0, r1, r2]) rfl ⟨ret_v (by rw [HN.out]; rfl), HF.out⟩
  · by_cases k2 : k = 2
    · subst k2
      by_cases h40 : n ≤ 40
      · have hw : wrap64 (n : Int) = n := IntWalk.wrap64_in _ (by omega)
        by_cases hfit : n ≤ L - u
        · have hs2 := fun W => Cut.slice_2 W A (L + 1) c (1 + u) (1 + u + n) (by omega) (by omega)
          have hcut := ((Cut.slB_cut HS.out (1 + u) (1 + u + n) c (by omega) (by omega) (Nat.le_refl _) (by rw [List.length_cons, ← HL.out]; omega)).kept HB1.out).kept ((Below.refl w1.heap.size w1).alloc (Nat.le_refl _) (.cells #[.int .i64 2, .int .i64 0, .string ⟨#[]⟩] 78))
          have hcv := conv_any hcut.1 (c - (1 + u)) 9 Tryz.underlying9
          have hln : ((List.drop (1 + u) (2 :: t)).take (1 + u + n - (1 + u))).length = n := by rw [List.length_take, List.length_drop, List.length_cons, ← HL.out]; omega
          rw [hln] at hcv
          rw [show (List.drop (1 + u) (2 :: t)).take (1 + u + n - (1 + u)) = (t.drop u).take n from by rw [Nat.add_comm 1 u, List.drop_succ_cons]; congr 1; omega] at hcv
          simp only [show 1 + u + n - (1 + u) = n from by omega, show ((1 + u : Nat) : Int) = 1 + (u : Int) from by omega, show ((1 + u + n : Nat) : Int) = 1 + (u : Int) + (n : Int) from by omega] at hs2
          have hrd : rdV 2 n (t.drop u) = (⟨2, 0, strOfNums ((t.drop u).take n)⟩, n, true) := by rw [rdV, if_neg k0, if_pos rfl, if_pos ⟨h40, by rw [List.length_drop, ← HL.out]; exact hfit⟩]
          rw [hrd] at HR
          clear hrd
          obtain ⟨S, hS⟩ : ∃ S, S = strOfNums ((t.drop u).take n) := ⟨_, rfl⟩
          rw [← hS] at hcv HR
          obtain ⟨E, hE⟩ : ∃ E, E = dropA A (1 + u) c := ⟨_, rfl⟩
          rw [← hE] at hcv
          simp only [← hE] at hs2
          clear hS hE hcut hln
          go_wp2_with fail
          have HB5 := Lib.hid ((Below.refl w1.heap.size w1).alloc (Nat.le_refl _) (.cells #[.int .i64 2, .int .i64 0, .string S] 78))
          have HBk := Lib.hid (bx_new w1 (.int .i64 2) (.int .i64 0) (.string S))
          obtain ⟨bk, hbk⟩ : ∃ bk, bk = w1.heap.size := ⟨_, rfl⟩
          obtain ⟨w5, hw5⟩ : ∃ w5, w5 = w1.alloc (.cells #[.int .i64 2, .int .i64 0, .string S] 78) := ⟨_, rfl⟩
          rw [← hw5] at HBk HB5 ⊢
          rw [← hbk] at HBk ⊢
          obtain ⟨⟨q0, q1, q2⟩, _⟩ := HBk.out
          clear hbk hw5 hc1
          go_wp2_with fail
          refine (refMay_any 2 0 S _).mono ?_
          rintro e w6 ⟨rfl, hb6⟩
          have hx := HX1.out.kept (bt HB5.out hb6)
          have HBB := Lib.hid (bt HB5.out hb6)
          have HBk6 := Lib.hid (HBk.out.kept hb6)
          clear q0 q1 q2 hb6 HB5 HBk
          by_cases hmay : May ⟨2, 0, S⟩
          · rw [decide_eq_true hmay]
            have HN := Lib.hid (show gotP (getP (2 :: t)) = (⟨2, 0, S⟩, 1 + u + n, true) from by rw [HR.out, if_pos ⟨by first | exact rfl | exact trivial, hmay⟩]; rfl)
            have hst := bx_store hx (.int .i64 2) (.int .i64 0) (.string S)
            obtain ⟨⟨r0, r1, r2⟩, _⟩ := hst
            have R0 := Lib.hid r0
            have R1 := Lib.hid r1
            have R2 := Lib.hid r2
            have HF := Lib.hid (stored3 (bt HB1.out HBB.out) (Nat.le_refl _) (.int .i64 2) (.int .i64 0) (.string S))
            obtain ⟨⟨p0, p1, p2⟩, p3, p4, p5⟩ := hx
            obtain ⟨⟨q0, q1, q2⟩, _⟩ := HBk6.out
            clear r0 r1 r2 hmay
            go_wp2_with fail
            obtain ⟨W2, hW2⟩ : ∃ W2, W2 = ((w6.setCell ⟨w.heap.size, 0, none⟩ (.int .i64 2)).setCell ⟨w.heap.size, 1, none⟩ (.int .i64 0)).setCell ⟨w.heap.size, 2, none⟩ (.string S) := ⟨_, rfl⟩
            rw [← hW2] at HF R0 R1 R2 ⊢
            have r0 := R0.out
            have r1 := R1.out
            have r2 := R2.out
            clear hW2 p0 p1 p2 p3 p4 p5 q0 q1 q2
            have hcast : ((1 + u + n : Nat) : Int) = 1 + (u : Int) + (n : Int) := by omega
            exact bodyPost_ret (v := .tuple #[.agg #[.int .i64 2, .int .i64 0, .string S], .int .i64 (1 + (u : Int) + (n : Int)), .bool true]) (by simp [results, Tryz.results89, go_sem, r0, r1, r2]) rfl ⟨ret_v (by rw [HN.out, got3]; simp only [hcast] <;> rfl), HF.out⟩
          · rw [decide_eq_false hmay]
            have HN := Lib.hid (show gotP (getP (2 :: t)) = (⟨0, 0, e0⟩, 0, false) from by rw [HR.out, if_neg (fun h => hmay h.2)]; rfl)
            clear hmay
            have hst := bx_store hx (.int .i64 0) (.int .i64 0) (.string ⟨#[]⟩)
            obtain ⟨⟨r0, r1, r2⟩, _⟩ := hst
            have R0 := Lib.hid r0
            have R1 := Lib.hid r1
            have R2 := Lib.hid r2
            have HF := Lib.hid (stored3 (bt HB1.out HBB.out) (Nat.le_refl _) (.int .i64 0) (.int .i64 0) (.string ⟨#[]⟩))
            obtain ⟨⟨p0, p1, p2⟩, p3, p4, p5⟩ := hx
            clear r0 r1 r2
            go_wp2_with fail
            obtain ⟨W2, hW2⟩ : ∃ W2, W2 = (((w6).setCell ⟨w.heap.size, 0, none⟩ (.int .i64 0)).setCell ⟨w.heap.size, 1, none⟩ (.int .i64 0)).setCell ⟨w.heap.size, 2, none⟩ (.string ⟨#[]⟩) := ⟨_, rfl⟩
            rw [← hW2] at HF R0 R1 R2 ⊢
            have r0 := R0.out
            have r1 := R1.out
            have r2 := R2.out
            clear hW2 p0 p1 p2 p3 p4 p5
            exact bodyPost_ret (v := .tuple #[.agg #[.int .i64 0, .int .i64 0, .string ⟨#[]⟩], .int .i64 0, .bool false]) (by simp [results, Tryz.results89, go_sem, r0, r1, r2]) rfl ⟨ret_v (by rw [HN.out]; rfl), HF.out⟩
        · have hrd : rdV 2 n (t.drop u) = (⟨0, 0, e0⟩, 0, false) := by rw [rdV, if_neg k0, if_pos rfl, if_neg (fun h => hfit (by have := h.2; rw [List.length_drop, ← HL.out] at this; exact this))]
          rw [hrd] at HR
          have HN := Lib.hid (show gotP (getP (2 :: t)) = (⟨0, 0, e0⟩, 0, false) from by rw [HR.out, if_neg (fun h => by cases h.1)]; rfl)
          have HBB := Lib.hid ((Below.refl w1.heap.size w1).alloc (Nat.le_refl _) (.cells #[.int .i64 2, .int .i64 n, .string ⟨#[]⟩] 78))
          have hx := HX1.out.kept HBB.out
          have hst := bx_store hx (.int .i64 0) (.int .i64 0) (.string ⟨#[]⟩)
          obtain ⟨⟨r0, r1, r2⟩, _⟩ := hst
          have R0 := Lib.hid r0
          have R1 := Lib.hid r1
          have R2 := Lib.hid r2
          have HF := Lib.hid (stored3 (bt HB1.out HBB.out) (Nat.le_refl _) (.int .i64 0) (.int .i64 0) (.string ⟨#[]⟩))
          obtain ⟨⟨p0, p1, p2⟩, p3, p4, p5⟩ := hx
          clear r0 r1 r2
          go_wp2_with fail
          obtain ⟨W2, hW2⟩ : ∃ W2, W2 = (((w1.alloc (.cells #[.int .i64 2, .int .i64 n, .string ⟨#[]⟩] 78)).setCell ⟨w.heap.size, 0, none⟩ (.int .i64 0)).setCell ⟨w.heap.size, 1, none⟩ (.int .i64 0)).setCell ⟨w.heap.size, 2, none⟩ (.string ⟨#[]⟩) := ⟨_, rfl⟩
          rw [← hW2] at HF R0 R1 R2 ⊢
          have r0 := R0.out
          have r1 := R1.out
          have r2 := R2.out
          clear hW2 p0 p1 p2 p3 p4 p5
          exact bodyPost_ret (v := .tuple #[.agg #[.int .i64 0, .int .i64 0, .string ⟨#[]⟩], .int .i64 0, .bool false]) (by simp [results, Tryz.results89, go_sem, r0, r1, r2]) rfl ⟨ret_v (by rw [HN.out]; rfl), HF.out⟩
      · have hrd : rdV 2 n (t.drop u) = (⟨0, 0, e0⟩, 0, false) := by rw [rdV, if_neg k0, if_pos rfl, if_neg (fun h => h40 h.1)]
        rw [hrd] at HR
        have HN := Lib.hid (show gotP (getP (2 :: t)) = (⟨0, 0, e0⟩, 0, false) from by rw [HR.out, if_neg (fun h => by cases h.1)]; rfl)
        have HBB := Lib.hid ((Below.refl w1.heap.size w1).alloc (Nat.le_refl _) (.cells #[.int .i64 2, .int .i64 (wrap64 n), .string ⟨#[]⟩] 78))
        have hx := HX1.out.kept HBB.out
        have hst := bx_store hx (.int .i64 0) (.int .i64 0) (.string ⟨#[]⟩)
        obtain ⟨⟨r0, r1, r2⟩, _⟩ := hst
        have R0 := Lib.hid r0
        have R1 := Lib.hid r1
        have R2 := Lib.hid r2
        have HF := Lib.hid (stored3 (bt HB1.out HBB.out) (Nat.le_refl _) (.int .i64 0) (.int .i64 0) (.string ⟨#[]⟩))
        obtain ⟨⟨p0, p1, p2⟩, p3, p4, p5⟩ := hx
        clear r0 r1 r2
        go_wp2_with fail
        obtain ⟨W2, hW2⟩ : ∃ W2, W2 = (((w1.alloc (.cells #[.int .i64 2, .int .i64 (wrap64 n), .string ⟨#[]⟩] 78)).setCell ⟨w.heap.size, 0, none⟩ (.int .i64 0)).setCell ⟨w.heap.size, 1, none⟩ (.int .i64 0)).setCell ⟨w.heap.size, 2, none⟩ (.string ⟨#[]⟩) := ⟨_, rfl⟩
        rw [← hW2] at HF R0 R1 R2 ⊢
        have r0 := R0.out
        have r1 := R1.out
        have r2 := R2.out
        clear hW2 p0 p1 p2 p3 p4 p5
        exact bodyPost_ret (v := .tuple #[.agg #[.int .i64 0, .int .i64 0, .string ⟨#[]⟩], .int .i64 0, .bool false]) (by simp [results, Tryz.results89, go_sem, r0, r1, r2]) rfl ⟨ret_v (by rw [HN.out]; rfl), HF.out⟩
    · rw [show rdV k n (t.drop u) = (⟨k, wrap64 n, e0⟩, 0, true) from by rw [rdV, if_neg k0, if_neg k2]] at HR
      have b0 : (k == 0) = false := by simpa using k0
      have b2 : (k == 2) = false := by simpa using k2
      go_wp2_with fail
      have HB5 := Lib.hid ((Below.refl w1.heap.size w1).alloc (Nat.le_refl _) (.cells #[.int .i64 k, .int .i64 (wrap64 n), .string ⟨#[]⟩] 78))
      have HBk := Lib.hid (bx_new w1 (.int .i64 k) (.int .i64 (wrap64 n)) (.string ⟨#[]⟩))
      obtain ⟨bk, hbk⟩ : ∃ bk, bk = w1.heap.size := ⟨_, rfl⟩
      obtain ⟨w5, hw5⟩ : ∃ w5, w5 = w1.alloc (.cells #[.int .i64 k, .int .i64 (wrap64 n), .string ⟨#[]⟩] 78) := ⟨_, rfl⟩
      rw [← hw5] at HBk HB5 ⊢
      rw [← hbk] at HBk ⊢
      obtain ⟨⟨q0, q1, q2⟩, _⟩ := HBk.out
      clear hbk hw5 hc1
      go_wp2_with fail
      refine (refMay_any k (wrap64 n) e0 _).mono ?_
      rintro e w6 ⟨rfl, hb6⟩
      have hx := HX1.out.kept (bt HB5.out hb6)
      have HBB := Lib.hid (bt HB5.out hb6)
      have HBk6 := Lib.hid (HBk.out.kept hb6)
      clear q0 q1 q2 hb6 HB5 HBk
      by_cases hmay : May ⟨k, (wrap64 n), e0⟩
      · rw [decide_eq_true hmay]
        have HN := Lib.hid (show gotP (getP (k :: t)) = (⟨k, (wrap64 n), e0⟩, 1 + u + 0, true) from by rw [HR.out, if_pos ⟨by first | exact rfl | exact trivial, hmay⟩]; rfl)
        have hst := bx_store hx (.int .i64 k) (.int .i64 (wrap64 n)) (.string ⟨#[]⟩)
        obtain ⟨⟨r0, r1, r2⟩, _⟩ := hst
        have R0 := Lib.hid r0
        have R1 := Lib.hid r1
        have R2 := Lib.hid r2
        have HF := Lib.hid (stored3 (bt HB1.out HBB.out) (Nat.le_refl _) (.int .i64 k) (.int .i64 (wrap64 n)) (.string ⟨#[]⟩))
        obtain ⟨⟨p0, p1, p2⟩, p3, p4, p5⟩ := hx
        obtain ⟨⟨q0, q1, q2⟩, _⟩ := HBk6.out
        clear r0 r1 r2 hmay
        go_wp2_with fail
        obtain ⟨W2, hW2⟩ : ∃ W2, W2 = ((w6.setCell ⟨w.heap.size, 0, none⟩ (.int .i64 k)).setCell ⟨w.heap.size, 1, none⟩ (.int .i64 (wrap64 n))).setCell ⟨w.heap.size, 2, none⟩ (.string ⟨#[]⟩) := ⟨_, rfl⟩
        rw [← hW2] at HF R0 R1 R2 ⊢
        have r0 := R0.out
        have r1 := R1.out
        have r2 := R2.out
        clear hW2 p0 p1 p2 p3 p4 p5 q0 q1 q2
        have hcast : ((1 + u + 0 : Nat) : Int) = 1 + (u : Int) := by omega
        exact bodyPost_ret (v := .tuple #[.agg #[.int .i64 k, .int .i64 (wrap64 n), .string ⟨#[]⟩], .int .i64 (1 + (u : Int)), .bool true]) (by simp [results, Tryz.results89, go_sem, r0, r1, r2]) rfl ⟨ret_v (by rw [HN.out, got3]; simp only [hcast] <;> rfl), HF.out⟩
      · rw [decide_eq_false hmay]
        have HN := Lib.hid (show gotP (getP (k :: t)) = (⟨0, 0, e0⟩, 0, false) from by rw [HR.out, if_neg (fun h => hmay h.2)]; rfl)
        clear hmay
        have hst := bx_store hx (.int .i64 0) (.int .i64 0) (.string ⟨#[]⟩)
        obtain ⟨⟨r0, r1, r2⟩, _⟩ := hst
        have R0 := Lib.hid r0
        have R1 := Lib.hid r1
        have R2 := Lib.hid r2
        have HF := Lib.hid (stored3 (bt HB1.out HBB.out) (Nat.le_refl _) (.int .i64 0) (.int .i64 0) (.string ⟨#[]⟩))
        obtain ⟨⟨p0, p1, p2⟩, p3, p4, p5⟩ := hx
        clear r0 r1 r2
        go_wp2_with fail
        obtain ⟨W2, hW2⟩ : ∃ W2, W2 = (((w6).setCell ⟨w.heap.size, 0, none⟩ (.int .i64 0)).setCell ⟨w.heap.size, 1, none⟩ (.int .i64 0)).setCell ⟨w.heap.size, 2, none⟩ (.string ⟨#[]⟩) := ⟨_, rfl⟩
        rw [← hW2] at HF R0 R1 R2 ⊢
        have r0 := R0.out
        have r1 := R1.out
        have r2 := R2.out
        clear hW2 p0 p1 p2 p3 p4 p5
        exact bodyPost_ret (v := .tuple #[.agg #[.int .i64 0, .int .i64 0, .string ⟨#[]⟩], .int .i64 0, .bool false]) (by simp [results, Tryz.results89, go_sem, r0, r1, r2]) rfl ⟨ret_v (by rw [HN.out]; rfl), HF.out⟩

/-- Get of any bytes. -/
theorem refGet_any (A : Option Addr) (xs : List Int) (c : Nat) (w : World) (h : SlB w A xs c) : Calls Tryz.prog 89 #[.slice A xs.length c] w (Gots xs w) := by
  cases xs with
  | nil => exact refGet_nil A c w
  | cons k t =>
    cases hg : getS t with
    | none => exact refGet_no A k t c w h hg
    | some p =>
      obtain ⟨n, u⟩ := p
      obtain ⟨b, o, hA, _⟩ := h.1.2 (by simp)
      exact refGet_yes A b o hA k t c w h n u hg
end Go.Proofs.YtbmdkibmfkmjoaaGreat.Va

namespace Go.Proofs.YtbmdkibmfkmjoaaGreat.Ex
open Go.RowKit Go.Proofs.YtbmdkibmfkmjoaaGreat.BM Go.Proofs.YtbmdkibmfkmjoaaGreat.LM Go.Proofs.YtbmdkibmfkmjoaaGreat.LeM Go.Proofs.YtbmdkibmfkmjoaaGreat.VaM Go.Proofs.YtbmdkibmfkmjoaaGreat.Va Go.Proofs.YtbmdkibmfkmjoaaGreat.ExM
open Go.Proofs.YtbmdkibmfkmjoaaGreat.EvM (v0)

/-- What comes of parts that are got, and of some more. -/
def fin8 (l : List O) (p : Nat) : Option (List O × Nat) → Option (List O × Nat)
  | none => none
  | some (r, k) => if ExM.May (l ++ r) then some (l ++ r, p + k) else none

theorem fin8_step {l : List O} {p k : Nat} {ys : List Int} {o : O} {m : Nat} (h : gO ys = some (o, m)) :
    fin8 l p (gOs (k + 1) ys) = fin8 (l ++ [o]) (p + m) (gOs k (ys.drop m)) := by
  simp only [gOs, h]
  cases gOs k (ys.drop m) with
  | none => rfl
  | some q =>
    obtain ⟨r, n⟩ := q
    simp only [fin8, List.append_assoc, List.singleton_append, Nat.add_assoc]

theorem fin8_no {l : List O} {p k : Nat} {ys : List Int} (h : gO ys = none) : fin8 l p (gOs (k + 1) ys) = none := by
  simp only [gOs, h]
  rfl

theorem gL_fin {xs : List Int} {n u : Nat} (h : getS xs = some (n, u)) (hn : n ≤ 12) : gL xs = fin8 [] u (gOs n (xs.drop u)) := by
  unfold gL
  rw [h]
  simp only [if_pos hn]
  cases gOs n (xs.drop u) with
  | none => rfl
  | some q => rfl

theorem gL_no {xs : List Int} (h : getS xs = none) : gL xs = none := by
  unfold gL
  rw [h]

theorem gL_great {xs : List Int} {n u : Nat} (h : getS xs = some (n, u)) (hn : ¬ n ≤ 12) : gL xs = none := by
  unfold gL
  rw [h]
  simp only [if_neg hn]

set_option maxRecDepth 100000 in
set_option maxHeartbeats 8000000 in
theorem refGetF_any (A : Option Addr) (xs : List Int) (c : Nat) (w : World) (hx : SlB w A xs c) : Calls Tryz.prog 59 #[.slice A xs.length c] w (GotsF xs w) := by
  have hxc := hx.2.1
  have hmx := hx.2.2.2
  unfold maxLen at hmx
  have hbytes := hx.1.1
  have hbat := fun p (hp : p < xs.length) => byte_at hx p hp
  have hdrop := fun p (hp : p < xs.length) => drop_at (xs := xs) hp
  have hout := fun p (hp : ¬ p < xs.length) => (List.drop_eq_nil_of_le (Nat.le_of_not_lt hp) : xs.drop p = [])
  have hget := LeG.refGet_any A xs c w hxc (by omega) hx.1
  have hval := fun W (hW : Below w.heap.size w W) (p : Nat) (hp : p ≤ xs.length) => Va.refGet_any (dropA A p c) (xs.drop p) (c - p) W (Cut.slB_drop (hx.kept hW) p hp)
  unfold Va.Gots at hval
  simp only [List.length_drop] at hval
  have hslo := fun W (p : Nat) (hp : p ≤ xs.length) => slice_lo W A xs.length c p hp
  have hul := fun n u (h : getS xs = some (n, u)) => ((getS_iff xs hbytes n u).1 h).2.1
  obtain ⟨N, hN⟩ : ∃ N, N = xs.length := ⟨_, rfl⟩
  simp only [← hN] at hbat hval hslo hdrop hout hul
  rw [← hN] at hxc hget ⊢
  have HLen := Lib.hid hN
  have HBat := Lib.hid hbat
  have HDrop := Lib.hid hdrop
  have HOut := Lib.hid hout
  have HGet := Lib.hid hget
  have HVal := Lib.hid hval
  have HSlo := Lib.hid hslo
  have HBy := Lib.hid hbytes
  have HUl := Lib.hid hul
  clear hx hN hbat hdrop hout hget hval hslo hbytes hul
  cases hs : getS xs with
  | none =>
    have HNo := Lib.hid (gL_no hs)
    rw [hs] at HGet
    clear hs
    go_enter Tryz.func59, Tryz.ntmps59
    go_wp2_with fail
    refine HGet.out.mono ?_
    rintro e w1 ⟨rfl, hb1⟩
    have HB1 := Lib.hid hb1
    simp only [LeG.gotV]
    clear hb1
    go_wp2_with fail
    go_ret3
    exact ⟨none, 0, ret_v (x := .tuple #[.slice none 0 0, .int .i64 0, .bool false]) (by rw [HNo.out]; rfl), (by rw [HNo.out]; exact slO_none _), HB1.out, fun a h => by cases h⟩
  | some r =>
    obtain ⟨n, u⟩ := r
    have hu := HUl.out n u hs
    rw [hs] at HGet
    by_cases hn : n ≤ 12
    · have HFi := Lib.hid (gL_fin hs hn)
      have hd1 : decide ((12 : Int) < (n : Int)) = false := by rw [decide_eq_false_iff_not]; omega
      clear hs HUl
      go_enter Tryz.func59, Tryz.ntmps59
      go_wp2_with fail
      refine HGet.out.mono ?_
      rintro e w1 ⟨rfl, hb1⟩
      have HB1 := Lib.hid hb1
      simp only [LeG.gotV]
      clear hb1 HGet
      go_wp2_with fail
      go_loopw [6, 8, 9] (fun at' u' i wr => ∃ (j p : Nat) (l : List O), i = .int .i64 j ∧ at' = .int .i64 p ∧ j ≤ n ∧ p ≤ N ∧ l.length = j ∧ (∀ y ∈ l, Fin y) ∧ gL xs = fin8 l p (gOs (n - j) (xs.drop p)) ∧ wr.ownsRow w.heap.size 80 5 u' j (l.flatMap encO) ∧ Below w.heap.size w wr) (fun _ _ i _ => n - (intOf i).toNat)
      case atStart => exact ⟨0, u, [], rfl, rfl, Nat.zero_le _, hu, rfl, (fun y hy => by cases hy), HFi.out, World.ownsRow_nil _ _ _ _, HB1.out⟩
      case round =>
        obtain ⟨j, p, l, rfl, rfl, hj, hp, hlj, hfn, hgs, hown, hbel⟩ := hrel
        have HL := Lib.hid hlj
        have HFn := Lib.hid hfn
        have HGs := Lib.hid hgs
        have HO := Lib.hid hown
        have HBl := Lib.hid hbel
        clear hlj hfn hgs hown hbel HFi HB1
        by_cases hjn : j < n
        · have hgs := HGs.out
          rw [show n - j = (n - (j + 1)) + 1 by omega] at hgs
          have HGs2 := Lib.hid hgs
          clear hgs HGs
          by_cases hpN : p < N
          · have g1 : decide (N ≤ p) = false := by rw [decide_eq_false_iff_not]; omega
            have g1' : decide ((N : Int) ≤ (p : Int)) = false := by rw [decide_eq_false_iff_not]; omega
            obtain ⟨b, q, hi, hc, x0l, x0u⟩ := HBat.out p hpN
            have hdr := HDrop.out p hpN
            obtain ⟨x0, hx0⟩ : ∃ e, e = xs.getD p 0 := ⟨_, rfl⟩
            rw [← hx0] at hdr x0l x0u
            simp only [← hx0] at hc
            have y0 := hc wr HBl.out
            have HDr := Lib.hid hdr
            clear hx0 hdr hc
            by_cases h0 : x0 = 0
            · subst h0
              clear x0l x0u
              have ha4 := (Below.refl wr.heap.size wr).alloc (Nat.le_refl _) (.cells #[.int .i64 0, .int .i64 0, .int .i64 0, .int .i64 0, .string ⟨#[]⟩] 80)
              have HX4 := Lib.hid (bxO_new wr ⟨0, 0, v0⟩)
              have HB4 := Lib.hid ha4
              have hsl := fun W => HSlo.out W (p + 1) hpN
              rw [show ((p + 1 : Nat) : Int) = (p : Int) + 1 from by omega] at hsl
              have HV := Lib.hid (HVal.out (wr.alloc (.cells #[.int .i64 0, .int .i64 0, .int .i64 0, .int .i64 0, .string ⟨#[]⟩] 80)) (bt HBl.out ha4) (p + 1) hpN)
              obtain ⟨D, hD⟩ : ∃ D, D = dropA A (p + 1) c := ⟨_, rfl⟩
              rw [← hD] at HV
              simp only [← hD] at hsl
              obtain ⟨y0', y1, y2, y3, y4⟩ := HX4.out.cells
              simp only [v0] at y0' y1 y2 y3 y4
              clear hD ha4
              cases hg : getP (xs.drop (p + 1)) with
              | none =>
                have HNo := Lib.hid (show gL xs = none by rw [HGs2.out, HDr.out]; exact fin8_no (by rw [gO_push, hg]))
                rw [hg] at HV
                simp only [gotP, Va.got3] at HV
                clear hg
                go_wp2_with fail
                refine HV.out.mono ?_
                rintro e w5 ⟨rfl, hb5⟩
                have HB5 := Lib.hid (bt HBl.out (bt HB4.out (bt hb5 ((Below.refl w5.heap.size w5).alloc (Nat.le_refl _) (.cells #[.int .i64 0, .int .i64 0, .string ⟨#[]⟩] 78)))))
                clear hb5
                go_wp2_with fail
                go_ret3
                exact ⟨none, 0, ret_v (x := .tuple #[.slice none 0 0, .int .i64 0, .bool false]) (by rw [HNo.out]; rfl), (by rw [HNo.out]; exact slO_none _), HB5.out, fun a h => by cases h⟩
              | some r =>
                obtain ⟨⟨k, nn, s⟩, m⟩ := r
                obtain ⟨hrg, hmy, hml, _⟩ := getP_some (ScM.bytes_drop HBy.out (p + 1)) hg
                rw [List.length_drop, ← HLen.out] at hml
                have HGo := Lib.hid (show gL xs = fin8 (l ++ [⟨0, 0, ⟨k, nn, s⟩⟩]) (p + (1 + m)) (gOs (n - (j + 1)) (xs.drop (p + (1 + m)))) by
                  rw [HGs2.out, HDr.out, fin8_step (show gO (0 :: xs.drop (p + 1)) = some (⟨0, 0, ⟨k, nn, s⟩⟩, 1 + m) by rw [gO_push, hg]), ← HDr.out, List.drop_drop])
                rw [hg] at HV
                simp only [gotP, Va.got3] at HV
                have HFo := Lib.hid (⟨Go.Proofs.YtbmdkibmfkmjoaaGreat.Ex.may_size hmy, hrg, ⟨(by decide : (-9223372036854775808 : Int) ≤ 0), (by decide : (0 : Int) ≤ 9223372036854775807)⟩, (by decide : (-9223372036854775808 : Int) ≤ 0), (by decide : (0 : Int) ≤ 9223372036854775807)⟩ : Fin ⟨0, 0, ⟨k, nn, s⟩⟩)
                clear hg hrg hmy
                go_wp2_with fail
                obtain ⟨w4, hw4⟩ : ∃ z, z = (wr.alloc (.cells #[.int .i64 0, .int .i64 0, .int .i64 0, .int .i64 0, .string ⟨#[]⟩] 80)) := ⟨_, rfl⟩
                obtain ⟨g, hg⟩ : ∃ z, z = wr.heap.size := ⟨_, rfl⟩
                clear y0' y1 y2 y3 y4
                have hx4 : BxO (wr.alloc (.cells #[.int .i64 0, .int .i64 0, .int .i64 0, .int .i64 0, .string ⟨#[]⟩] 80)) wr.heap.size ⟨0, 0, v0⟩ := HX4.out
                have HB4 := Lib.hid (show Below wr.heap.size wr (wr.alloc (.cells #[.int .i64 0, .int .i64 0, .int .i64 0, .int .i64 0, .string ⟨#[]⟩] 80)) from HB4.out)
                rw [← hw4] at HV hx4 HB4 ⊢
                rw [← hg] at hx4 ⊢
                have HG := Lib.hid hg
                have HX4 := Lib.hid (show BxO w4 g ⟨0, 0, v0⟩ from hx4)
                clear hw4 hg hx4
                refine HV.out.mono ?_
                rintro e w5 ⟨rfl, hb5⟩
                have ha6 := (Below.refl w5.heap.size w5).alloc (Nat.le_refl _) (.cells #[.int .i64 k, .int .i64 nn, .string s] 78)
                obtain ⟨⟨z0, z1, z2⟩, _⟩ := bx_new_t w5 78 (.int .i64 k) (.int .i64 nn) (.string s)
                have hx6 := (HX4.out.kept hb5).kept ha6
                have hx7 := RG.BxN.set (RG.BxN.set (RG.BxN.set hx6 2 (show 2 < 5 from by decide) (.int .i64 k)) 3 (show 3 < 5 from by decide) (.int .i64 nn)) 4 (show 4 < 5 from by decide) (.string s)
                have HX7 := Lib.hid (show BxO (((((w5.alloc (.cells #[.int .i64 k, .int .i64 nn, .string s] 78)).setCell ⟨g, 2, none⟩ (.int .i64 k)).setCell ⟨g, 3, none⟩ (.int .i64 nn)).setCell ⟨g, 4, none⟩ (.string s))) g ⟨0, 0, ⟨k, nn, s⟩⟩ from hx7)
                have HBW := Lib.hid (((bt HB4.out (bt hb5 ha6)).setCell (p := ⟨g, 2, none⟩) (Nat.le_of_eq HG.out.symm) (.int .i64 k)).setCell (p := ⟨g, 3, none⟩) (Nat.le_of_eq HG.out.symm) (.int .i64 nn) |>.setCell (p := ⟨g, 4, none⟩) (Nat.le_of_eq HG.out.symm) (.string s))
                obtain ⟨t0, t0'⟩ := hx6 0 _ rfl
                obtain ⟨t2, t2'⟩ := hx6 2 _ rfl
                obtain ⟨t3, t3'⟩ := hx6 3 _ rfl
                obtain ⟨t4, t4'⟩ := hx6 4 _ rfl
                simp only at t0 t2 t3 t4
                clear hb5 ha6 hx6 hx7
                obtain ⟨o0, o1, o2, o3, o4⟩ := HX7.out.cells
                simp only at o0 o1 o2 o3 o4
                have ha7 := (Below.refl ((((w5.alloc (.cells #[.int .i64 k, .int .i64 nn, .string s] 78)).setCell ⟨g, 2, none⟩ (.int .i64 k)).setCell ⟨g, 3, none⟩ (.int .i64 nn)).setCell ⟨g, 4, none⟩ (.string s)).heap.size ((((w5.alloc (.cells #[.int .i64 k, .int .i64 nn, .string s] 78)).setCell ⟨g, 2, none⟩ (.int .i64 k)).setCell ⟨g, 3, none⟩ (.int .i64 nn)).setCell ⟨g, 4, none⟩ (.string s))).alloc (Nat.le_refl _) (.cells #[.int .i64 0, .int .i64 0, .int .i64 k, .int .i64 nn, .string s] 80)
                have hz7 : ((((w5.alloc (.cells #[.int .i64 k, .int .i64 nn, .string s] 78)).setCell ⟨g, 2, none⟩ (.int .i64 k)).setCell ⟨g, 3, none⟩ (.int .i64 nn)).setCell ⟨g, 4, none⟩ (.string s)).heap.size = w5.heap.size + 1 := by simp
                have hn7 := slO_1 ((((w5.alloc (.cells #[.int .i64 k, .int .i64 nn, .string s] 78)).setCell ⟨g, 2, none⟩ (.int .i64 k)).setCell ⟨g, 3, none⟩ (.int .i64 nn)).setCell ⟨g, 4, none⟩ (.string s)) ⟨0, 0, ⟨k, nn, s⟩⟩ HFo.out
                rw [hz7] at hn7
                have HN7 := Lib.hid hn7
                have HO7 := Lib.hid (RegA.own_below HO.out (bt HBW.out ha7))
                have HB7 := Lib.hid (bt HBl.out (bt HBW.out ha7))
                have hsz7 := HB7.out.size
                clear ha7 hz7 hn7
                go_wp2_with (at_builtin; refine wp_append_o rfl (.tmp 78) (.tmp 80) rfl w.heap.size _ j l rfl HO7.out (some ⟨w5.heap.size + 1, 0, none⟩) 1 1 [⟨0, 0, ⟨k, nn, s⟩⟩] rfl rfl HN7.out (by omega) hsz7 ?_; intro u8 w8 hown8 hgrow8; refine pause ?_)
                have HB8 := Lib.hid (HB7.out.grown hgrow8 hsz7 (fun k hk => (HO7.out.lt k hk).1))
                have HO8 := Lib.hid hown8
                clear hown8 hgrow8 o0 o1 o2 o3 o4
                unfold Pause
                go_wp2_with fail
                go_roundw
                case rel => exact ⟨j + 1, p + (1 + m), l ++ [⟨0, 0, ⟨k, nn, s⟩⟩], by go_num, by go_num, by omega, by omega, by rw [List.length_append, HL.out]; rfl, (fun y hy => by
                  rcases List.mem_append.1 hy with hy | hy
                  · exact HFn.out y hy
                  · rw [List.mem_singleton.1 hy]
                    exact HFo.out), HGo.out, HO8.out, HB8.out⟩
                case measure => simp [intOf]; omega
            · have h0' : (x0 == 0) = false := by simpa using h0
              by_cases h1 : x0 = 1
              · subst h1
                clear h0 h0' x0l x0u
                by_cases hp2 : p + 1 < N
                · have g2 : decide ((N : Int) ≤ (p : Int) + 1) = false := by rw [decide_eq_false_iff_not]; omega
                  obtain ⟨b2, q2, hi2, hc2, x2l, x2u⟩ := HBat.out (p + 1) hp2
                  rw [show ((p + 1 : Nat) : Int) = (p : Int) + 1 from by omega] at hi2
                  have hdr2 := HDrop.out (p + 1) hp2
                  obtain ⟨x2, hx2⟩ : ∃ e, e = xs.getD (p + 1) 0 := ⟨_, rfl⟩
                  rw [← hx2] at hdr2 x2l x2u
                  simp only [← hx2] at hc2
                  have HGo := Lib.hid (show gL xs = fin8 (l ++ [⟨1, x2, v0⟩]) (p + 2) (gOs (n - (j + 1)) (xs.drop (p + 2))) by
                    rw [HGs2.out, HDr.out, fin8_step (show gO (1 :: xs.drop (p + 1)) = some (⟨1, x2, v0⟩, 2) by rw [hdr2]; rfl), ← HDr.out, List.drop_drop])
                  have ha4 := (Below.refl wr.heap.size wr).alloc (Nat.le_refl _) (.cells #[.int .i64 1, .int .i64 x2, .int .i64 0, .int .i64 0, .string ⟨#[]⟩] 80)
                  have HX4 := Lib.hid (bxO_new wr ⟨1, x2, v0⟩)
                  have HB4 := Lib.hid ha4
                  have ha5 := (Below.refl wr.heap.size wr).alloc (Nat.le_refl _) (.cells #[.int .i64 1, .int .i64 0, .int .i64 0, .int .i64 0, .string ⟨#[]⟩] 80)
                  have y2' := hc2 _ (bt HBl.out ha5)
                  obtain ⟨r0, r1, r2, r3, r4⟩ := (bxO_new wr ⟨1, 0, v0⟩).cells
                  simp only [v0] at r0 r1 r2 r3 r4
                  clear hx2 hdr2 hc2 ha4 ha5
                  obtain ⟨o0, o1, o2, o3, o4⟩ := HX4.out.cells
                  simp only at o0 o1 o2 o3 o4
                  have ha7 := (Below.refl (wr.alloc (.cells #[.int .i64 1, .int .i64 x2, .int .i64 0, .int .i64 0, .string ⟨#[]⟩] 80)).heap.size (wr.alloc (.cells #[.int .i64 1, .int .i64 x2, .int .i64 0, .int .i64 0, .string ⟨#[]⟩] 80))).alloc (Nat.le_refl _) (.cells #[.int .i64 1, .int .i64 x2, .int .i64 0, .int .i64 0, .string ⟨#[]⟩] 80)
                  have hz7 : (wr.alloc (.cells #[.int .i64 1, .int .i64 x2, .int .i64 0, .int .i64 0, .string ⟨#[]⟩] 80)).heap.size = wr.heap.size + 1 := by simp
                  have hn7 := slO_1 (wr.alloc (.cells #[.int .i64 1, .int .i64 x2, .int .i64 0, .int .i64 0, .string ⟨#[]⟩] 80)) ⟨1, x2, v0⟩ (⟨Nat.zero_le _, ⟨(by decide : (-9223372036854775808 : Int) ≤ 0), (by decide : (0 : Int) ≤ 9223372036854775807)⟩, ⟨by show -9223372036854775808 ≤ (1 : Int); omega, by show (1 : Int) ≤ 9223372036854775807; omega⟩, by show -9223372036854775808 ≤ x2; omega, by show x2 ≤ 9223372036854775807; omega⟩ : Fin ⟨(1 : Int), x2, v0⟩)
                  rw [hz7] at hn7
                  have HN7 := Lib.hid hn7
                  have HO7 := Lib.hid (RegA.own_below HO.out (bt HB4.out ha7))
                  have HB7 := Lib.hid (bt HBl.out (bt HB4.out ha7))
                  have hsz7 := HB7.out.size
                  clear ha7 hz7 hn7
                  go_wp2_with (at_builtin; refine wp_append_o rfl (.tmp 78) (.tmp 80) rfl w.heap.size _ j l rfl HO7.out (some ⟨wr.heap.size + 1, 0, none⟩) 1 1 [⟨1, x2, v0⟩] rfl rfl HN7.out (by omega) hsz7 ?_; intro u8 w8 hown8 hgrow8; refine pause ?_)
                  have HB8 := Lib.hid (HB7.out.grown hgrow8 hsz7 (fun k hk => (HO7.out.lt k hk).1))
                  have HO8 := Lib.hid hown8
                  clear hown8 hgrow8 o0 o1 o2 o3 o4
                  unfold Pause
                  go_wp2_with fail
                  go_roundw
                  case rel => exact ⟨j + 1, p + 2, l ++ [⟨1, x2, v0⟩], by go_num, by go_num, by omega, by omega, by rw [List.length_append, HL.out]; rfl, (fun y hy => by
                    rcases List.mem_append.1 hy with hy | hy
                    · exact HFn.out y hy
                    · rw [List.mem_singleton.1 hy]
                      exact (⟨Nat.zero_le _, ⟨(by decide : (-9223372036854775808 : Int) ≤ 0), (by decide : (0 : Int) ≤ 9223372036854775807)⟩, ⟨by show -9223372036854775808 ≤ (1 : Int); omega, by show (1 : Int) ≤ 9223372036854775807; omega⟩, by show -9223372036854775808 ≤ x2; omega, by show x2 ≤ 9223372036854775807; omega⟩ : Fin ⟨(1 : Int), x2, v0⟩)), HGo.out, HO8.out, HB8.out⟩
                  case measure => simp [intOf]; omega
                · have g2 : decide ((N : Int) ≤ (p : Int) + 1) = true := by rw [decide_eq_true_iff]; omega
                  have HNo := Lib.hid (show gL xs = none by rw [HGs2.out, HDr.out, HOut.out (p + 1) hp2]; exact fin8_no rfl)
                  have ha5 := (Below.refl wr.heap.size wr).alloc (Nat.le_refl _) (.cells #[.int .i64 1, .int .i64 0, .int .i64 0, .int .i64 0, .string ⟨#[]⟩] 80)
                  have HB5 := Lib.hid (bt HBl.out ha5)
                  obtain ⟨r0, r1, r2, r3, r4⟩ := (bxO_new wr ⟨1, 0, v0⟩).cells
                  simp only [v0] at r0 r1 r2 r3 r4
                  clear ha5
                  go_wp2_with fail
                  go_ret3
                  exact ⟨none, 0, ret_v (x := .tuple #[.slice none 0 0, .int .i64 0, .bool false]) (by rw [HNo.out]; rfl), (by rw [HNo.out]; exact slO_none _), HB5.out, fun a h => by cases h⟩
              · have h1' : (x0 == 1) = false := by simpa using h1
                have HGo := Lib.hid (show gL xs = fin8 (l ++ [⟨x0, 0, v0⟩]) (p + 1) (gOs (n - (j + 1)) (xs.drop (p + 1))) by
                  rw [HGs2.out, HDr.out, fin8_step (gO_other _ h0 h1), ← HDr.out, List.drop_drop])
                have HX4 := Lib.hid (bxO_new wr ⟨x0, 0, v0⟩)
                have HB4 := Lib.hid ((Below.refl wr.heap.size wr).alloc (Nat.le_refl _) (.cells #[.int .i64 x0, .int .i64 0, .int .i64 0, .int .i64 0, .string ⟨#[]⟩] 80))
                obtain ⟨o0, o1, o2, o3, o4⟩ := HX4.out.cells
                simp only at o0 o1 o2 o3 o4
                have ha7 := (Below.refl (wr.alloc (.cells #[.int .i64 x0, .int .i64 0, .int .i64 0, .int .i64 0, .string ⟨#[]⟩] 80)).heap.size (wr.alloc (.cells #[.int .i64 x0, .int .i64 0, .int .i64 0, .int .i64 0, .string ⟨#[]⟩] 80))).alloc (Nat.le_refl _) (.cells #[.int .i64 x0, .int .i64 0, .int .i64 0, .int .i64 0, .string ⟨#[]⟩] 80)
                have hz7 : (wr.alloc (.cells #[.int .i64 x0, .int .i64 0, .int .i64 0, .int .i64 0, .string ⟨#[]⟩] 80)).heap.size = wr.heap.size + 1 := by simp
                have hn7 := slO_1 (wr.alloc (.cells #[.int .i64 x0, .int .i64 0, .int .i64 0, .int .i64 0, .string ⟨#[]⟩] 80)) ⟨x0, 0, v0⟩ (⟨Nat.zero_le _, ⟨(by decide : (-9223372036854775808 : Int) ≤ 0), (by decide : (0 : Int) ≤ 9223372036854775807)⟩, ⟨by show -9223372036854775808 ≤ x0; omega, by show x0 ≤ 9223372036854775807; omega⟩, by show -9223372036854775808 ≤ (0 : Int); omega, by show (0 : Int) ≤ 9223372036854775807; omega⟩ : Fin ⟨x0, (0 : Int), v0⟩)
                rw [hz7] at hn7
                have HN7 := Lib.hid hn7
                have HO7 := Lib.hid (RegA.own_below HO.out (bt HB4.out ha7))
                have HB7 := Lib.hid (bt HBl.out (bt HB4.out ha7))
                have hsz7 := HB7.out.size
                clear ha7 hz7 hn7
                go_wp2_with (at_builtin; refine wp_append_o rfl (.tmp 78) (.tmp 80) rfl w.heap.size _ j l rfl HO7.out (some ⟨wr.heap.size + 1, 0, none⟩) 1 1 [⟨x0, 0, v0⟩] rfl rfl HN7.out (by omega) hsz7 ?_; intro u8 w8 hown8 hgrow8; refine pause ?_)
                have HB8 := Lib.hid (HB7.out.grown hgrow8 hsz7 (fun k hk => (HO7.out.lt k hk).1))
                have HO8 := Lib.hid hown8
                clear hown8 hgrow8 o0 o1 o2 o3 o4
                unfold Pause
                go_wp2_with fail
                go_roundw
                case rel => exact ⟨j + 1, p + 1, l ++ [⟨x0, 0, v0⟩], by go_num, by go_num, by omega, by omega, by rw [List.length_append, HL.out]; rfl, (fun y hy => by
                  rcases List.mem_append.1 hy with hy | hy
                  · exact HFn.out y hy
                  · rw [List.mem_singleton.1 hy]
                    exact (⟨Nat.zero_le _, ⟨(by decide : (-9223372036854775808 : Int) ≤ 0), (by decide : (0 : Int) ≤ 9223372036854775807)⟩, ⟨by show -9223372036854775808 ≤ x0; omega, by show x0 ≤ 9223372036854775807; omega⟩, by show -9223372036854775808 ≤ (0 : Int); omega, by show (0 : Int) ≤ 9223372036854775807; omega⟩ : Fin ⟨x0, (0 : Int), v0⟩)), HGo.out, HO8.out, HB8.out⟩
                case measure => simp [intOf]; omega
          · have g1 : decide (N ≤ p) = true := by rw [decide_eq_true_iff]; omega
            have g1' : decide ((N : Int) ≤ (p : Int)) = true := by rw [decide_eq_true_iff]; omega
            have HNo := Lib.hid (show gL xs = none by rw [HGs2.out, HOut.out p hpN]; exact fin8_no rfl)
            go_wp2_with fail
            go_ret3
            exact ⟨none, 0, ret_v (x := .tuple #[.slice none 0 0, .int .i64 0, .bool false]) (by rw [HNo.out]; rfl), (by rw [HNo.out]; exact slO_none _), HBl.out, fun a h => by cases h⟩
        · obtain rfl : j = n := by omega
          have hgs := HGs.out
          rw [Nat.sub_self] at hgs
          have hgl : gL xs = if ExM.May l then some (l, p) else none := by rw [hgs]; simp only [gOs, fin8, List.append_nil, Nat.add_zero]
          obtain ⟨Af, cf, rfl, hjl, hsl, hfar⟩ := own_slO HO.out HFn.out
          have hmy := refMay_any l Af cf wr hsl
          have HGl := Lib.hid hgl
          have HSl := Lib.hid hsl
          have HFar := Lib.hid hfar
          rw [HL.out] at hmy ⊢
          have HMy := Lib.hid hmy
          clear hgs hgl hsl hmy HGs hjl hfar
          go_wp2_with fail
          refine HMy.out.mono ?_
          rintro e w6 ⟨rfl, hb6⟩
          have HB6 := Lib.hid (bt HBl.out hb6)
          have HS6 := Lib.hid (HSl.out.kept hb6)
          clear hb6 HMy
          by_cases hm : ExM.May l
          · have HYes := Lib.hid (show gL xs = some (l, p) by rw [HGl.out, if_pos hm])
            rw [decide_eq_true hm]
            clear hm
            go_wp2_with fail
            go_ret3
            exact ⟨Af, cf, ret_v (x := .tuple #[.slice Af j cf, .int .i64 p, .bool true]) (by rw [HYes.out]; simp only [gotL, HL.out]), (by rw [HYes.out]; exact HS6.out), HB6.out, fun a h => (HFar.out a h).1⟩
          · have HNo := Lib.hid (show gL xs = none by rw [HGl.out, if_neg hm])
            rw [decide_eq_false hm]
            clear hm
            go_wp2_with fail
            go_ret3
            exact ⟨none, 0, ret_v (x := .tuple #[.slice none 0 0, .int .i64 0, .bool false]) (by rw [HNo.out]; rfl), (by rw [HNo.out]; exact slO_none _), HB6.out, fun a h => by cases h⟩
    · have HNo := Lib.hid (gL_great hs hn)
      have hd1 : decide ((12 : Int) < (n : Int)) = true := by rw [decide_eq_true_iff]; omega
      clear hs hn
      go_enter Tryz.func59, Tryz.ntmps59
      go_wp2_with fail
      refine HGet.out.mono ?_
      rintro e w1 ⟨rfl, hb1⟩
      have HB1 := Lib.hid hb1
      simp only [LeG.gotV]
      clear hb1
      go_wp2_with fail
      go_ret3
      exact ⟨none, 0, ret_v (x := .tuple #[.slice none 0 0, .int .i64 0, .bool false]) (by rw [HNo.out]; rfl), (by rw [HNo.out]; exact slO_none _), HB1.out, fun a h => by cases h⟩

theorem refGet_any (A : Option Addr) (xs : List Int) (c : Nat) (w : World) (hx : SlB w A xs c) : Calls Tryz.prog 59 #[.slice A xs.length c] w (Gots xs w) :=
  (refGetF_any A xs c w hx).mono fun _ _ h => gots_of h
end Go.Proofs.YtbmdkibmfkmjoaaGreat.Ex

namespace Go.Proofs.YtbmdkibmfkmjoaaGreat.Qy
open Go.RowKit Go.Proofs.YtbmdkibmfkmjoaaGreat.BM Go.Proofs.YtbmdkibmfkmjoaaGreat.LM Go.Proofs.YtbmdkibmfkmjoaaGreat.LeM Go.Proofs.YtbmdkibmfkmjoaaGreat.VaM Go.Proofs.YtbmdkibmfkmjoaaGreat.ExM Go.Proofs.YtbmdkibmfkmjoaaGreat.QyM
open Go.Proofs.YtbmdkibmfkmjoaaGreat.Va (Bx bx_set1 bx_set2 ret_v)
open Go.Proofs.YtbmdkibmfkmjoaaGreat.Sc (grown_set)
open Go.Proofs.YtbmdkibmfkmjoaaGreat.Ex (SlO slO_none)

set_option maxRecDepth 100000 in
set_option maxHeartbeats 4000000 in
theorem refOps_any (b : Nat) (A : Option Addr) (xs : List Int) (c p : Nat) (bad : Bool) (w : World) (hB : Bx w b (.slice A xs.length c) (.int .i64 (p : Int)) (.bool bad)) (hx : SlB w A xs c) (hp : p ≤ xs.length) :
    Calls Tryz.prog 32 #[.pointer (some ⟨b, 0, none⟩)] w fun e w' => ∃ A1 c1, e = .returned (.slice A1 (rd gL [] xs (p, bad)).1.length c1) ∧ SlO w' A1 (rd gL [] xs (p, bad)).1 c1 ∧ (∀ a, A1 = some a → w.heap.size ≤ a.block) ∧ Left b A c xs.length w (rd gL [] xs (p, bad)).2 w' := by
  have hmx := hx.2.2.2
  have hxc := hx.2.1
  have hblt := hB.lt
  unfold maxLen at hmx
  have hget := fun W (hW : Below w.heap.size w W) => Ex.refGetF_any (dropA A p c) (xs.drop p) (c - p) W (Cut.slB_drop (hx.kept hW) p hp)
  have hgi := fun t m (h : gL (xs.drop p) = some (t, m)) => (gL_some (ScM.bytes_drop hx.1.1 p) h).2.2.1
  simp only [List.length_drop] at hget hgi
  obtain ⟨N, hN⟩ : ∃ N, N = xs.length := ⟨_, rfl⟩
  simp only [← hN] at hget hgi hB
  rw [← hN] at hp hxc ⊢
  unfold dropA Ex.GotsF at hget
  have HX := Lib.hid hB
  clear hx hN hB
  cases hg : gL (xs.drop p) with
  | none =>
    have hr : rd gL [] xs (p, bad) = ([], (p, true)) := by
      cases bad
      · exact rd_none hg
      · exact rd_bad
    rw [hr]
    rw [hg] at hget
    simp only [gotL] at hget
    have HGet := Lib.hid hget
    clear hg hr hgi hget hmx hblt
    cases bad
    all_goals
      obtain ⟨⟨p0, p1, p2⟩, p3⟩ := HX.out
      go_enter Tryz.func32, Tryz.ntmps32
      go_wp2_with fail
      refine Reg.G_start (by kernel_rfl) (by repeat (first | exact Reg.frameless_bodyPost | refine Reg.frameless_then ?_ | refine Reg.frameless_inBlock ?_)) (fun W hW => ?_)
      have x0 := Reg.later_cell hW p0
      have x1 := Reg.later_cell hW p1
      clear p0 p1 p2 p3
      obtain ⟨D, hD⟩ : ∃ D, D = dropA A p c := ⟨_, rfl⟩
      unfold dropA at hD
      first | (refine Reg.G_step (i := 0) rfl (by kernel_rfl) (by rfl) (fun K hK => ?_); go_big_quiet_op; refine hK _ ?_; clear hK K) | (refine Reg.G_skip (i := 0) rfl (by kernel_rfl) (by rfl) ?_; simp only [Act.put, List.setIfInBounds_toArray, List.set_cons_zero, List.set_cons_succ])
      first | (refine Reg.G_step (i := 1) rfl (by kernel_rfl) (by rfl) (fun K hK => ?_); go_big_quiet_op; refine hK _ ?_; clear hK K) | (refine Reg.G_skip (i := 1) rfl (by kernel_rfl) (by rfl) ?_; simp only [Act.put, List.setIfInBounds_toArray, List.set_cons_zero, List.set_cons_succ])
      first | (refine Reg.G_step (i := 2) rfl (by kernel_rfl) (by rfl) (fun K hK => ?_); go_big_quiet_op; refine hK _ ?_; clear hK K) | (refine Reg.G_skip (i := 2) rfl (by kernel_rfl) (by rfl) ?_; simp only [Act.put, List.setIfInBounds_toArray, List.set_cons_zero, List.set_cons_succ])
      first | (refine Reg.G_step (i := 3) rfl (by kernel_rfl) (by rfl) (fun K hK => ?_); go_big_quiet_op; refine hK _ ?_; clear hK K) | (refine Reg.G_skip (i := 3) rfl (by kernel_rfl) (by rfl) ?_; simp only [Act.put, List.setIfInBounds_toArray, List.set_cons_zero, List.set_cons_succ])
      first | (refine Reg.G_step (i := 4) rfl (by kernel_rfl) (by rfl) (fun K hK => ?_); go_big_quiet_op; refine hK _ ?_; clear hK K) | (refine Reg.G_skip (i := 4) rfl (by kernel_rfl) (by rfl) ?_; simp only [Act.put, List.setIfInBounds_toArray, List.set_cons_zero, List.set_cons_succ])
      first | (refine Reg.G_step (i := 5) rfl (by kernel_rfl) (by rfl) (fun K hK => ?_); go_big_quiet_op; refine hK _ ?_; clear hK K) | (refine Reg.G_skip (i := 5) rfl (by kernel_rfl) (by rfl) ?_; simp only [Act.put, List.setIfInBounds_toArray, List.set_cons_zero, List.set_cons_succ])
      first | (refine Reg.G_step (i := 6) rfl (by kernel_rfl) (by rfl) (fun K hK => ?_); go_big_quiet_op; refine hK _ ?_; clear hK K) | (refine Reg.G_skip (i := 6) rfl (by kernel_rfl) (by rfl) ?_; simp only [Act.put, List.setIfInBounds_toArray, List.set_cons_zero, List.set_cons_succ])
      first | (refine Reg.G_step (i := 7) rfl (by kernel_rfl) (by rfl) (fun K hK => ?_); go_big_quiet_op; refine hK _ ?_; clear hK K) | (refine Reg.G_skip (i := 7) rfl (by kernel_rfl) (by rfl) ?_; simp only [Act.put, List.setIfInBounds_toArray, List.set_cons_zero, List.set_cons_succ])
      first | (refine Reg.G_step (i := 8) rfl (by kernel_rfl) (by rfl) (fun K hK => ?_); go_big_quiet_op; refine hK _ ?_; clear hK K) | (refine Reg.G_skip (i := 8) rfl (by kernel_rfl) (by rfl) ?_; simp only [Act.put, List.setIfInBounds_toArray, List.set_cons_zero, List.set_cons_succ])
      refine Reg.G_event (i := 9) rfl (by kernel_rfl) (by rfl) (fun K hK => ?_)
      go_simp
      refine (HGet.out W hW).mono ?_
      rintro e v0 ⟨A1, c1, rfl, hs1, hv0, hf1⟩
      refine hK _ _ hv0 ?_
      clear hK K x0 x1
      rw [← hD]
      clear hD
      have HV := Lib.hid (bt hW hv0)
      have HS1 := Lib.hid hs1
      have HF1 := Lib.hid hf1
      clear hv0 hs1 hf1
      first | (refine Reg.G_step (i := 10) rfl (by kernel_rfl) (by rfl) (fun K hK => ?_); go_big_quiet_op; refine hK _ ?_; clear hK K) | (refine Reg.G_skip (i := 10) rfl (by kernel_rfl) (by rfl) ?_; simp only [Act.put, List.setIfInBounds_toArray, List.set_cons_zero, List.set_cons_succ])
      first | (refine Reg.G_step (i := 11) rfl (by kernel_rfl) (by rfl) (fun K hK => ?_); go_big_quiet_op; refine hK _ ?_; clear hK K) | (refine Reg.G_skip (i := 11) rfl (by kernel_rfl) (by rfl) ?_; simp only [Act.put, List.setIfInBounds_toArray, List.set_cons_zero, List.set_cons_succ])
      first | (refine Reg.G_step (i := 12) rfl (by kernel_rfl) (by rfl) (fun K hK => ?_); go_big_quiet_op; refine hK _ ?_; clear hK K) | (refine Reg.G_skip (i := 12) rfl (by kernel_rfl) (by rfl) ?_; simp only [Act.put, List.setIfInBounds_toArray, List.set_cons_zero, List.set_cons_succ])
      first | (refine Reg.G_step (i := 13) rfl (by kernel_rfl) (by rfl) (fun K hK => ?_); go_big_quiet_op; refine hK _ ?_; clear hK K) | (refine Reg.G_skip (i := 13) rfl (by kernel_rfl) (by rfl) ?_; simp only [Act.put, List.setIfInBounds_toArray, List.set_cons_zero, List.set_cons_succ])
      first | (refine Reg.G_step (i := 14) rfl (by kernel_rfl) (by rfl) (fun K hK => ?_); go_big_quiet_op; refine hK _ ?_; clear hK K) | (refine Reg.G_skip (i := 14) rfl (by kernel_rfl) (by rfl) ?_; simp only [Act.put, List.setIfInBounds_toArray, List.set_cons_zero, List.set_cons_succ])
      first | (refine Reg.G_step (i := 15) rfl (by kernel_rfl) (by rfl) (fun K hK => ?_); go_big_quiet_op; refine hK _ ?_; clear hK K) | (refine Reg.G_skip (i := 15) rfl (by kernel_rfl) (by rfl) ?_; simp only [Act.put, List.setIfInBounds_toArray, List.set_cons_zero, List.set_cons_succ])
      first | (refine Reg.G_step (i := 16) rfl (by kernel_rfl) (by rfl) (fun K hK => ?_); go_big_quiet_op; refine hK _ ?_; clear hK K) | (refine Reg.G_skip (i := 16) rfl (by kernel_rfl) (by rfl) ?_; simp only [Act.put, List.setIfInBounds_toArray, List.set_cons_zero, List.set_cons_succ])
      refine Reg.G_done rfl ?_
      obtain ⟨⟨p0, p1, p2⟩, p3, p4⟩ := HX.out.kept HV.out
      go_wp2_with fail
      go_ret
      exact ⟨none, 0, rfl, slO_none _, (fun a h => by cases h), left_bad HV.out HX.out hp⟩
  | some y =>
    obtain ⟨l, u⟩ := y
    have hu := hgi l u hg
    have hpu : (p : Int) + (u : Int) ≤ 9223372036854775807 := by omega
    rw [hg] at hget
    simp only [gotL] at hget
    obtain ⟨n1, hn1⟩ : ∃ n, n = l.length := ⟨_, rfl⟩
    simp only [← hn1] at hget
    have HLn := Lib.hid hn1
    have HGet := Lib.hid hget
    clear hget hgi hmx hn1
    cases bad with
    | true =>
      rw [show rd gL [] xs (p, true) = ([], (p, true)) from rd_bad]
      clear hg hu
      obtain ⟨⟨p0, p1, p2⟩, p3⟩ := HX.out
      go_enter Tryz.func32, Tryz.ntmps32
      go_wp2_with fail
      refine Reg.G_start (by kernel_rfl) (by repeat (first | exact Reg.frameless_bodyPost | refine Reg.frameless_then ?_ | refine Reg.frameless_inBlock ?_)) (fun W hW => ?_)
      have x0 := Reg.later_cell hW p0
      have x1 := Reg.later_cell hW p1
      clear p0 p1 p2 p3
      obtain ⟨D, hD⟩ : ∃ D, D = dropA A p c := ⟨_, rfl⟩
      unfold dropA at hD
      first | (refine Reg.G_step (i := 0) rfl (by kernel_rfl) (by rfl) (fun K hK => ?_); go_big_quiet_op; refine hK _ ?_; clear hK K) | (refine Reg.G_skip (i := 0) rfl (by kernel_rfl) (by rfl) ?_; simp only [Act.put, List.setIfInBounds_toArray, List.set_cons_zero, List.set_cons_succ])
      first | (refine Reg.G_step (i := 1) rfl (by kernel_rfl) (by rfl) (fun K hK => ?_); go_big_quiet_op; refine hK _ ?_; clear hK K) | (refine Reg.G_skip (i := 1) rfl (by kernel_rfl) (by rfl) ?_; simp only [Act.put, List.setIfInBounds_toArray, List.set_cons_zero, List.set_cons_succ])
      first | (refine Reg.G_step (i := 2) rfl (by kernel_rfl) (by rfl) (fun K hK => ?_); go_big_quiet_op; refine hK _ ?_; clear hK K) | (refine Reg.G_skip (i := 2) rfl (by kernel_rfl) (by rfl) ?_; simp only [Act.put, List.setIfInBounds_toArray, List.set_cons_zero, List.set_cons_succ])
      first | (refine Reg.G_step (i := 3) rfl (by kernel_rfl) (by rfl) (fun K hK => ?_); go_big_quiet_op; refine hK _ ?_; clear hK K) | (refine Reg.G_skip (i := 3) rfl (by kernel_rfl) (by rfl) ?_; simp only [Act.put, List.setIfInBounds_toArray, List.set_cons_zero, List.set_cons_succ])
      first | (refine Reg.G_step (i := 4) rfl (by kernel_rfl) (by rfl) (fun K hK => ?_); go_big_quiet_op; refine hK _ ?_; clear hK K) | (refine Reg.G_skip (i := 4) rfl (by kernel_rfl) (by rfl) ?_; simp only [Act.put, List.setIfInBounds_toArray, List.set_cons_zero, List.set_cons_succ])
      first | (refine Reg.G_step (i := 5) rfl (by kernel_rfl) (by rfl) (fun K hK => ?_); go_big_quiet_op; refine hK _ ?_; clear hK K) | (refine Reg.G_skip (i := 5) rfl (by kernel_rfl) (by rfl) ?_; simp only [Act.put, List.setIfInBounds_toArray, List.set_cons_zero, List.set_cons_succ])
      first | (refine Reg.G_step (i := 6) rfl (by kernel_rfl) (by rfl) (fun K hK => ?_); go_big_quiet_op; refine hK _ ?_; clear hK K) | (refine Reg.G_skip (i := 6) rfl (by kernel_rfl) (by rfl) ?_; simp only [Act.put, List.setIfInBounds_toArray, List.set_cons_zero, List.set_cons_succ])
      first | (refine Reg.G_step (i := 7) rfl (by kernel_rfl) (by rfl) (fun K hK => ?_); go_big_quiet_op; refine hK _ ?_; clear hK K) | (refine Reg.G_skip (i := 7) rfl (by kernel_rfl) (by rfl) ?_; simp only [Act.put, List.setIfInBounds_toArray, List.set_cons_zero, List.set_cons_succ])
      first | (refine Reg.G_step (i := 8) rfl (by kernel_rfl) (by rfl) (fun K hK => ?_); go_big_quiet_op; refine hK _ ?_; clear hK K) | (refine Reg.G_skip (i := 8) rfl (by kernel_rfl) (by rfl) ?_; simp only [Act.put, List.setIfInBounds_toArray, List.set_cons_zero, List.set_cons_succ])
      refine Reg.G_event (i := 9) rfl (by kernel_rfl) (by rfl) (fun K hK => ?_)
      go_simp
      refine (HGet.out W hW).mono ?_
      rintro e v0 ⟨A1, c1, rfl, hs1, hv0, hf1⟩
      refine hK _ _ hv0 ?_
      clear hK K x0 x1
      rw [← hD]
      clear hD
      have HV := Lib.hid (bt hW hv0)
      have HS1 := Lib.hid hs1
      have HF1 := Lib.hid hf1
      clear hv0 hs1 hf1
      first | (refine Reg.G_step (i := 10) rfl (by kernel_rfl) (by rfl) (fun K hK => ?_); go_big_quiet_op; refine hK _ ?_; clear hK K) | (refine Reg.G_skip (i := 10) rfl (by kernel_rfl) (by rfl) ?_; simp only [Act.put, List.setIfInBounds_toArray, List.set_cons_zero, List.set_cons_succ])
      first | (refine Reg.G_step (i := 11) rfl (by kernel_rfl) (by rfl) (fun K hK => ?_); go_big_quiet_op; refine hK _ ?_; clear hK K) | (refine Reg.G_skip (i := 11) rfl (by kernel_rfl) (by rfl) ?_; simp only [Act.put, List.setIfInBounds_toArray, List.set_cons_zero, List.set_cons_succ])
      first | (refine Reg.G_step (i := 12) rfl (by kernel_rfl) (by rfl) (fun K hK => ?_); go_big_quiet_op; refine hK _ ?_; clear hK K) | (refine Reg.G_skip (i := 12) rfl (by kernel_rfl) (by rfl) ?_; simp only [Act.put, List.setIfInBounds_toArray, List.set_cons_zero, List.set_cons_succ])
      first | (refine Reg.G_step (i := 13) rfl (by kernel_rfl) (by rfl) (fun K hK => ?_); go_big_quiet_op; refine hK _ ?_; clear hK K) | (refine Reg.G_skip (i := 13) rfl (by kernel_rfl) (by rfl) ?_; simp only [Act.put, List.setIfInBounds_toArray, List.set_cons_zero, List.set_cons_succ])
      first | (refine Reg.G_step (i := 14) rfl (by kernel_rfl) (by rfl) (fun K hK => ?_); go_big_quiet_op; refine hK _ ?_; clear hK K) | (refine Reg.G_skip (i := 14) rfl (by kernel_rfl) (by rfl) ?_; simp only [Act.put, List.setIfInBounds_toArray, List.set_cons_zero, List.set_cons_succ])
      first | (refine Reg.G_step (i := 15) rfl (by kernel_rfl) (by rfl) (fun K hK => ?_); go_big_quiet_op; refine hK _ ?_; clear hK K) | (refine Reg.G_skip (i := 15) rfl (by kernel_rfl) (by rfl) ?_; simp only [Act.put, List.setIfInBounds_toArray, List.set_cons_zero, List.set_cons_succ])
      first | (refine Reg.G_step (i := 16) rfl (by kernel_rfl) (by rfl) (fun K hK => ?_); go_big_quiet_op; refine hK _ ?_; clear hK K) | (refine Reg.G_skip (i := 16) rfl (by kernel_rfl) (by rfl) ?_; simp only [Act.put, List.setIfInBounds_toArray, List.set_cons_zero, List.set_cons_succ])
      refine Reg.G_done rfl ?_
      obtain ⟨⟨p0, p1, p2⟩, p3, p4⟩ := HX.out.kept HV.out
      go_wp2_with fail
      go_ret
      exact ⟨none, 0, rfl, slO_none _, (fun a h => by cases h), left_bad HV.out HX.out hp⟩
    | false =>
      rw [show rd gL [] xs (p, false) = (l, (p + u, false)) from rd_some hg]
      clear hg
      obtain ⟨⟨p0, p1, p2⟩, p3⟩ := HX.out
      go_enter Tryz.func32, Tryz.ntmps32
      go_wp2_with fail
      refine Reg.G_start (by kernel_rfl) (by repeat (first | exact Reg.frameless_bodyPost | refine Reg.frameless_then ?_ | refine Reg.frameless_inBlock ?_)) (fun W hW => ?_)
      have x0 := Reg.later_cell hW p0
      have x1 := Reg.later_cell hW p1
      clear p0 p1 p2 p3
      obtain ⟨D, hD⟩ : ∃ D, D = dropA A p c := ⟨_, rfl⟩
      unfold dropA at hD
      first | (refine Reg.G_step (i := 0) rfl (by kernel_rfl) (by rfl) (fun K hK => ?_); go_big_quiet_op; refine hK _ ?_; clear hK K) | (refine Reg.G_skip (i := 0) rfl (by kernel_rfl) (by rfl) ?_; simp only [Act.put, List.setIfInBounds_toArray, List.set_cons_zero, List.set_cons_succ])
      first | (refine Reg.G_step (i := 1) rfl (by kernel_rfl) (by rfl) (fun K hK => ?_); go_big_quiet_op; refine hK _ ?_; clear hK K) | (refine Reg.G_skip (i := 1) rfl (by kernel_rfl) (by rfl) ?_; simp only [Act.put, List.setIfInBounds_toArray, List.set_cons_zero, List.set_cons_succ])
      first | (refine Reg.G_step (i := 2) rfl (by kernel_rfl) (by rfl) (fun K hK => ?_); go_big_quiet_op; refine hK _ ?_; clear hK K) | (refine Reg.G_skip (i := 2) rfl (by kernel_rfl) (by rfl) ?_; simp only [Act.put, List.setIfInBounds_toArray, List.set_cons_zero, List.set_cons_succ])
      first | (refine Reg.G_step (i := 3) rfl (by kernel_rfl) (by rfl) (fun K hK => ?_); go_big_quiet_op; refine hK _ ?_; clear hK K) | (refine Reg.G_skip (i := 3) rfl (by kernel_rfl) (by rfl) ?_; simp only [Act.put, List.setIfInBounds_toArray, List.set_cons_zero, List.set_cons_succ])
      first | (refine Reg.G_step (i := 4) rfl (by kernel_rfl) (by rfl) (fun K hK => ?_); go_big_quiet_op; refine hK _ ?_; clear hK K) | (refine Reg.G_skip (i := 4) rfl (by kernel_rfl) (by rfl) ?_; simp only [Act.put, List.setIfInBounds_toArray, List.set_cons_zero, List.set_cons_succ])
      first | (refine Reg.G_step (i := 5) rfl (by kernel_rfl) (by rfl) (fun K hK => ?_); go_big_quiet_op; refine hK _ ?_; clear hK K) | (refine Reg.G_skip (i := 5) rfl (by kernel_rfl) (by rfl) ?_; simp only [Act.put, List.setIfInBounds_toArray, List.set_cons_zero, List.set_cons_succ])
      first | (refine Reg.G_step (i := 6) rfl (by kernel_rfl) (by rfl) (fun K hK => ?_); go_big_quiet_op; refine hK _ ?_; clear hK K) | (refine Reg.G_skip (i := 6) rfl (by kernel_rfl) (by rfl) ?_; simp only [Act.put, List.setIfInBounds_toArray, List.set_cons_zero, List.set_cons_succ])
      first | (refine Reg.G_step (i := 7) rfl (by kernel_rfl) (by rfl) (fun K hK => ?_); go_big_quiet_op; refine hK _ ?_; clear hK K) | (refine Reg.G_skip (i := 7) rfl (by kernel_rfl) (by rfl) ?_; simp only [Act.put, List.setIfInBounds_toArray, List.set_cons_zero, List.set_cons_succ])
      first | (refine Reg.G_step (i := 8) rfl (by kernel_rfl) (by rfl) (fun K hK => ?_); go_big_quiet_op; refine hK _ ?_; clear hK K) | (refine Reg.G_skip (i := 8) rfl (by kernel_rfl) (by rfl) ?_; simp only [Act.put, List.setIfInBounds_toArray, List.set_cons_zero, List.set_cons_succ])
      refine Reg.G_event (i := 9) rfl (by kernel_rfl) (by rfl) (fun K hK => ?_)
      go_simp
      refine (HGet.out W hW).mono ?_
      rintro e v0 ⟨A1, c1, rfl, hs1, hv0, hf1⟩
      refine hK _ _ hv0 ?_
      clear hK K x0 x1
      rw [← hD]
      clear hD
      have HV := Lib.hid (bt hW hv0)
      have HS1 := Lib.hid hs1
      have HF1 := Lib.hid hf1
      clear hv0 hs1 hf1
      first | (refine Reg.G_step (i := 10) rfl (by kernel_rfl) (by rfl) (fun K hK => ?_); go_big_quiet_op; refine hK _ ?_; clear hK K) | (refine Reg.G_skip (i := 10) rfl (by kernel_rfl) (by rfl) ?_; simp only [Act.put, List.setIfInBounds_toArray, List.set_cons_zero, List.set_cons_succ])
      first | (refine Reg.G_step (i := 11) rfl (by kernel_rfl) (by rfl) (fun K hK => ?_); go_big_quiet_op; refine hK _ ?_; clear hK K) | (refine Reg.G_skip (i := 11) rfl (by kernel_rfl) (by rfl) ?_; simp only [Act.put, List.setIfInBounds_toArray, List.set_cons_zero, List.set_cons_succ])
      first | (refine Reg.G_step (i := 12) rfl (by kernel_rfl) (by rfl) (fun K hK => ?_); go_big_quiet_op; refine hK _ ?_; clear hK K) | (refine Reg.G_skip (i := 12) rfl (by kernel_rfl) (by rfl) ?_; simp only [Act.put, List.setIfInBounds_toArray, List.set_cons_zero, List.set_cons_succ])
      first | (refine Reg.G_step (i := 13) rfl (by kernel_rfl) (by rfl) (fun K hK => ?_); go_big_quiet_op; refine hK _ ?_; clear hK K) | (refine Reg.G_skip (i := 13) rfl (by kernel_rfl) (by rfl) ?_; simp only [Act.put, List.setIfInBounds_toArray, List.set_cons_zero, List.set_cons_succ])
      first | (refine Reg.G_step (i := 14) rfl (by kernel_rfl) (by rfl) (fun K hK => ?_); go_big_quiet_op; refine hK _ ?_; clear hK K) | (refine Reg.G_skip (i := 14) rfl (by kernel_rfl) (by rfl) ?_; simp only [Act.put, List.setIfInBounds_toArray, List.set_cons_zero, List.set_cons_succ])
      first | (refine Reg.G_step (i := 15) rfl (by kernel_rfl) (by rfl) (fun K hK => ?_); go_big_quiet_op; refine hK _ ?_; clear hK K) | (refine Reg.G_skip (i := 15) rfl (by kernel_rfl) (by rfl) ?_; simp only [Act.put, List.setIfInBounds_toArray, List.set_cons_zero, List.set_cons_succ])
      first | (refine Reg.G_step (i := 16) rfl (by kernel_rfl) (by rfl) (fun K hK => ?_); go_big_quiet_op; refine hK _ ?_; clear hK K) | (refine Reg.G_skip (i := 16) rfl (by kernel_rfl) (by rfl) ?_; simp only [Act.put, List.setIfInBounds_toArray, List.set_cons_zero, List.set_cons_succ])
      refine Reg.G_done rfl ?_
      obtain ⟨⟨p0, p1, p2⟩, p3, p4⟩ := HX.out.kept HV.out
      go_wp2_with fail
      go_ret
      exact ⟨A1, c1, (by rw [← HLn.out]; rfl), slO_grown' HS1.out (grown_set _ b 1 _) (fun _ a h e => by injection e with e; exact Nat.ne_of_gt (Nat.lt_of_lt_of_le hblt (Nat.le_trans hW.size (HF1.out a h))) e), (fun a h => Nat.le_trans hW.size (HF1.out a h)), left_got HV.out HX.out (show p + u ≤ N by omega)⟩
end Go.Proofs.YtbmdkibmfkmjoaaGreat.Qy

namespace Go.Proofs.YtbmdkibmfkmjoaaGreat.Sc
open Go.RowKit Go.Proofs.YtbmdkibmfkmjoaaGreat.BM Go.Proofs.YtbmdkibmfkmjoaaGreat.VaM Go.Proofs.YtbmdkibmfkmjoaaGreat.Va Go.Proofs.YtbmdkibmfkmjoaaGreat.ScM

/-- The order of the document's answers: byte by byte. -/
theorem refOk {x : Int} : (smallB x = true ↔ 97 ≤ x ∧ x ≤ 122) ∧ (behB x = true ↔ x = 95 ∨ (48 ≤ x ∧ x ≤ 57)) := by
  simp [smallB, behB]

set_option maxRecDepth 100000 in
theorem refName_any (s : ByteArray) (w : World) (hs : s.size ≤ maxLen) : Calls Tryz.prog 75 #[.string s] w fun e w' => e = .returned (.bool (decide (Nm s))) ∧ w = w' := by
  unfold maxLen at hs
  go_enter Tryz.func75, Tryz.ntmps75
  go_wp2_with fail
  go_loop [3] (fun i => ∃ pos : Nat, i = .int .i64 pos ∧ pos ≤ s.size ∧ okPre (bl s) pos) (fun i => s.size - (intOf i).toNat)
  case atStart => exact ⟨0, rfl, Nat.zero_le _, fun j hj => absurd hj (Nat.not_lt_zero j)⟩
  case round =>
    obtain ⟨pos, rfl, hpos, hpre⟩ := hrel
    have HPre := Lib.hid hpre
    clear hpre
    by_cases hp : pos < s.size
    · have hix := fun W => index_s s pos hp W
      obtain ⟨x, hx⟩ : ∃ x, x = (bl s).getD pos 0 := ⟨_, rfl⟩
      rw [← hx] at hix
      have no : ¬ (97 ≤ x ∧ x ≤ 122) → (pos = 0 ∨ ¬ (x = 95 ∨ (48 ≤ x ∧ x ≤ 57))) → ¬ Nm s := fun h1 h2 hn => by
        have h := hn.2.2 pos (by rw [bl_len]; exact hp)
        unfold okAt at h
        rw [← hx, refOk.1, refOk.2] at h
        rcases h with h | ⟨h3, h4⟩
        · exact h1 h
        · rcases h2 with h2 | h2
          · exact h3 h2
          · exact h2 h4
      have yes : ((97 ≤ x ∧ x ≤ 122) ∨ (pos ≠ 0 ∧ (x = 95 ∨ (48 ≤ x ∧ x ≤ 57)))) → okPre (bl s) (pos + 1) := fun h => okPre_succ HPre.out (by unfold okAt; rw [← hx, refOk.1, refOk.2]; exact h)
      have HNo := Lib.hid no
      have HYes := Lib.hid yes
      clear no yes hx
      have hways : (97 ≤ x ∧ x ≤ 122) ∨ (x < 97 ∧ pos = 0) ∨ (122 < x ∧ pos = 0) ∨ (122 < x ∧ pos ≠ 0) ∨ (x = 95 ∧ pos ≠ 0) ∨ (x < 48 ∧ pos ≠ 0) ∨ (57 < x ∧ x < 97 ∧ x ≠ 95 ∧ pos ≠ 0) ∨ (48 ≤ x ∧ x ≤ 57 ∧ pos ≠ 0) := by omega
      rcases hways with ⟨h1, h2⟩ | ⟨h1, h2⟩ | ⟨h1, h2⟩ | ⟨h1, h2⟩ | ⟨rfl, h2⟩ | ⟨h1, h2⟩ | ⟨h1, h2, h3, h4⟩ | ⟨h1, h2, h3⟩
      · go_wp2_with fail
        go_round
        case rel => exact ⟨pos + 1, by go_num, by omega, HYes.out (Or.inl ⟨h1, h2⟩)⟩
        case measure => simp [intOf]; omega
      · have hz : ((pos : Int) == 0) = true := by rw [beq_iff_eq]; omega
        have H2 := Lib.hid h2
        clear h2
        go_wp2_with fail
        go_ret
        exact ⟨ret_v (x := .bool false) (by rw [decide_eq_false (HNo.out (by omega) (Or.inl H2.out))]), rfl⟩
      · have hz : ((pos : Int) == 0) = true := by rw [beq_iff_eq]; omega
        have h97 : 97 ≤ x := by omega
        have hd : decide (x ≤ 122) = false := by rw [decide_eq_false_iff_not]; omega
        have H2 := Lib.hid h2
        clear h2
        go_wp2_with fail
        go_ret
        exact ⟨ret_v (x := .bool false) (by rw [decide_eq_false (HNo.out (by omega) (Or.inl H2.out))]), rfl⟩
      · have hz : ((pos : Int) == 0) = false := by rw [beq_eq_false_iff_ne]; omega
        have hn : (x != 95) = true := by rw [bne_iff_ne]; omega
        have h3 : 97 ≤ x := by omega
        have h4 : 57 < x := by omega
        have h5 : 48 ≤ x := by omega
        have hd : decide (x ≤ 122) = false := by rw [decide_eq_false_iff_not]; omega
        go_wp2_with fail
        go_ret
        exact ⟨ret_v (x := .bool false) (by rw [decide_eq_false (HNo.out (by omega) (Or.inr (by omega)))]), rfl⟩
      · have hz : ((pos : Int) == 0) = false := by rw [beq_eq_false_iff_ne]; omega
        go_wp2_with fail
        go_round
        case rel => exact ⟨pos + 1, by go_num, by omega, HYes.out (Or.inr ⟨h2, Or.inl rfl⟩)⟩
        case measure => simp [intOf]; omega
      · have hz : ((pos : Int) == 0) = false := by rw [beq_eq_false_iff_ne]; omega
        have hn : (x != 95) = true := by rw [bne_iff_ne]; omega
        go_wp2_with fail
        go_ret
        exact ⟨ret_v (x := .bool false) (by rw [decide_eq_false (HNo.out (by omega) (Or.inr (by omega)))]), rfl⟩
      · have hz : ((pos : Int) == 0) = false := by rw [beq_eq_false_iff_ne]; omega
        have hn : (x != 95) = true := by rw [bne_iff_ne]; omega
        go_wp2_with fail
        go_ret
        exact ⟨ret_v (x := .bool false) (by rw [decide_eq_false (HNo.out (by omega) (Or.inr (by omega)))]), rfl⟩
      · have hz : ((pos : Int) == 0) = false := by rw [beq_eq_false_iff_ne]; omega
        have hn : (x != 95) = true := by rw [bne_iff_ne]; omega
        go_wp2_with fail
        go_round
        case rel => exact ⟨pos + 1, by go_num, by omega, HYes.out (Or.inr ⟨h3, Or.inr ⟨h1, h2⟩⟩)⟩
        case measure => simp [intOf]; omega
    · obtain rfl : pos = s.size := by omega
      by_cases h0 : s.size = 0
      · obtain rfl := size_e0.1 h0
        go_wp2_with fail
        go_ret
        exact ⟨ret_v (x := .bool false) (by rw [decide_eq_false (fun h => by have := (nm_size h).1; rw [e0_size] at this; omega)]), rfl⟩
      · have hd : decide (Nm s) = decide ((s.size : Int) ≤ 12) := by
          rw [decide_eq_decide]
          exact ⟨fun h => by have := (nm_size h).2; omega, fun h => ⟨by rw [bl_len]; omega, by rw [bl_len]; omega, by rw [bl_len]; exact HPre.out⟩⟩
        have HD := Lib.hid hd
        clear hd
        go_wp2_with fail
        go_ret
        exact ⟨ret_v (x := .bool (decide ((s.size : Int) ≤ 12))) (by rw [HD.out]), rfl⟩
end Go.Proofs.YtbmdkibmfkmjoaaGreat.Sc

namespace Go.Proofs.YtbmdkibmfkmjoaaGreat.Qy
open Go.RowKit Go.Proofs.YtbmdkibmfkmjoaaGreat.BM Go.Proofs.YtbmdkibmfkmjoaaGreat.LM Go.Proofs.YtbmdkibmfkmjoaaGreat.VaM Go.Proofs.YtbmdkibmfkmjoaaGreat.ExM Go.Proofs.YtbmdkibmfkmjoaaGreat.QyM
open Go.Proofs.YtbmdkibmfkmjoaaGreat.Va (ret_v str_e0)

/-- A step, as a value of the program. -/
def agSt (x : St) (A : Option Addr) (c : Nat) (B : Option Addr) (d : Nat) : Value := .agg #[.string x.s, .slice A x.f.length c, .int .i64 x.lo, .int .i64 x.hi, .bool x.g, .string x.t, .slice B x.h.length d]

theorem e0_iff (s : ByteArray) : s.toList.isEmpty = decide (s = e0) := by
  by_cases h : s.size = 0
  · obtain rfl : s = e0 := by
      cases s with
      | mk d => rw [show d = #[] from Array.eq_empty_of_size_eq_zero h]; rfl
    rw [decide_eq_true rfl]
    show (ByteArray.mk #[]).toList.isEmpty = true
    rw [ByteArray.toList_eq]
    rfl
  · rw [str_e0 h, decide_eq_false (fun e => h (by rw [e]; rfl))]
theorem bx7 {w : World} {b : Nat} {v0 v1 v2 v3 v4 v5 v6 : Value} (h : RG.BxN w b [v0, v1, v2, v3, v4, v5, v6]) : w.cell? ⟨b, 0, none⟩ = some v0 ∧ w.cell? ⟨b, 1, none⟩ = some v1 ∧ w.cell? ⟨b, 2, none⟩ = some v2 ∧ w.cell? ⟨b, 3, none⟩ = some v3 ∧ w.cell? ⟨b, 4, none⟩ = some v4 ∧ w.cell? ⟨b, 5, none⟩ = some v5 ∧ w.cell? ⟨b, 6, none⟩ = some v6 :=
  ⟨(h 0 _ rfl).1, (h 1 _ rfl).1, (h 2 _ rfl).1, (h 3 _ rfl).1, (h 4 _ rfl).1, (h 5 _ rfl).1, (h 6 _ rfl).1⟩
theorem bx7_lt {w : World} {b : Nat} {v0 v1 v2 v3 v4 v5 v6 : Value} (h : RG.BxN w b [v0, v1, v2, v3, v4, v5, v6]) : b < w.heap.size := RG.BxN.lt h (show 0 < 7 by decide)
theorem bx5 {w : World} {b : Nat} {v0 v1 v2 v3 v4 : Value} (h : RG.BxN w b [v0, v1, v2, v3, v4]) : w.cell? ⟨b, 0, none⟩ = some v0 ∧ w.cell? ⟨b, 1, none⟩ = some v1 ∧ w.cell? ⟨b, 2, none⟩ = some v2 ∧ w.cell? ⟨b, 3, none⟩ = some v3 ∧ w.cell? ⟨b, 4, none⟩ = some v4 :=
  ⟨(h 0 _ rfl).1, (h 1 _ rfl).1, (h 2 _ rfl).1, (h 3 _ rfl).1, (h 4 _ rfl).1⟩
end Go.Proofs.YtbmdkibmfkmjoaaGreat.Qy

namespace Go.Proofs.YtbmdkibmfkmjoaaGreat.Qy
open Go.RowKit Go.Proofs.YtbmdkibmfkmjoaaGreat.BM Go.Proofs.YtbmdkibmfkmjoaaGreat.LM Go.Proofs.YtbmdkibmfkmjoaaGreat.VaM Go.Proofs.YtbmdkibmfkmjoaaGreat.ExM Go.Proofs.YtbmdkibmfkmjoaaGreat.QyM
open Go.Proofs.YtbmdkibmfkmjoaaGreat.Ex (SlO slO_none slO_len)
open Go.Proofs.YtbmdkibmfkmjoaaGreat.Va (ret_v str_e0)
open Go.Proofs.YtbmdkibmfkmjoaaGreat.ScM (Nm)

/-- Whether a step is well made, by its questions one by one. -/
theorem stOk_iff {x : St} {b1 b2 nm my c1 c2 c3 c4 nt mh : Bool} {te he : Bool} (g1 : decide (Nm x.s) = nm) (g2 : decide (ExM.May x.f) = my) (g3 : decide (x.lo < 1) = c1) (g4 : decide (x.hi < x.lo) = c2) (g5 : decide (4 < x.hi) = c3) (g6 : (x.lo != x.hi) = c4)
    (g7 : decide (Nm x.t) = nt) (g8 : decide (ExM.May x.h) = mh) (g9 : decide (x.t = e0) = te) (g10 : decide (x.h.length = 0) = he) :
    StOk x (b1 = true) (b2 = true) ↔ nm = true ∧ my = true ∧ c1 = false ∧ c2 = false ∧ c3 = false ∧ (b2 = false ∨ c4 = false) ∧ (x.g = false → te = true ∧ he = true) ∧ (x.g = true → b1 = false ∧ nt = true ∧ mh = true) := by
  subst g1 g2 g3 g4 g5 g6 g7 g8 g9 g10
  unfold StOk
  simp only [decide_eq_true_iff, decide_eq_false_iff_not, bne_eq_false_iff_eq, List.length_eq_zero_iff, Bool.not_eq_true]
  constructor
  · rintro ⟨h1, h2, h3, h4, h5, h6, h7, h8⟩
    refine ⟨h1, h2, by omega, by omega, by omega, ?_, h7, h8⟩
    cases b2
    · exact Or.inl rfl
    · exact Or.inr (h6 rfl)
  · rintro ⟨h1, h2, h3, h4, h5, h6, h7, h8⟩
    refine ⟨h1, h2, by omega, by omega, by omega, fun e => ?_, h7, h8⟩
    rcases h6 with h6 | h6
    · rw [h6] at e
      cases e
    · exact h6

theorem stWays (nm my c1 c2 c3 last c4 : Bool) :
    (nm = false ∨ (nm = true ∧ my = false) ∨ (nm = true ∧ my = true ∧ c1 = true) ∨ (nm = true ∧ my = true ∧ c1 = false ∧ c2 = true) ∨ (nm = true ∧ my = true ∧ c1 = false ∧ c2 = false ∧ c3 = true) ∨ (nm = true ∧ my = true ∧ c1 = false ∧ c2 = false ∧ c3 = false ∧ last = true ∧ c4 = true)) ∨
    ((nm = true ∧ my = true ∧ c1 = false ∧ c2 = false ∧ c3 = false ∧ last = false) ∨ (nm = true ∧ my = true ∧ c1 = false ∧ c2 = false ∧ c3 = false ∧ last = true ∧ c4 = false)) := by
  cases nm <;> cases my <;> cases c1 <;> cases c2 <;> cases c3 <;> cases last <;> cases c4 <;> simp

set_option maxRecDepth 100000 in
set_option maxHeartbeats 8000000 in
theorem refStep_any (x : St) (b1 b2 : Bool) (A : Option Addr) (c : Nat) (B : Option Addr) (d : Nat) (w : World) (hA : SlO w A x.f c) (hB : SlO w B x.h d) (hz : FineSt x) :
    Calls Tryz.prog 45 #[agSt x A c B d, .bool b1, .bool b2] w fun e w' => e = .returned (.bool (decide (StOk x (b1 = true) (b2 = true)))) ∧ Below w.heap.size w w' := by
  have hn1 := fun W => Sc.refName_any x.s W hz.1.1
  have hn2 := fun W => Sc.refName_any x.t W hz.1.2
  have hm1 := fun W (h : Below w.heap.size w W) => Ex.refMay_any x.f A c W (hA.kept h)
  have hm2 := fun W (h : Below w.heap.size w W) => Ex.refMay_any x.h B d W (hB.kept h)
  obtain ⟨nm, g1⟩ : ∃ b, decide (Nm x.s) = b := ⟨_, rfl⟩
  obtain ⟨my, g2⟩ : ∃ b, decide (ExM.May x.f) = b := ⟨_, rfl⟩
  obtain ⟨q1, g3⟩ : ∃ b, decide (x.lo < 1) = b := ⟨_, rfl⟩
  obtain ⟨q2, g4⟩ : ∃ b, decide (x.hi < x.lo) = b := ⟨_, rfl⟩
  obtain ⟨q3, g5⟩ : ∃ b, decide (4 < x.hi) = b := ⟨_, rfl⟩
  obtain ⟨q4, g6⟩ : ∃ b, (x.lo != x.hi) = b := ⟨_, rfl⟩
  obtain ⟨nt, g7⟩ : ∃ b, decide (Nm x.t) = b := ⟨_, rfl⟩
  obtain ⟨mh, g8⟩ : ∃ b, decide (ExM.May x.h) = b := ⟨_, rfl⟩
  obtain ⟨te, g9⟩ : ∃ b, decide (x.t = e0) = b := ⟨_, rfl⟩
  obtain ⟨he, g10⟩ : ∃ b, decide (x.h.length = 0) = b := ⟨_, rfl⟩
  have hiff := stOk_iff (b1 := b1) (b2 := b2) g1 g2 g3 g4 g5 g6 g7 g8 g9 g10
  simp only [g1] at hn1
  simp only [g7] at hn2
  simp only [g2] at hm1
  simp only [g8] at hm2
  obtain ⟨R, hR⟩ : ∃ R, R = decide (StOk x (b1 = true) (b2 = true)) := ⟨_, rfl⟩
  rw [← hR]
  have hr : R = true ↔ nm = true ∧ my = true ∧ q1 = false ∧ q2 = false ∧ q3 = false ∧ (b2 = false ∨ q4 = false) ∧ (x.g = false → te = true ∧ he = true) ∧ (x.g = true → b1 = false ∧ nt = true ∧ mh = true) := by rw [hR, decide_eq_true_iff, hiff]
  have g11 : x.t.toList.isEmpty = te := by rw [← g9]; exact e0_iff x.t
  have g12 : ((x.h.length : Int) == 0) = he := by
    rw [← g10, Bool.eq_iff_iff, beq_iff_eq, decide_eq_true_iff]
    omega
  have hX := (bxSt_new w x A c B d).cells
  have ha := (Below.refl w.heap.size w).alloc (Nat.le_refl _) (.cells #[.string x.s, .slice A x.f.length c, .int .i64 x.lo, .int .i64 x.hi, .bool x.g, .string x.t, .slice B x.h.length d] 47)
  obtain ⟨xs, xf, lo, hi, xg, xt, xh⟩ := x
  unfold agSt
  unfold CellSt at hX
  simp only at hn1 hn2 hm1 hm2 g3 g4 g5 g6 g11 g12 hr hX ha ⊢
  obtain ⟨n1, hn1'⟩ : ∃ n, n = xf.length := ⟨_, rfl⟩
  obtain ⟨n2, hn2'⟩ : ∃ n, n = xh.length := ⟨_, rfl⟩
  simp only [← hn1'] at hm1 ha hX
  simp only [← hn2'] at hm2 ha hX g12
  rw [← hn1', ← hn2']
  have HB := Lib.hid ha
  have HN1 := Lib.hid hn1
  have HN2 := Lib.hid hn2
  have HM1 := Lib.hid hm1
  have HM2 := Lib.hid hm2
  have HR := Lib.hid hr
  obtain ⟨p0, p1, p2, p3, p4, p5, p6⟩ := hX
  have HC := Lib.hid (And.intro p0 (And.intro p1 (And.intro p2 (And.intro p3 (And.intro p4 (And.intro p5 p6))))))
  clear hn1 hn2 hm1 hm2 hr ha hR hiff hn1' hn2' g1 g2 g7 g8 g9 g10 hA hB hz
  go_enter Tryz.func45, Tryz.ntmps45
  go_wp2_with fail
  refine (HN1.out _).mono ?_
  rintro e w1 ⟨rfl, rfl⟩
  go_wp2_with fail
  refine (HM1.out _ HB.out).mono ?_
  rintro e w2 ⟨rfl, hb2⟩
  have HB2 := Lib.hid (bt HB.out hb2)
  have hk := fun (b q : Nat) (v : Value) (h : (w.alloc (.cells #[.string xs, .slice A n1 c, .int .i64 lo, .int .i64 hi, .bool xg, .string xt, .slice B n2 d] 47)).cell? ⟨b, q, none⟩ = some v) => (hb2.cell (p := ⟨b, q, none⟩) (World.block_lt_of_cell? _ _ h)).trans h
  obtain ⟨z0, z1, z2, z3, z4, z5, z6⟩ := HC.out
  have p0' := hk _ _ _ z0
  have p1' := hk _ _ _ z1
  have p2' := hk _ _ _ z2
  have p3' := hk _ _ _ z3
  have p4' := hk _ _ _ z4
  have p5' := hk _ _ _ z5
  have p6' := hk _ _ _ z6
  clear hb2 hk HM1 HN1 p0 p1 p2 p3 p4 p5 p6 z0 z1 z2 z3 z4 z5 z6
  rcases stWays nm my q1 q2 q3 b2 q4 with hbad | hgood
  · have HRf := Lib.hid (show R = false from by
      cases R
      · rfl
      · obtain ⟨r1, r2, r3, r4, r5, r6, _⟩ := HR.out.1 rfl
        subst r1 r2 r3 r4 r5
        simp at hbad
        rcases r6 with r6 | r6
        · rw [r6] at hbad
          simp at hbad
        · rw [r6] at hbad
          simp at hbad)
    clear HR
    rcases hbad with rfl | ⟨rfl, rfl⟩ | ⟨rfl, rfl, rfl⟩ | ⟨rfl, rfl, rfl, rfl⟩ | ⟨rfl, rfl, rfl, rfl, rfl⟩ | ⟨rfl, rfl, rfl, rfl, rfl, rfl, rfl⟩
    all_goals
      go_wp2_with fail
      go_ret
      exact ⟨ret_v (x := .bool false) (by rw [HRf.out]), HB2.out⟩
  · have hok : nm = true ∧ my = true ∧ q1 = false ∧ q2 = false ∧ q3 = false ∧ (b2 = false ∨ q4 = false) := by
      rcases hgood with ⟨h1, h2, h3, h4, h5, h6⟩ | ⟨h1, h2, h3, h4, h5, h6, h7⟩
      · exact ⟨h1, h2, h3, h4, h5, Or.inl h6⟩
      · exact ⟨h1, h2, h3, h4, h5, Or.inr h7⟩
    cases xg
    · have HRe := Lib.hid (show R = (te && he) from by
        rw [Bool.eq_iff_iff, HR.out, Bool.and_eq_true]
        constructor
        · exact fun h => h.2.2.2.2.2.2.1 rfl
        · exact fun h => ⟨hok.1, hok.2.1, hok.2.2.1, hok.2.2.2.1, hok.2.2.2.2.1, hok.2.2.2.2.2, (fun _ => h), (fun e => by cases e)⟩)
      clear HR hok
      rcases hgood with ⟨rfl, rfl, rfl, rfl, rfl, rfl⟩ | ⟨rfl, rfl, rfl, rfl, rfl, rfl, rfl⟩
      all_goals
        cases te
        · go_wp2_with fail
          go_ret
          exact ⟨ret_v (x := .bool false) (by rw [HRe.out]; rfl), HB2.out⟩
        · go_wp2_with fail
          go_ret
          exact ⟨ret_v (x := .bool he) (by rw [HRe.out]; rfl), HB2.out⟩
    · have HRe := Lib.hid (show R = (!b1 && nt && mh) from by
        rw [Bool.eq_iff_iff, HR.out, Bool.and_eq_true, Bool.and_eq_true, Bool.not_eq_true']
        constructor
        · intro h
          obtain ⟨h1, h2, h3⟩ := h.2.2.2.2.2.2.2 rfl
          exact ⟨⟨h1, h2⟩, h3⟩
        · exact fun h => ⟨hok.1, hok.2.1, hok.2.2.1, hok.2.2.2.1, hok.2.2.2.2.1, hok.2.2.2.2.2, (fun e => by cases e), fun _ => ⟨h.1.1, h.1.2, h.2⟩⟩)
      clear HR hok g11 g12
      rcases hgood with ⟨rfl, rfl, rfl, rfl, rfl, rfl⟩ | ⟨rfl, rfl, rfl, rfl, rfl, rfl, rfl⟩
      all_goals
        go_wp2_with fail
        refine (HN2.out _).mono ?_
        rintro e w3 ⟨rfl, rfl⟩
        go_wp2_with fail
        refine (HM2.out _ HB2.out).mono ?_
        rintro e w4 ⟨rfl, hb4⟩
        have HB4 := Lib.hid (bt HB2.out hb4)
        clear hb4
        cases b1
        · cases nt
          · go_wp2_with fail
            go_ret
            exact ⟨ret_v (x := .bool false) (by rw [HRe.out]; rfl), HB4.out⟩
          · go_wp2_with fail
            go_ret
            exact ⟨ret_v (x := .bool mh) (by rw [HRe.out]; rfl), HB4.out⟩
        · go_wp2_with fail
          go_ret
          exact ⟨ret_v (x := .bool false) (by rw [HRe.out]; rfl), HB4.out⟩
end Go.Proofs.YtbmdkibmfkmjoaaGreat.Qy

namespace Go.Proofs.YtbmdkibmfkmjoaaGreat.Qy
open Go.RowKit Go.Proofs.YtbmdkibmfkmjoaaGreat.BM Go.Proofs.YtbmdkibmfkmjoaaGreat.LM Go.Proofs.YtbmdkibmfkmjoaaGreat.VaM Go.Proofs.YtbmdkibmfkmjoaaGreat.ExM Go.Proofs.YtbmdkibmfkmjoaaGreat.QyM
open Go.Proofs.YtbmdkibmfkmjoaaGreat.Ex (SlO slO_none slO_len)
open Go.Proofs.YtbmdkibmfkmjoaaGreat.Va (ret_v)

set_option maxRecDepth 100000 in
set_option maxHeartbeats 16000000 in
theorem refMay_any (q : Q) (A : Option Addr) (c : Nat) (w : World) (hS : SlSt w A q.p c) :
    Calls Tryz.prog 19 #[agQ q A c] w fun e w' => e = .returned (.bool (decide (May q))) ∧ Below w.heap.size w w' := by
  have hl := slSt_len hS
  have hmay : May q ↔ (1 ≤ q.p.length ∧ q.p.length ≤ 4) ∧ (0 ≤ q.w ∧ q.w ≤ 1125899906842624) ∧ (0 ≤ q.a ∧ q.a < 4) ∧ (0 ≤ q.i ∧ q.i < (q.p.length : Int)) ∧ (0 ≤ q.f ∧ q.f < 6) ∧ (q.a = 0 → q.f = 0) ∧ StsOk q.p q.p.length := Iff.rfl
  have hok : ∀ j, j < q.p.length → ¬ StOk (q.p.getD j t0) (j = 0) (j + 1 = q.p.length) → ¬ StsOk q.p q.p.length := fun j hj h k => h (k j hj)
  have hsu := fun j => @StsOk.succ q.p j
  have hX := (bxQ_new w q A c).cells
  have ha := (Below.refl w.heap.size w).alloc (Nat.le_refl _) (.cells #[.slice A q.p.length c, .int .i64 q.w, .int .i64 q.a, .int .i64 q.i, .int .i64 q.f] 25)
  obtain ⟨R, hR⟩ : ∃ R, R = decide (May q) := ⟨_, rfl⟩
  unfold agQ
  rw [← hR]
  have hr : R = true ↔ May q := by rw [hR, decide_eq_true_iff]
  rw [hmay] at hr
  obtain ⟨qp, qw, qa, qi, qf⟩ := q
  simp only at hS hl hok hsu hX ha hr ⊢
  obtain ⟨n, hn⟩ : ∃ n, n = qp.length := ⟨_, rfl⟩
  simp only [← hn] at hl hok hsu hX ha hr
  rw [← hn]
  have hfalse : ¬ ((1 ≤ n ∧ n ≤ 4) ∧ (0 ≤ qw ∧ qw ≤ 1125899906842624) ∧ (0 ≤ qa ∧ qa < 4) ∧ (0 ≤ qi ∧ qi < (n : Int)) ∧ (0 ≤ qf ∧ qf < 6) ∧ (qa = 0 → qf = 0) ∧ StsOk qp n) → R = false := fun h => by
    cases R
    · rfl
    · exact absurd (hr.1 rfl) h
  have HFa := Lib.hid hfalse
  have HTr := Lib.hid hr.2
  have HN := Lib.hid hn
  have HS := Lib.hid hS
  have HOk := Lib.hid hok
  have HSu := Lib.hid hsu
  have HB := Lib.hid ha
  obtain ⟨p0, p1, p2, p3, p4⟩ := hX
  clear hfalse hr hn hS hok hsu ha hmay hR
  by_cases h1 : 1 ≤ n
  rotate_left
  · have HR := Lib.hid (HFa.out (by omega))
    have g1_0 : decide (n < 1) = true := by rw [decide_eq_true_iff]; omega
    have g1_1 : decide ((n : Int) < 1) = true := by rw [decide_eq_true_iff]; omega
    go_enter Tryz.func19, Tryz.ntmps19
    go_wp2_with fail
    go_ret
    exact ⟨ret_v (x := .bool false) (by rw [HR.out]), HB.out⟩
  have g1_0 : decide (n < 1) = false := by rw [decide_eq_false_iff_not]; omega
  have g1_1 : decide ((n : Int) < 1) = false := by rw [decide_eq_false_iff_not]; omega
  by_cases h2 : n ≤ 4
  rotate_left
  · have HR := Lib.hid (HFa.out (by omega))
    have g2_0 : decide (4 < n) = true := by rw [decide_eq_true_iff]; omega
    have g2_1 : decide ((4 : Int) < (n : Int)) = true := by rw [decide_eq_true_iff]; omega
    go_enter Tryz.func19, Tryz.ntmps19
    go_wp2_with fail
    go_ret
    exact ⟨ret_v (x := .bool false) (by rw [HR.out]), HB.out⟩
  have g2_0 : decide (4 < n) = false := by rw [decide_eq_false_iff_not]; omega
  have g2_1 : decide ((4 : Int) < (n : Int)) = false := by rw [decide_eq_false_iff_not]; omega
  by_cases h3 : 0 ≤ qw
  rotate_left
  · have HR := Lib.hid (HFa.out (by omega))
    have g3_0 : decide (qw < 0) = true := by rw [decide_eq_true_iff]; omega
    go_enter Tryz.func19, Tryz.ntmps19
    go_wp2_with fail
    go_ret
    exact ⟨ret_v (x := .bool false) (by rw [HR.out]), HB.out⟩
  have g3_0 : decide (qw < 0) = false := by rw [decide_eq_false_iff_not]; omega
  by_cases h4 : qw ≤ 1125899906842624
  rotate_left
  · have HR := Lib.hid (HFa.out (by omega))
    have g4_0 : decide (1125899906842624 < qw) = true := by rw [decide_eq_true_iff]; omega
    go_enter Tryz.func19, Tryz.ntmps19
    go_wp2_with fail
    go_ret
    exact ⟨ret_v (x := .bool false) (by rw [HR.out]), HB.out⟩
  have g4_0 : decide (1125899906842624 < qw) = false := by rw [decide_eq_false_iff_not]; omega
  by_cases h5 : 0 ≤ qa
  rotate_left
  · have HR := Lib.hid (HFa.out (by omega))
    have g5_0 : decide (qa < 0) = true := by rw [decide_eq_true_iff]; omega
    go_enter Tryz.func19, Tryz.ntmps19
    go_wp2_with fail
    go_ret
    exact ⟨ret_v (x := .bool false) (by rw [HR.out]), HB.out⟩
  have g5_0 : decide (qa < 0) = false := by rw [decide_eq_false_iff_not]; omega
  by_cases h6 : qa < 4
  rotate_left
  · have HR := Lib.hid (HFa.out (by omega))
    have g6_0 : decide (4 ≤ qa) = true := by rw [decide_eq_true_iff]; omega
    go_enter Tryz.func19, Tryz.ntmps19
    go_wp2_with fail
    go_ret
    exact ⟨ret_v (x := .bool false) (by rw [HR.out]), HB.out⟩
  have g6_0 : decide (4 ≤ qa) = false := by rw [decide_eq_false_iff_not]; omega
  by_cases h7 : 0 ≤ qi
  rotate_left
  · have HR := Lib.hid (HFa.out (by omega))
    have g7_0 : decide (qi < 0) = true := by rw [decide_eq_true_iff]; omega
    go_enter Tryz.func19, Tryz.ntmps19
    go_wp2_with fail
    go_ret
    exact ⟨ret_v (x := .bool false) (by rw [HR.out]), HB.out⟩
  have g7_0 : decide (qi < 0) = false := by rw [decide_eq_false_iff_not]; omega
  by_cases h8 : qi < (n : Int)
  rotate_left
  · have HR := Lib.hid (HFa.out (by omega))
    have g8_0 : decide ((n : Int) ≤ qi) = true := by rw [decide_eq_true_iff]; omega
    go_enter Tryz.func19, Tryz.ntmps19
    go_wp2_with fail
    go_ret
    exact ⟨ret_v (x := .bool false) (by rw [HR.out]), HB.out⟩
  have g8_0 : decide ((n : Int) ≤ qi) = false := by rw [decide_eq_false_iff_not]; omega
  by_cases h9 : 0 ≤ qf
  rotate_left
  · have HR := Lib.hid (HFa.out (by omega))
    have g9_0 : decide (qf < 0) = true := by rw [decide_eq_true_iff]; omega
    go_enter Tryz.func19, Tryz.ntmps19
    go_wp2_with fail
    go_ret
    exact ⟨ret_v (x := .bool false) (by rw [HR.out]), HB.out⟩
  have g9_0 : decide (qf < 0) = false := by rw [decide_eq_false_iff_not]; omega
  by_cases h10 : qf < 6
  rotate_left
  · have HR := Lib.hid (HFa.out (by omega))
    have g10_0 : decide (6 ≤ qf) = true := by rw [decide_eq_true_iff]; omega
    go_enter Tryz.func19, Tryz.ntmps19
    go_wp2_with fail
    go_ret
    exact ⟨ret_v (x := .bool false) (by rw [HR.out]), HB.out⟩
  have g10_0 : decide (6 ≤ qf) = false := by rw [decide_eq_false_iff_not]; omega
  have hways : (qa ≠ 0 ∨ (qa = 0 ∧ qf = 0)) ∨ (qa = 0 ∧ qf ≠ 0) := by omega
  rcases hways with hgood | ⟨ha0, hf0⟩
  rotate_left
  · have HR := Lib.hid (HFa.out (fun h => hf0 (h.2.2.2.2.2.1 ha0)))
    have g11 : (qa == 0) = true := by simpa using ha0
    have g12 : (qf != 0) = true := by simpa using hf0
    clear ha0 hf0
    go_enter Tryz.func19, Tryz.ntmps19
    go_wp2_with fail
    go_ret
    exact ⟨ret_v (x := .bool false) (by rw [HR.out]), HB.out⟩
  have HTr2 := Lib.hid (fun hs : StsOk qp n => HTr.out ⟨⟨h1, h2⟩, ⟨h3, h4⟩, ⟨h5, h6⟩, ⟨h7, h8⟩, ⟨h9, h10⟩, (fun e => by rcases hgood with h | h; exact absurd e h; exact h.2), hs⟩)
  have HFa2 := Lib.hid (fun hs : ¬ StsOk qp n => HFa.out (fun h => hs h.2.2.2.2.2.2))
  have hsplit : ∃ z1 z2 : Bool, (qa == 0) = z1 ∧ (qf != 0) = z2 ∧ (z1 = false ∨ (z1 = true ∧ z2 = false)) := by
    refine ⟨_, _, rfl, rfl, ?_⟩
    rcases hgood with h | ⟨h, h'⟩
    · exact Or.inl (by simpa using h)
    · exact Or.inr ⟨by simpa using h, by rw [h']; rfl⟩
  obtain ⟨z1, z2, g11, g12, hz⟩ := hsplit
  clear hgood HTr HFa
  rcases hz with rfl | ⟨rfl, rfl⟩
  all_goals
    go_enter Tryz.func19, Tryz.ntmps19
    go_wp2_with fail
    obtain ⟨w1, hw1⟩ : ∃ w1, w1 = w.alloc (.cells #[.slice A n c, .int .i64 qw, .int .i64 qa, .int .i64 qi, .int .i64 qf] 25) := ⟨_, rfl⟩
    rw [← hw1] at p0 HB ⊢
    have hlt1 := World.block_lt_of_cell? w1 _ p0
    have HP := Lib.hid (fun W (h : Below w1.heap.size w1 W) => (h.cell (p := ⟨w.heap.size, 0, none⟩) hlt1).trans p0)
    clear hw1 p0 p1 p2 p3 p4
    go_loopw [4] (fun i wr => ∃ j : Nat, i = .int .i64 j ∧ j ≤ n ∧ StsOk qp j ∧ Below w1.heap.size w1 wr) (fun i _ => n - (intOf i).toNat)
    case atStart => exact ⟨0, rfl, Nat.zero_le _, (fun j hj => absurd hj (Nat.not_lt_zero j)), Below.refl _ _⟩
    case round =>
      obtain ⟨j, rfl, hj, hall, hbel⟩ := hrel
      have HAl := Lib.hid hall
      have HBl := Lib.hid hbel
      have p0 := HP.out wr hbel
      clear hall hbel
      by_cases hjn : j < n
      · obtain ⟨b1, q1, A1, c1, B1, d1, hix, hc, hfz⟩ := HS.out.at j (by rw [← HN.out]; exact hjn)
        obtain ⟨hcell, hA1, hB1⟩ := hc wr (bt HB.out HBl.out)
        have hi := fun W => hix W n c hjn
        obtain ⟨y1, gz1⟩ : ∃ z, ((j : Int) == 0) = z := ⟨_, rfl⟩
        obtain ⟨y2, gz2⟩ : ∃ z, ((j : Int) == (n : Int) - 1) = z := ⟨_, rfl⟩
        have gz1' : (j == 0) = y1 := by rw [← gz1, Bool.eq_iff_iff, beq_iff_eq, beq_iff_eq]; omega
        have e1 : (y1 = true) = (j = 0) := propext (by rw [← gz1, beq_iff_eq]; omega)
        have e2 : (y2 = true) = (j + 1 = n) := propext (by rw [← gz2, beq_iff_eq]; omega)
        have hst := refStep_any (qp.getD j t0) y1 y2 A1 c1 B1 d1 wr hA1 hB1 hfz
        have hdec : decide (StOk (qp.getD j t0) (y1 = true) (y2 = true)) = decide (StOk (qp.getD j t0) (j = 0) (j + 1 = n)) := by
          rw [Bool.eq_iff_iff, decide_eq_true_iff, decide_eq_true_iff, e1, e2]
        rw [hdec] at hst
        obtain ⟨z, hz⟩ : ∃ z, z = decide (StOk (qp.getD j t0) (j = 0) (j + 1 = n)) := ⟨_, rfl⟩
        rw [← hz] at hst
        have HZ := Lib.hid hz
        unfold agSt at hst
        unfold CellSt at hcell
        obtain ⟨x, hx⟩ : ∃ x, x = qp.getD j t0 := ⟨_, rfl⟩
        rw [← hx] at hst hcell
        obtain ⟨x0, x1, x2, x3, x4, x5, x6⟩ := hcell
        obtain ⟨xs, xf, lo, hi', xg, xt, xh⟩ := x
        simp only at hst x0 x1 x2 x3 x4 x5 x6
        obtain ⟨n1, hn1⟩ : ∃ n, n = xf.length := ⟨_, rfl⟩
        obtain ⟨n2, hn2⟩ : ∃ n, n = xh.length := ⟨_, rfl⟩
        rw [← hn1] at hst x1
        rw [← hn2] at hst x6
        have HSt := Lib.hid hst
        clear hc hix hA1 hB1 hfz hst hdec hz hx hn1 hn2 e1 e2
        go_wp2_with fail
        refine HSt.out.mono ?_
        rintro e w3 ⟨rfl, hb3⟩
        have HB3 := Lib.hid (bt HBl.out hb3)
        clear hb3 x0 x1 x2 x3 x4 x5 x6 HSt p0
        cases z
        · have HR := Lib.hid (HFa2.out (HOk.out j hjn (of_decide_eq_false HZ.out.symm)))
          go_wp2_with fail
          go_ret
          exact ⟨ret_v (x := .bool false) (by rw [HR.out]), bt HB.out HB3.out⟩
        · have HSc := Lib.hid (HSu.out j HAl.out (of_decide_eq_true HZ.out.symm))
          go_wp2_with fail
          go_roundw
          case rel => exact ⟨j + 1, by go_num, by omega, HSc.out, HB3.out⟩
          case measure => simp [intOf]; omega
      · obtain rfl : j = n := by omega
        have HR := Lib.hid (HTr2.out HAl.out)
        go_wp2_with fail
        go_ret
        exact ⟨ret_v (x := .bool true) (by rw [HR.out]), bt HB.out HBl.out⟩
end Go.Proofs.YtbmdkibmfkmjoaaGreat.Qy

namespace Go.Proofs.YtbmdkibmfkmjoaaGreat.Qy
open Go.RowKit Go.Proofs.YtbmdkibmfkmjoaaGreat.BM Go.Proofs.YtbmdkibmfkmjoaaGreat.LM Go.Proofs.YtbmdkibmfkmjoaaGreat.VaM Go.Proofs.YtbmdkibmfkmjoaaGreat.ExM Go.Proofs.YtbmdkibmfkmjoaaGreat.QyM
open Go.Proofs.YtbmdkibmfkmjoaaGreat.Sc (grown_set grown_trans)

/-- What Get answers. -/
def GotsQ (xs : List Int) (w : World) : Ending → World → Prop := fun e w' =>
  ∃ A c, e = .returned (.tuple #[agQ (gotQ (gQ xs)).1 A c, .int .i64 ((gotQ (gQ xs)).2.1 : Nat), .bool (gotQ (gQ xs)).2.2]) ∧ SlSt w' A (gotQ (gQ xs)).1.p c ∧ Below w.heap.size w w'

/-- Five cells, stored. -/
def put5 (w : World) (b : Nat) (v0 v1 v2 v3 v4 : Value) : World := ((((w.setCell ⟨b, 0, none⟩ v0).setCell ⟨b, 1, none⟩ v1).setCell ⟨b, 2, none⟩ v2).setCell ⟨b, 3, none⟩ v3).setCell ⟨b, 4, none⟩ v4
theorem bx5_put {w : World} {b : Nat} {u0 u1 u2 u3 u4 : Value} (h : RG.BxN w b [u0, u1, u2, u3, u4]) (v0 v1 v2 v3 v4 : Value) : RG.BxN (put5 w b v0 v1 v2 v3 v4) b [v0, v1, v2, v3, v4] :=
  RG.BxN.set (RG.BxN.set (RG.BxN.set (RG.BxN.set (RG.BxN.set h 0 (show 0 < 5 from by decide) v0) 1 (show 1 < 5 from by decide) v1) 2 (show 2 < 5 from by decide) v2) 3 (show 3 < 5 from by decide) v3) 4 (show 4 < 5 from by decide) v4
theorem bx5_free {w : World} {b : Nat} {v0 v1 v2 v3 v4 : Value} (h : RG.BxN w b [v0, v1, v2, v3, v4]) : w.frozen? ⟨b, 0, none⟩ = false ∧ w.frozen? ⟨b, 1, none⟩ = false ∧ w.frozen? ⟨b, 2, none⟩ = false ∧ w.frozen? ⟨b, 3, none⟩ = false ∧ w.frozen? ⟨b, 4, none⟩ = false :=
  ⟨(h 0 _ rfl).2, (h 1 _ rfl).2, (h 2 _ rfl).2, (h 3 _ rfl).2, (h 4 _ rfl).2⟩
theorem grown5 (w : World) (b : Nat) (v0 v1 v2 v3 v4 : Value) : w.grownBy (put5 w b v0 v1 v2 v3 v4) (some b) :=
  grown_trans (grown_trans (grown_trans (grown_trans (grown_set _ b 0 _) (grown_set _ b 1 _)) (grown_set _ b 2 _)) (grown_set _ b 3 _)) (grown_set _ b 4 _)
theorem below5 {B b : Nat} {w w' : World} (h : Below B w w') (hb : B ≤ b) (v0 v1 v2 v3 v4 : Value) : Below B w (put5 w' b v0 v1 v2 v3 v4) := ((((h.setCell hb _).setCell hb _).setCell hb _).setCell hb _).setCell hb _
end Go.Proofs.YtbmdkibmfkmjoaaGreat.Qy

namespace Go.Proofs.YtbmdkibmfkmjoaaGreat.Qy
open Go.RowKit Go.Proofs.YtbmdkibmfkmjoaaGreat.BM Go.Proofs.YtbmdkibmfkmjoaaGreat.LM Go.Proofs.YtbmdkibmfkmjoaaGreat.LeM Go.Proofs.YtbmdkibmfkmjoaaGreat.VaM Go.Proofs.YtbmdkibmfkmjoaaGreat.ExM Go.Proofs.YtbmdkibmfkmjoaaGreat.QyM
open Go.Proofs.YtbmdkibmfkmjoaaGreat.Va (Bx bx_new_t bx_set1 bx_set2 ret_v)
open Go.Proofs.YtbmdkibmfkmjoaaGreat.Sc (grown_set grown_trans slB_grown)
open Go.Proofs.YtbmdkibmfkmjoaaGreat.ScM (gN)
open Go.Proofs.YtbmdkibmfkmjoaaGreat.Ex (SlO slO_none)

theorem grownOwn {w W W' : World} {b : Nat} {r : Option Nat} (h : w.grownBy W (some b)) (k : W.grownBy W' r) (hr : ∀ q, r = some q → w.heap.size ≤ q) : w.grownBy W' (some b) :=
  ⟨k.os.trans h.os, k.tape.trans h.tape, k.output.trans h.output, Nat.le_trans h.size k.size, fun q hq hne => (k.block q (Nat.lt_of_lt_of_le hq h.size) (fun e => by
    have := hr q e.symm
    omega)).trans (h.block q hq hne)⟩

section
variable {b : Nat} {A : Option Addr} {c N : Nat} {s s2 : Rp} {w W W' : World}
theorem Left.below (h : Left b A c N w s W) (hb : Below W.heap.size W W') : Left b A c N w s W' := ⟨grown_trans h.1 (grownLeft hb), h.2.1.kept hb, h.2.2⟩
theorem bx_grown {v0 v1 v2 : Value} {r : Option Nat} (h : Bx w b v0 v1 v2) (hg : w.grownBy W r) (hne : some b ≠ r) : Bx W b v0 v1 v2 := by
  have hk := hg.block b h.lt hne
  obtain ⟨⟨h1, h2, h3⟩, h4, h5, h6⟩ := h
  exact ⟨⟨(World.cell?_of_block (a := ⟨b, 0, none⟩) hk).trans h1, (World.cell?_of_block (a := ⟨b, 1, none⟩) hk).trans h2, (World.cell?_of_block (a := ⟨b, 2, none⟩) hk).trans h3⟩,
    (World.frozen?_of_block (a := ⟨b, 0, none⟩) hk).trans h4, (World.frozen?_of_block (a := ⟨b, 1, none⟩) hk).trans h5, (World.frozen?_of_block (a := ⟨b, 2, none⟩) hk).trans h6⟩
theorem Left.own {r : Option Nat} (h : Left b A c N w s W) (hg : W.grownBy W' r) (hr : ∀ q, r = some q → w.heap.size ≤ q) (hb : b < w.heap.size) : Left b A c N w s W' :=
  ⟨grownOwn h.1 hg hr, bx_grown h.2.1 hg (fun e => by have := hr b e.symm; omega), h.2.2⟩
theorem Left.set {k i : Nat} (h : Left b A c N w s W) (hk : w.heap.size ≤ k) (hb : b < w.heap.size) (u : Value) : Left b A c N w s (W.setCell ⟨k, i, none⟩ u) :=
  h.own (grown_set W k i u) (fun q e => by injection e with e; omega) hb
theorem Left.then (h : Left b A c N w s W) (k : Left b A c N W s2 W') : Left b A c N w s2 W' := ⟨grown_trans h.1 k.1, k.2⟩
end

/-- The bytes, in whatever world differs in the reader's block alone. -/
def ReadsIn (w : World) (b : Nat) (A : Option Addr) (xs : List Int) (c : Nat) : Prop := ∀ W, w.grownBy W (some b) → SlB W A xs c

section
variable {b : Nat} {A : Option Addr} {xs : List Int} {c : Nat} {s : Rp} {w W : World}
theorem numL {most : Nat} (h : Left b A c xs.length w s W) (hx : ReadsIn w b A xs c) (hm : most ≤ 1125899906842624) :
    Calls Tryz.prog 30 #[.pointer (some ⟨b, 0, none⟩), .int .i64 (most : Int)] W fun e w' => e = .returned (.int .i64 ((rd (Gr.num most) 0 xs s).1 : Nat)) ∧ Left b A c xs.length w (rd (Gr.num most) 0 xs s).2 w' ∧ W.grownBy w' (some b) :=
  (refNum_any most b A xs c s.1 s.2 W h.2.1 (hx W h.1) h.2.2 hm).mono fun _ _ k => ⟨k.1, h.then k.2, k.2.1⟩
theorem txtL (h : Left b A c xs.length w s W) (hx : ReadsIn w b A xs c) :
    Calls Tryz.prog 31 #[.pointer (some ⟨b, 0, none⟩)] W fun e w' => e = .returned (.string (rd gN e0 xs s).1) ∧ Left b A c xs.length w (rd gN e0 xs s).2 w' ∧ W.grownBy w' (some b) :=
  (refTxt_any b A xs c s.1 s.2 W h.2.1 (hx W h.1) h.2.2).mono fun _ _ k => ⟨k.1, h.then k.2, k.2.1⟩
theorem opsL (h : Left b A c xs.length w s W) (hx : ReadsIn w b A xs c) :
    Calls Tryz.prog 32 #[.pointer (some ⟨b, 0, none⟩)] W fun e w' => (∃ A1 c1, e = .returned (.slice A1 (rd gL [] xs s).1.length c1) ∧ SlO w' A1 (rd gL [] xs s).1 c1 ∧ (∀ a, A1 = some a → W.heap.size ≤ a.block)) ∧ Left b A c xs.length w (rd gL [] xs s).2 w' ∧ W.grownBy w' (some b) :=
  (refOps_any b A xs c s.1 s.2 W h.2.1 (hx W h.1) h.2.2).mono fun _ _ ⟨A1, c1, h1, h2, h3, h4⟩ => ⟨⟨A1, c1, h1, h2, h3⟩, h.then h4, h4.1⟩
end

theorem rd_num_le (k : Nat) (xs : List Int) (s : Rp) : (rd (Gr.num k) 0 xs s).1 ≤ k := by
  unfold rd
  split
  · exact Nat.zero_le _
  · cases h : Gr.num k (xs.drop s.1) with
    | none => exact Nat.zero_le _
    | some y =>
      unfold Gr.num at h
      cases h1 : getS (xs.drop s.1) with
      | none => rw [h1] at h; cases h
      | some z =>
        rw [h1] at h
        simp only at h
        by_cases hz : z.1 ≤ k
        · rw [if_pos hz] at h
          cases h
          exact hz
        · rw [if_neg hz] at h
          cases h
theorem rd_txt_le {xs : List Int} (hb : ∀ x ∈ xs, (0 : Int) ≤ x ∧ x < 256) (s : Rp) : (rd gN e0 xs s).1.size ≤ 12 := by
  unfold rd
  split
  · exact Nat.zero_le _
  · cases h : gN (xs.drop s.1) with
    | none => exact Nat.zero_le _
    | some y => exact (ScM.gN_some (ScM.bytes_drop hb s.1) (show gN (xs.drop s.1) = some (y.1, y.2) from h)).1

section
variable {xs : List Int} {s0 s1 s2 s3 s4 s5 s6 s7 : Rp} {t1 t2 : ByteArray} {f1 f2 : List O} {lo hi g : Nat}
theorem rSt_yes (e1 : rd gN e0 xs s0 = (t1, s1)) (e2 : rd gL [] xs s1 = (f1, s2)) (e3 : rd (Gr.num 4) 0 xs s2 = (lo, s3)) (e4 : rd (Gr.num 4) 0 xs s3 = (hi, s4)) (e5 : rd (Gr.num 1) 0 xs s4 = (g, s5)) (hg : g = 1) (e6 : rd gN e0 xs s5 = (t2, s6)) (e7 : rd gL [] xs s6 = (f2, s7)) :
    rSt xs s0 = (⟨t1, f1, lo, hi, true, t2, f2⟩, s7) := by
  subst hg
  unfold rSt rG
  simp only [e1, e2, e3, e4, e5, if_pos, e6, e7, decide_true]
theorem rSt_no (e1 : rd gN e0 xs s0 = (t1, s1)) (e2 : rd gL [] xs s1 = (f1, s2)) (e3 : rd (Gr.num 4) 0 xs s2 = (lo, s3)) (e4 : rd (Gr.num 4) 0 xs s3 = (hi, s4)) (e5 : rd (Gr.num 1) 0 xs s4 = (g, s5)) (hg : g ≠ 1) :
    rSt xs s0 = (⟨t1, f1, lo, hi, false, e0, []⟩, s5) := by
  unfold rSt rG
  simp only [e1, e2, e3, e4, e5, if_neg hg, decide_eq_false hg]
theorem rTail_of {v1 v2 v3 v4 : Nat} (e1 : rd (Gr.num 1125899906842624) 0 xs s0 = (v1, s1)) (e2 : rd (Gr.num 4) 0 xs s1 = (v2, s2)) (e3 : rd (Gr.num 4) 0 xs s2 = (v3, s3)) (e4 : rd (Gr.num 6) 0 xs s3 = (v4, s4)) : rTail xs s0 = ((v1, v2, v3, v4), s4) := by
  unfold rTail
  simp only [e1, e2, e3, e4]
end

theorem fine_of {t1 t2 : ByteArray} {f1 f2 : List O} {lo hi : Nat} {g : Bool} (h1 : t1.size ≤ 12) (h2 : t2.size ≤ 12) (h3 : lo ≤ 4) (h4 : hi ≤ 4) : FineSt ⟨t1, f1, lo, hi, g, t2, f2⟩ :=
  ⟨⟨by simp only; unfold maxLen; omega, by simp only; unfold maxLen; omega⟩, ⟨by simp only; omega, by simp only; omega⟩, by simp only; omega, by simp only; omega⟩

theorem bx5_lt {w : World} {b : Nat} {v0 v1 v2 v3 v4 : Value} (h : RG.BxN w b [v0, v1, v2, v3, v4]) : b < w.heap.size := RG.BxN.lt h (show 0 < 5 by decide)
theorem bx7_free {w : World} {b : Nat} {v0 v1 v2 v3 v4 v5 v6 : Value} (h : RG.BxN w b [v0, v1, v2, v3, v4, v5, v6]) : w.frozen? ⟨b, 0, none⟩ = false ∧ w.frozen? ⟨b, 1, none⟩ = false ∧ w.frozen? ⟨b, 2, none⟩ = false ∧ w.frozen? ⟨b, 3, none⟩ = false ∧ w.frozen? ⟨b, 4, none⟩ = false ∧ w.frozen? ⟨b, 5, none⟩ = false ∧ w.frozen? ⟨b, 6, none⟩ = false :=
  ⟨(h 0 _ rfl).2, (h 1 _ rfl).2, (h 2 _ rfl).2, (h 3 _ rfl).2, (h 4 _ rfl).2, (h 5 _ rfl).2, (h 6 _ rfl).2⟩

/-- What one round makes of the step's block and of the reader. -/
def Made (b : Nat) (A : Option Addr) (c N M : Nat) (w0 wr : World) (s : Rp) (v : List Value) (W : World) : Prop := Left b A c N w0 s W ∧ wr.grownBy W (some b) ∧ RG.BxN W M v
section
variable {b : Nat} {A : Option Addr} {c N M : Nat} {w0 wr W W' : World} {s s2 : Rp} {v : List Value}
theorem Made.next (h : Made b A c N M w0 wr s v W) (hl : Left b A c N w0 s2 W') (hg : W.grownBy W' (some b)) (hne : M ≠ b) : Made b A c N M w0 wr s2 v W' :=
  ⟨hl, grown_trans h.2.1 hg, RG.BxN.grown h.2.2 hg (fun e => hne (by injection e))⟩
theorem Made.set (h : Made b A c N M w0 wr s v W) (h1 : w0.heap.size ≤ M) (h2 : wr.heap.size ≤ M) (hb : b < w0.heap.size) (k : Nat) (hk : k < v.length) (u : Value) : Made b A c N M w0 wr s (v.set k u) (W.setCell ⟨M, k, none⟩ u) :=
  ⟨h.1.set h1 hb u, grownOwn h.2.1 (grown_set W M k u) (fun q e => by injection e with e; omega), h.2.2.set k hk u⟩
end


theorem gQ_bad {xs : List Int} (h : (rd (Gr.num 4) 0 xs (0, false)).2.2 = true) : gotQ (gQ xs) = (q0, 0, false) := by
  cases e1 : Gr.num 4 xs with
  | none =>
    unfold gQ Gr.only Gr.map gQP
    rw [Gr.bind_none e1]
    rfl
  | some y =>
    obtain ⟨v, u⟩ := y
    rw [rd_some (show Gr.num 4 (xs.drop 0) = some (v, u) from e1)] at h
    cases h

/-- How far the loop is, whether or not the number of steps was there. -/
def Far (xs : List Int) (s0 : Rp) (j : Nat) (l : List St) (s : Rp) : Prop := l.length = j ∧ (Got xs s0.1 j l s ∧ s0.2 = false ∨ j = 0 ∧ s.2 = true ∧ s0.2 = true)

theorem far_0 (xs : List Int) (s0 : Rp) : Far xs s0 0 [] s0 := by
  obtain ⟨p, b⟩ := s0
  cases b
  · exact ⟨rfl, Or.inl ⟨got_0 xs p, rfl⟩⟩
  · exact ⟨rfl, Or.inr ⟨rfl, rfl, rfl⟩⟩
theorem Far.step {xs : List Int} {s0 : Rp} {j : Nat} {l : List St} {p : Nat} (h : Far xs s0 j l (p, false)) : Far xs s0 (j + 1) (l ++ [(rSt xs (p, false)).1]) (rSt xs (p, false)).2 := by
  obtain ⟨h1, ⟨h2, h3⟩ | ⟨_, h3, _⟩⟩ := h
  · exact ⟨by rw [List.length_append, h1]; rfl, Or.inl ⟨h2.step, h3⟩⟩
  · cases h3
theorem far_all {xs : List Int} {n j : Nat} {s0 s : Rp} {l : List St} (h0 : (n, s0) = rd (Gr.num 4) 0 xs (0, false)) (h : Far xs s0 j l s) (hj : s.2 = false → j = n) (hj' : j ≤ n) :
    gotQ (gQ xs) = if (rTail xs s).2.2 = false ∧ May ⟨l, (rTail xs s).1.1, (rTail xs s).1.2.1, (rTail xs s).1.2.2.1, (rTail xs s).1.2.2.2⟩ then
      (⟨l, (rTail xs s).1.1, (rTail xs s).1.2.1, (rTail xs s).1.2.2.1, (rTail xs s).1.2.2.2⟩, (rTail xs s).2.1, true) else (q0, 0, false) := by
  obtain ⟨h1, ⟨h2, h3⟩ | ⟨_, h3, h4⟩⟩ := h
  · exact gQ_read (by rw [← h0]; exact h2) (by rw [← h0]) (fun k => by rw [← h0] at k; simp only at k; rw [h3] at k; cases k) hj hj'
  · rw [gQ_bad (by rw [← h0]; exact h4), if_neg (fun k => by rw [rTail_short h3] at k; cases k.1)]

/-- An expression's parts, above a block. -/
def Up (M : Nat) (W : World) (A : Option Addr) (l : List O) (c : Nat) : Prop := SlO W A l c ∧ ∀ a, A = some a → M + 1 ≤ a.block
theorem Up.by {M k : Nat} {W W' : World} {A : Option Addr} {l : List O} {c : Nat} (h : Up M W A l c) (hg : W.grownBy W' (some k)) (hk : k ≤ M) : Up M W' A l c :=
  ⟨slO_grown' h.1 hg (fun _ a ha e => by have := h.2 a ha; injection e with e; omega), h.2⟩

/-- Steps that lie above a place. -/
def SlOver (H : Nat) (w : World) (A : Option Addr) (l : List St) (c : Nat) : Prop := RG.SlG KSt (fun k => H ≤ k) w A l c ∧ ∀ a, A = some a → H ≤ a.block
theorem SlOver.st {H : Nat} {w : World} {A : Option Addr} {l : List St} {c : Nat} (h : SlOver H w A l c) : SlSt w A l c := RG.SlG.mono h.1 fun _ _ _ => trivial
theorem SlOver.grown {H b : Nat} {w w' : World} {A : Option Addr} {l : List St} {c : Nat} (h : SlOver H w A l c) (hg : w.grownBy w' (some b)) (hb : b < H) : SlOver H w' A l c :=
  ⟨RG.SlG.grown h.1 hg (fun a ha e => by have := h.2 a ha; omega) (fun k hk e => by omega), h.2⟩
theorem SlOver.kept {H : Nat} {w w' : World} {A : Option Addr} {l : List St} {c : Nat} (h : SlOver H w A l c) (hb : Below w.heap.size w w') : SlOver H w' A l c := ⟨RG.SlG.kept h.1 hb, h.2⟩

/-- What the loop knows. -/
def RelG (b : Nat) (A : Option Addr) (xs : List Int) (c qb : Nat) (s0 : Rp) (w0 : World) (j : Nat) (l : List St) (s : Rp) (u : Value) (vs : List Value) (W : World) : Prop :=
  Far xs s0 j l s ∧ W.ownsRow (qb + 1) 47 7 u j vs ∧ RG.Elems KSt (fun k => qb + 1 ≤ k ∧ ne u k) W l vs ∧ Left b A c xs.length w0 s W ∧ RG.BxN W qb [u, .int .i64 0, .int .i64 0, .int .i64 0, .int .i64 0]

set_option maxRecDepth 100000 in
set_option maxHeartbeats 8000000 in
theorem refGet_any (A : Option Addr) (xs : List Int) (c : Nat) (w : World) (h : SlB w A xs c) :
    Calls Tryz.prog 12 #[.slice A xs.length c] w (GotsQ xs w) := by
  have hbs := h.1.1
  have hxm := h.2.2.2
  have hxc := h.2.1
  unfold maxLen at hxm
  have hN0 := RG.bxN_new w 25 [.slice none 0 0, .int .i64 0, .int .i64 0, .int .i64 0, .int .i64 0]
  have ha0 := (Below.refl w.heap.size w).alloc (Nat.le_refl _) (.cells #[.slice none 0 0, .int .i64 0, .int .i64 0, .int .i64 0, .int .i64 0] 25)
  obtain ⟨w0, hw0⟩ : ∃ w0, w0 = w.alloc (.cells #[.slice none 0 0, .int .i64 0, .int .i64 0, .int .i64 0, .int .i64 0] 25) := ⟨_, rfl⟩
  have hs0 : w0.heap.size = w.heap.size + 1 := by rw [hw0]; simp
  rw [show (List.toArray [Value.slice none 0 0, .int .i64 0, .int .i64 0, .int .i64 0, .int .i64 0]) = #[Value.slice none 0 0, .int .i64 0, .int .i64 0, .int .i64 0, .int .i64 0] from rfl] at hN0
  rw [← hw0] at hN0 ha0
  have ha1 := (Below.refl w0.heap.size w0).alloc (Nat.le_refl _) (.cells #[.slice A xs.length c, .int .i64 0, .bool false] 62)
  have hB1 := bx_new_t w0 62 (.slice A xs.length c) (.int .i64 0) (.bool false)
  have hN1 := RG.BxN.kept hN0 ha1
  obtain ⟨w1, hw1⟩ : ∃ w1, w1 = w0.alloc (.cells #[.slice A xs.length c, .int .i64 0, .bool false] 62) := ⟨_, rfl⟩
  have hs1 : w1.heap.size = w.heap.size + 1 + 1 := by rw [hw1]; simp; omega
  rw [← hw1] at ha1 hB1 hN1
  rw [hs0] at hB1
  have hb1 := bt ha0 ha1
  have ha2 := (Below.refl w1.heap.size w1).alloc (Nat.le_refl _) (.cells #[.slice none 0 0, .int .i64 0, .int .i64 0, .int .i64 0, .int .i64 0] 25)
  have hQ2 := RG.bxN_new w1 25 [.slice none 0 0, .int .i64 0, .int .i64 0, .int .i64 0, .int .i64 0]
  obtain ⟨w2, hw2⟩ : ∃ w2, w2 = w1.alloc (.cells #[.slice none 0 0, .int .i64 0, .int .i64 0, .int .i64 0, .int .i64 0] 25) := ⟨_, rfl⟩
  have hs2 : w2.heap.size = w.heap.size + 3 := by rw [hw2]; simp; omega
  rw [show (List.toArray [Value.slice none 0 0, .int .i64 0, .int .i64 0, .int .i64 0, .int .i64 0]) = #[Value.slice none 0 0, .int .i64 0, .int .i64 0, .int .i64 0, .int .i64 0] from rfl] at hQ2
  rw [← hw2] at hQ2 ha2
  rw [hs1] at hQ2
  have hx : ReadsIn w1 (w.heap.size + 1) A xs c := fun W hg => h.kept (hb1.grown hg hb1.size (fun k e => by injection e with e; omega))
  have hl1 : Left (w.heap.size + 1) A c xs.length w1 (0, false) w1 := ⟨World.grownBy.refl _ _, hB1, Nat.zero_le _⟩
  have hl2 : Left (w.heap.size + 1) A c xs.length w1 (0, false) w2 := hl1.below ha2
  -- what is answered
  unfold GotsQ
  have hlastof := fun (s : Rp) (W : World) (k : Left (w.heap.size + 1) A c xs.length w1 s W) => (RG.BxN.grown hN1 k.1 (fun e => by injection e with e; omega) : RG.BxN W w.heap.size _)
  have hbelow := fun (s : Rp) (W : World) (k : Left (w.heap.size + 1) A c xs.length w1 s W) => (hb1.grown k.1 hb1.size (fun q e => by injection e with e; omega) : Below w.heap.size w W)
  have hc0 := numL (most := 4) hl2 hx (by decide)
  obtain ⟨⟨n, s0⟩, hr0⟩ : ∃ r, r = rd (Gr.num 4) 0 xs (0, false) := ⟨_, rfl⟩
  have hn4 : n ≤ 4 := by have k := rd_num_le 4 xs (0, false); rw [← hr0] at k; exact k
  have hread := fun (j : Nat) (l : List St) (s : Rp) => @far_all xs n j s0 s l hr0
  rw [← hr0] at hc0
  simp only at hc0
  obtain ⟨G, hG⟩ : ∃ G, G = gotQ (gQ xs) := ⟨_, rfl⟩
  simp only [← hG] at hread ⊢
  have HC0 := Lib.hid hc0
  have HX := Lib.hid hx
  have HRead := Lib.hid hread
  have HLastOf := Lib.hid hlastof
  have HBelow := Lib.hid hbelow
  have HBs := Lib.hid hbs
  have HL2 := Lib.hid hl2
  have HQ2 := Lib.hid hQ2
  have hW2 : ((w.alloc (.cells #[.slice none 0 0, .int .i64 0, .int .i64 0, .int .i64 0, .int .i64 0] 25)).alloc (.cells #[.slice A xs.length c, .int .i64 0, .bool false] 62)).alloc (.cells #[.slice none 0 0, .int .i64 0, .int .i64 0, .int .i64 0, .int .i64 0] 25) = w2 := by rw [hw2, hw1, hw0]
  have HW2 := Lib.hid hW2
  clear hbs hxm hxc hN0 ha0 hw0 hs0 ha1 hB1 hN1 hw1 hb1 ha2 hQ2 hw2 hx hl1 hl2 hread hlastof hbelow hc0 hr0 hG hW2 h
  go_enter Tryz.func12, Tryz.ntmps12
  go_wp2_with fail
  rw [HW2.out]
  refine HC0.out.mono ?_
  rintro e w3 ⟨rfl, hl3, hg3⟩
  have HL3 := Lib.hid hl3
  have HQ3 := Lib.hid (RG.BxN.grown HQ2.out hg3 (fun e => by injection e with e; omega))
  clear hl3 hg3 HL2 HQ2 HW2 HC0
  go_wp2_with fail
  go_loopw [8] (fun i wr => ∃ (j : Nat) (l : List St) (s : Rp) (u : Value) (vs : List Value), i = .int .i64 (j : Int) ∧ j ≤ n ∧ RelG (w.heap.size + 1) A xs c (w.heap.size + 1 + 1) s0 w1 j l s u vs wr) (fun i _ => n - (intOf i).toNat)
  case atStart => exact ⟨0, [], s0, _, [], rfl, Nat.zero_le _, far_0 xs s0, World.ownsRow_nil _ _ _ _, by rfl, HL3.out, HQ3.out⟩
  case round =>
    obtain ⟨j, l, s, u, vs, rfl, hj, hfar, hown, hel, hlf, hqb⟩ := hrel
    have HF := Lib.hid hfar
    have HO := Lib.hid hown
    have HE := Lib.hid hel
    have HL := Lib.hid hlf
    have HQ := Lib.hid hqb
    have hzr := hlf.1.size
    obtain ⟨_, ⟨⟨p0, p1, p2⟩, _⟩, _⟩ := hlf
    clear hfar hown hel hqb HL3 HQ3
    by_cases hgo : j < n ∧ s.2 = false
    · obtain ⟨hjn, hsf⟩ := hgo
      obtain ⟨sp, sb⟩ := s
      simp only at hsf
      subst hsf
      have d1 : decide ((j : Int) < (n : Int)) = true := by rw [decide_eq_true_iff]; omega
      have d1' : decide (j < n) = true := by rw [decide_eq_true_iff]; omega
      have ha4 := (Below.refl wr.heap.size wr).alloc (Nat.le_refl _) (.cells #[.string ⟨#[]⟩, .slice none 0 0, .int .i64 0, .int .i64 0, .bool false, .string ⟨#[]⟩, .slice none 0 0] 47)
      have hM4 := RG.bxN_new wr 47 [.string ⟨#[]⟩, .slice none 0 0, .int .i64 0, .int .i64 0, .bool false, .string ⟨#[]⟩, .slice none 0 0]
      obtain ⟨M, hM⟩ : ∃ M, M = wr.heap.size := ⟨_, rfl⟩
      obtain ⟨W0, hW0⟩ : ∃ W0, W0 = wr.alloc (.cells #[.string ⟨#[]⟩, .slice none 0 0, .int .i64 0, .int .i64 0, .bool false, .string ⟨#[]⟩, .slice none 0 0] 47) := ⟨_, rfl⟩
      rw [show (List.toArray [Value.string ⟨#[]⟩, .slice none 0 0, .int .i64 0, .int .i64 0, .bool false, .string ⟨#[]⟩, .slice none 0 0]) = #[Value.string ⟨#[]⟩, .slice none 0 0, .int .i64 0, .int .i64 0, .bool false, .string ⟨#[]⟩, .slice none 0 0] from rfl] at hM4
      rw [← hW0] at ha4 hM4
      rw [← hM] at hM4
      have HS0 := Lib.hid (show Made (w.heap.size + 1) A c xs.length M w1 wr (sp, false) [.string ⟨#[]⟩, .slice none 0 0, .int .i64 0, .int .i64 0, .bool false, .string ⟨#[]⟩, .slice none 0 0] W0 from ⟨HL.out.below ha4, grownLeft ha4, hM4⟩)
      have HW0 := Lib.hid hW0
      obtain ⟨⟨t1, s1⟩, e1⟩ : ∃ r, r = rd gN e0 xs (sp, false) := ⟨_, rfl⟩
      obtain ⟨⟨f1, s2⟩, e2⟩ : ∃ r, r = rd gL [] xs s1 := ⟨_, rfl⟩
      obtain ⟨⟨lo, s3⟩, e3⟩ : ∃ r, r = rd (Gr.num 4) 0 xs s2 := ⟨_, rfl⟩
      obtain ⟨⟨hi, s4⟩, e4⟩ : ∃ r, r = rd (Gr.num 4) 0 xs s3 := ⟨_, rfl⟩
      obtain ⟨⟨g, s5⟩, e5⟩ : ∃ r, r = rd (Gr.num 1) 0 xs s4 := ⟨_, rfl⟩
      obtain ⟨⟨t2, s6⟩, e6⟩ : ∃ r, r = rd gN e0 xs s5 := ⟨_, rfl⟩
      obtain ⟨⟨f2, s7⟩, e7⟩ : ∃ r, r = rd gL [] xs s6 := ⟨_, rfl⟩
      have k1 := rd_txt_le HBs.out (sp, false); rw [← e1] at k1; simp only at k1
      have k2 := rd_txt_le HBs.out s5; rw [← e6] at k2; simp only at k2
      have k3 := rd_num_le 4 xs s2; rw [← e3] at k3; simp only at k3
      have k4 := rd_num_le 4 xs s3; rw [← e4] at k4; simp only at k4
      have k5 := rd_num_le 1 xs s4; rw [← e5] at k5; simp only at k5
      have hyes := fun hg => rSt_yes e1.symm e2.symm e3.symm e4.symm e5.symm hg e6.symm e7.symm
      have hno := fun hg => rSt_no e1.symm e2.symm e3.symm e4.symm e5.symm hg
      have c1' := fun W (h : Left (w.heap.size + 1) A c xs.length w1 (sp, false) W) => txtL h HX.out
      simp only [← e1] at c1'
      have c2' := fun W (h : Left (w.heap.size + 1) A c xs.length w1 s1 W) => opsL h HX.out
      simp only [← e2] at c2'
      have c3' := fun W (h : Left (w.heap.size + 1) A c xs.length w1 s2 W) => numL (most := 4) h HX.out (by decide)
      simp only [← e3] at c3'
      have c4' := fun W (h : Left (w.heap.size + 1) A c xs.length w1 s3 W) => numL (most := 4) h HX.out (by decide)
      simp only [← e4] at c4'
      have c5' := fun W (h : Left (w.heap.size + 1) A c xs.length w1 s4 W) => numL (most := 1) h HX.out (by decide)
      simp only [← e5] at c5'
      have c6' := fun W (h : Left (w.heap.size + 1) A c xs.length w1 s5 W) => txtL h HX.out
      simp only [← e6] at c6'
      have c7' := fun W (h : Left (w.heap.size + 1) A c xs.length w1 s6 W) => opsL h HX.out
      simp only [← e7] at c7'
      obtain ⟨n1, hn1⟩ : ∃ n, n = f1.length := ⟨_, rfl⟩
      obtain ⟨n2, hn2⟩ : ∃ n, n = f2.length := ⟨_, rfl⟩
      simp only [← hn1] at c2'
      simp only [← hn2] at c7'
      have hfs := HF.out.step
      have hMr : w.heap.size + 3 ≤ M := by have k := bx5_lt HQ.out; omega
      have hM1 : w1.heap.size ≤ M := by omega
      have hMb : M ≠ w.heap.size + 1 := by omega
      have hb1 : w.heap.size + 1 < w1.heap.size := by omega
      have hMw : wr.heap.size ≤ M := by omega
      have hMw2 : M ≤ wr.heap.size := by omega
      have HC1 := Lib.hid c1'
      have HC2 := Lib.hid c2'
      have HC3 := Lib.hid c3'
      have HC4 := Lib.hid c4'
      have HC5 := Lib.hid c5'
      have HC6 := Lib.hid c6'
      have HC7 := Lib.hid c7'
      have Hyes := Lib.hid hyes
      have Hno := Lib.hid hno
      have HFs := Lib.hid hfs
      have HN1 := Lib.hid hn1
      have HN2 := Lib.hid hn2
      have HMe := Lib.hid hM
      clear c1' c2' c3' c4' c5' c6' c7' e1 e2 e3 e4 e5 e6 e7 hyes hno hfs hn1 hn2 ha4 hM4 hW0 HF hM
      go_wp2_with fail
      rw [← HW0.out, ← HMe.out]
      clear p0 p1 p2 HW0 HMe
      refine (HC1.out W0 HS0.out.1).mono ?_
      rintro e w11 ⟨rfl, hl, hg⟩
      have hm := HS0.out.next hl hg hMb
      obtain ⟨W1, hW⟩ : ∃ W, W = w11.setCell ⟨M, 0, none⟩ (.string t1) := ⟨_, rfl⟩
      have hs := hm.set hM1 hMw hb1 0 (show 0 < 7 by decide) (.string t1)
      rw [← hW] at hs
      have HS1 := Lib.hid (show Made (w.heap.size + 1) A c xs.length M w1 wr s1 [.string t1, .slice none 0 0, .int .i64 0, .int .i64 0, .bool false, .string ⟨#[]⟩, .slice none 0 0] W1 from hs)
      have HW1 := Lib.hid hW
      obtain ⟨q0, q1, q2, q3, q4, q5, q6⟩ := bx7 hm.2.2
      obtain ⟨m0, m1, m2, m3, m4, m5, m6⟩ := bx7_free hm.2.2
      clear hs hW hm hl hg HS0 HC1
      go_wp2_with fail
      clear q0 q1 q2 q3 q4 q5 q6 m0 m1 m2 m3 m4 m5 m6
      rw [← HW1.out]
      clear HW1
      refine (HC2.out W1 HS1.out.1).mono ?_
      rintro e w12 ⟨⟨A1, c1, rfl, hu, hf⟩, hl, hg⟩
      have hlt := bx7_lt HS1.out.2.2
      have hm := HS1.out.next hl hg hMb
      have hUpA1 : Up M w12 A1 f1 c1 := ⟨hu, fun a ha => by have := hf a ha; omega⟩
      clear hu hf hlt
      obtain ⟨W2, hW⟩ : ∃ W, W = w12.setCell ⟨M, 1, none⟩ (.slice A1 n1 c1) := ⟨_, rfl⟩
      have hs := hm.set hM1 hMw hb1 1 (show 1 < 7 by decide) (.slice A1 n1 c1)
      have kUpA1 := hUpA1.by (grown_set w12 M 1 (.slice A1 n1 c1)) (Nat.le_refl _)
      rw [← hW] at hs kUpA1
      have HS2 := Lib.hid (show Made (w.heap.size + 1) A c xs.length M w1 wr s2 [.string t1, .slice A1 n1 c1, .int .i64 0, .int .i64 0, .bool false, .string ⟨#[]⟩, .slice none 0 0] W2 from hs)
      clear hUpA1
      have HUpA1 := Lib.hid kUpA1
      clear kUpA1
      have HW2 := Lib.hid hW
      obtain ⟨q0, q1, q2, q3, q4, q5, q6⟩ := bx7 hm.2.2
      obtain ⟨m0, m1, m2, m3, m4, m5, m6⟩ := bx7_free hm.2.2
      clear hs hW hm hl hg HS1 HC2
      go_wp2_with fail
      clear q0 q1 q2 q3 q4 q5 q6 m0 m1 m2 m3 m4 m5 m6
      rw [← HW2.out]
      clear HW2
      refine (HC3.out W2 HS2.out.1).mono ?_
      rintro e w13 ⟨rfl, hl, hg⟩
      have hm := HS2.out.next hl hg hMb
      have hUpA1 := HUpA1.out.by hg (by omega)
      obtain ⟨W3, hW⟩ : ∃ W, W = w13.setCell ⟨M, 2, none⟩ (.int .i64 (lo : Int)) := ⟨_, rfl⟩
      have hs := hm.set hM1 hMw hb1 2 (show 2 < 7 by decide) (.int .i64 (lo : Int))
      have kUpA1 := hUpA1.by (grown_set w13 M 2 (.int .i64 (lo : Int))) (Nat.le_refl _)
      rw [← hW] at hs kUpA1
      have HS3 := Lib.hid (show Made (w.heap.size + 1) A c xs.length M w1 wr s3 [.string t1, .slice A1 n1 c1, .int .i64 (lo : Int), .int .i64 0, .bool false, .string ⟨#[]⟩, .slice none 0 0] W3 from hs)
      clear hUpA1
      clear HUpA1
      have HUpA1 := Lib.hid kUpA1
      clear kUpA1
      have HW3 := Lib.hid hW
      obtain ⟨q0, q1, q2, q3, q4, q5, q6⟩ := bx7 hm.2.2
      obtain ⟨m0, m1, m2, m3, m4, m5, m6⟩ := bx7_free hm.2.2
      clear hs hW hm hl hg HS2 HC3
      go_wp2_with fail
      clear q0 q1 q2 q3 q4 q5 q6 m0 m1 m2 m3 m4 m5 m6
      rw [← HW3.out]
      clear HW3
      refine (HC4.out W3 HS3.out.1).mono ?_
      rintro e w14 ⟨rfl, hl, hg⟩
      have hm := HS3.out.next hl hg hMb
      have hUpA1 := HUpA1.out.by hg (by omega)
      obtain ⟨W4, hW⟩ : ∃ W, W = w14.setCell ⟨M, 3, none⟩ (.int .i64 (hi : Int)) := ⟨_, rfl⟩
      have hs := hm.set hM1 hMw hb1 3 (show 3 < 7 by decide) (.int .i64 (hi : Int))
      have kUpA1 := hUpA1.by (grown_set w14 M 3 (.int .i64 (hi : Int))) (Nat.le_refl _)
      rw [← hW] at hs kUpA1
      have HS4 := Lib.hid (show Made (w.heap.size + 1) A c xs.length M w1 wr s4 [.string t1, .slice A1 n1 c1, .int .i64 (lo : Int), .int .i64 (hi : Int), .bool false, .string ⟨#[]⟩, .slice none 0 0] W4 from hs)
      clear hUpA1
      clear HUpA1
      have HUpA1 := Lib.hid kUpA1
      clear kUpA1
      have HW4 := Lib.hid hW
      obtain ⟨q0, q1, q2, q3, q4, q5, q6⟩ := bx7 hm.2.2
      obtain ⟨m0, m1, m2, m3, m4, m5, m6⟩ := bx7_free hm.2.2
      clear hs hW hm hl hg HS3 HC4
      go_wp2_with fail
      clear q0 q1 q2 q3 q4 q5 q6 m0 m1 m2 m3 m4 m5 m6
      rw [← HW4.out]
      clear HW4
      rcases (show g = 0 ∨ g = 1 from by omega) with rfl | rfl
      · clear k5
        refine (HC5.out W4 HS4.out.1).mono ?_
        rintro e w15 ⟨rfl, hl, hg⟩
        have hm := HS4.out.next hl hg hMb
        have hUpA1 := HUpA1.out.by hg (by omega)
        obtain ⟨W5, hW⟩ : ∃ W, W = w15.setCell ⟨M, 4, none⟩ (.bool false) := ⟨_, rfl⟩
        have hs := hm.set hM1 hMw hb1 4 (show 4 < 7 by decide) (.bool false)
        have kUpA1 := hUpA1.by (grown_set w15 M 4 (.bool false)) (Nat.le_refl _)
        rw [← hW] at hs kUpA1
        have HS5 := Lib.hid (show Made (w.heap.size + 1) A c xs.length M w1 wr s5 [.string t1, .slice A1 n1 c1, .int .i64 (lo : Int), .int .i64 (hi : Int), .bool false, .string ⟨#[]⟩, .slice none 0 0] W5 from hs)
        clear hUpA1
        clear HUpA1
        have HUpA1 := Lib.hid kUpA1
        clear kUpA1
        have HW5 := Lib.hid hW
        obtain ⟨q0, q1, q2, q3, q4, q5, q6⟩ := bx7 hm.2.2
        obtain ⟨m0, m1, m2, m3, m4, m5, m6⟩ := bx7_free hm.2.2
        clear hs hW hm hl hg HS4 HC5
        have ha := (Below.refl W5.heap.size W5).alloc (Nat.le_refl _) (.cells #[.string t1, .slice A1 n1 c1, .int .i64 (lo : Int), .int .i64 (hi : Int), .bool false, .string ⟨#[]⟩, .slice none 0 0] 47)
        have hrel : KSt.rel (fun k => w.heap.size + 1 + 1 + 1 ≤ k ∧ ne u k) W5 ⟨t1, f1, (lo : Int), (hi : Int), false, ⟨#[]⟩, []⟩ (encSt ⟨t1, f1, (lo : Int), (hi : Int), false, ⟨#[]⟩, []⟩ A1 c1 none 0) := ⟨A1, c1, none, 0, rfl, HUpA1.out.1, slO_none _, fine_of k1 (Nat.zero_le _) k3 k4, fun _ a ha => ⟨by have := HUpA1.out.2 a ha; omega, fun e => by have h1 := (HO.out.lt _ e.symm).2; have h2 := HUpA1.out.2 a ha; omega⟩, fun h => absurd h (Nat.lt_irrefl 0)⟩
        have hnew := RG.elem_new (K := KSt) W5 47 ⟨t1, f1, (lo : Int), (hi : Int), false, ⟨#[]⟩, []⟩ (encSt ⟨t1, f1, (lo : Int), (hi : Int), false, ⟨#[]⟩, []⟩ A1 c1 none 0) hrel
        unfold encSt at hnew
        simp only [← HN1.out, List.length_nil] at hnew
        have hzz : W5.heap.size = w15.heap.size := by rw [HW5.out]; simp
        rw [hzz] at hnew
        clear hzz
        have HRow := Lib.hid hnew.1
        have HNew := Lib.hid hnew.2
        have hqb := RG.BxN.grown HQ.out HS5.out.2.1 (fun e => by injection e with e; omega)
        have HO4 := Lib.hid (RegA.own_below (HO.out.kept HS5.out.2.1 (Or.inr (fun e => by have := (HO.out.lt _ e).1; omega))) ha)
        have hel3 : RG.Elems KSt (fun k => w.heap.size + 1 + 1 + 1 ≤ k ∧ ne u k) W5 l vs := HE.out.map fun _ _ h => KSt.grown h HS5.out.2.1 (fun k hk e => by injection e with e; omega)
        have HE4 := Lib.hid (hel3.map (w' := W5.alloc (.cells #[.string t1, .slice A1 n1 c1, .int .i64 (lo : Int), .int .i64 (hi : Int), .bool false, .string ⟨#[]⟩, .slice none 0 0] 47)) (q := fun k => w.heap.size + 1 + 1 + 1 ≤ k ∧ ne u k) fun _ _ h => KSt.kept h ha)
        have HL4 := Lib.hid (HS5.out.1.below ha)
        have HQ4 := Lib.hid (RG.BxN.kept hqb ha)
        have hz4 : w.heap.size + 1 + 1 + 1 ≤ (W5.alloc (.cells #[.string t1, .slice A1 n1 c1, .int .i64 (lo : Int), .int .i64 (hi : Int), .bool false, .string ⟨#[]⟩, .slice none 0 0] 47)).heap.size := by have k1 := HS5.out.2.1.size; have k2 := ha.size; clear ha; omega
        obtain ⟨r0, r1, r2, r3, r4, r5, r6⟩ := bx7 HS5.out.2.2
        have y0 := (bx5 hqb).1
        have hsx : rSt xs (sp, false) = (⟨t1, f1, (lo : Int), (hi : Int), false, ⟨#[]⟩, []⟩, s5) := Hno.out (by decide)
        have hfs := HFs.out
        rw [hsx] at hfs
        simp only at hfs
        have HFs2 := Lib.hid hfs
        clear ha hrel hnew hqb hel3 hsx hfs HFs HO HE HL HQ HS5 Hyes Hno
        have hW := HW5.out
        subst hW
        clear HW5
        go_wp2_with (at_builtin; go_loud (refine RG.Ty.wp_append (K := KSt) tySt (fun k => w.heap.size + 1 + 1 + 1 ≤ k) rfl (.tmp 55) (.tmp 57) rfl (w.heap.size + 1 + 1 + 1) _ j vs l rfl HO4.out HE4.out (some ⟨w15.heap.size, 0, none⟩) 1 1 _ [⟨t1, f1, (lo : Int), (hi : Int), false, ⟨#[]⟩, []⟩] rfl rfl HRow.out HNew.out (fun h => by cases h) (by omega) hz4 ?_; intro u5 w5 hown5 hel5 hgrow5; refine pause ?_))
        clear q0 q1 q2 q3 q4 q5 q6 y0 m0 m1 m2 m3 m4 m5 m6 r0 r1 r2 r3 r4 r5 r6
        obtain ⟨A5, c5, hu5⟩ := RG.own_is hown5
        obtain ⟨m5, hm5⟩ : ∃ m, m = j + 1 := ⟨_, rfl⟩
        rw [← hm5] at hu5
        clear hm5
        subst hu5
        have hl5 := HL4.out.own hgrow5 (fun q hq => by have := (HO4.out.lt q hq).1; omega) hb1
        have hq5 := RG.BxN.grown HQ4.out hgrow5 (fun e => by have := (HO4.out.lt _ e.symm).1; omega)
        obtain ⟨W6, hW6⟩ : ∃ W, W = w5.setCell ⟨w.heap.size + 1 + 1, 0, none⟩ (.slice A5 m5 c5) := ⟨_, rfl⟩
        have hl6 := hl5.set (k := w.heap.size + 1 + 1) (i := 0) (by omega) hb1 (.slice A5 m5 c5)
        have hq6 := hq5.set 0 (show 0 < 5 by decide) (.slice A5 m5 c5)
        have hg6 := grown_set w5 (w.heap.size + 1 + 1) 0 (.slice A5 m5 c5)
        rw [← hW6] at hl6 hq6 hg6
        have HO6 := Lib.hid (hown5.kept hg6 (Or.inr (fun e => by have := (hown5.lt _ e).1; omega)))
        have hel6 : RG.Elems KSt (fun k => w.heap.size + 1 + 1 + 1 ≤ k ∧ ne (.slice A5 m5 c5) k) W6 _ _ := hel5.map fun _ _ h => KSt.grown h hg6 (fun k hk e => by injection e with e; omega)
        have HE6 := Lib.hid hel6
        have HL6 := Lib.hid hl6
        have HQ6 := Lib.hid hq6
        have HW6 := Lib.hid hW6
        have z0 := (bx5 hq5).1
        have z1 := (bx5_free hq5).1
        clear hl5 hq5 hW6 hl6 hq6 hg6 hown5 hel5 hgrow5 hel6 HL4 HQ4 HO4 HE4 HRow HNew
        unfold Pause
        go_wp2_with fail
        rw [← HW6.out]
        go_roundw
        case rel => exact ⟨j + 1, _, _, (.slice A5 m5 c5), _, by go_num, by omega, HFs2.out, HO6.out, HE6.out, HL6.out, HQ6.out⟩
        case measure => simp [intOf]; omega
      · clear k5
        refine (HC5.out W4 HS4.out.1).mono ?_
        rintro e w15 ⟨rfl, hl, hg⟩
        have hm := HS4.out.next hl hg hMb
        have hUpA1 := HUpA1.out.by hg (by omega)
        obtain ⟨W5, hW⟩ : ∃ W, W = w15.setCell ⟨M, 4, none⟩ (.bool true) := ⟨_, rfl⟩
        have hs := hm.set hM1 hMw hb1 4 (show 4 < 7 by decide) (.bool true)
        have kUpA1 := hUpA1.by (grown_set w15 M 4 (.bool true)) (Nat.le_refl _)
        rw [← hW] at hs kUpA1
        have HS5 := Lib.hid (show Made (w.heap.size + 1) A c xs.length M w1 wr s5 [.string t1, .slice A1 n1 c1, .int .i64 (lo : Int), .int .i64 (hi : Int), .bool true, .string ⟨#[]⟩, .slice none 0 0] W5 from hs)
        clear hUpA1
        clear HUpA1
        have HUpA1 := Lib.hid kUpA1
        clear kUpA1
        have HW5 := Lib.hid hW
        obtain ⟨q0, q1, q2, q3, q4, q5, q6⟩ := bx7 hm.2.2
        obtain ⟨m0, m1, m2, m3, m4, m5, m6⟩ := bx7_free hm.2.2
        clear hs hW hm hl hg HS4 HC5
        go_wp2_with fail
        clear q0 q1 q2 q3 q4 q5 q6 m0 m1 m2 m3 m4 m5 m6
        rw [← HW5.out]
        clear HW5
        refine (HC6.out W5 HS5.out.1).mono ?_
        rintro e w16 ⟨rfl, hl, hg⟩
        have hm := HS5.out.next hl hg hMb
        have hUpA1 := HUpA1.out.by hg (by omega)
        obtain ⟨W6, hW⟩ : ∃ W, W = w16.setCell ⟨M, 5, none⟩ (.string t2) := ⟨_, rfl⟩
        have hs := hm.set hM1 hMw hb1 5 (show 5 < 7 by decide) (.string t2)
        have kUpA1 := hUpA1.by (grown_set w16 M 5 (.string t2)) (Nat.le_refl _)
        rw [← hW] at hs kUpA1
        have HS6 := Lib.hid (show Made (w.heap.size + 1) A c xs.length M w1 wr s6 [.string t1, .slice A1 n1 c1, .int .i64 (lo : Int), .int .i64 (hi : Int), .bool true, .string t2, .slice none 0 0] W6 from hs)
        clear hUpA1
        clear HUpA1
        have HUpA1 := Lib.hid kUpA1
        clear kUpA1
        have HW6 := Lib.hid hW
        obtain ⟨q0, q1, q2, q3, q4, q5, q6⟩ := bx7 hm.2.2
        obtain ⟨m0, m1, m2, m3, m4, m5, m6⟩ := bx7_free hm.2.2
        clear hs hW hm hl hg HS5 HC6
        go_wp2_with fail
        clear q0 q1 q2 q3 q4 q5 q6 m0 m1 m2 m3 m4 m5 m6
        rw [← HW6.out]
        clear HW6
        refine (HC7.out W6 HS6.out.1).mono ?_
        rintro e w17 ⟨⟨B1, d1, rfl, hu, hf⟩, hl, hg⟩
        have hlt := bx7_lt HS6.out.2.2
        have hm := HS6.out.next hl hg hMb
        have hUpA1 := HUpA1.out.by hg (by omega)
        have hUpB1 : Up M w17 B1 f2 d1 := ⟨hu, fun a ha => by have := hf a ha; omega⟩
        clear hu hf hlt
        obtain ⟨W7, hW⟩ : ∃ W, W = w17.setCell ⟨M, 6, none⟩ (.slice B1 n2 d1) := ⟨_, rfl⟩
        have hs := hm.set hM1 hMw hb1 6 (show 6 < 7 by decide) (.slice B1 n2 d1)
        have kUpA1 := hUpA1.by (grown_set w17 M 6 (.slice B1 n2 d1)) (Nat.le_refl _)
        have kUpB1 := hUpB1.by (grown_set w17 M 6 (.slice B1 n2 d1)) (Nat.le_refl _)
        rw [← hW] at hs kUpA1 kUpB1
        have HS7 := Lib.hid (show Made (w.heap.size + 1) A c xs.length M w1 wr s7 [.string t1, .slice A1 n1 c1, .int .i64 (lo : Int), .int .i64 (hi : Int), .bool true, .string t2, .slice B1 n2 d1] W7 from hs)
        clear hUpA1
        clear HUpA1
        have HUpA1 := Lib.hid kUpA1
        clear kUpA1
        clear hUpB1
        have HUpB1 := Lib.hid kUpB1
        clear kUpB1
        have HW7 := Lib.hid hW
        obtain ⟨q0, q1, q2, q3, q4, q5, q6⟩ := bx7 hm.2.2
        obtain ⟨m0, m1, m2, m3, m4, m5, m6⟩ := bx7_free hm.2.2
        clear hs hW hm hl hg HS6 HC7
        have ha := (Below.refl W7.heap.size W7).alloc (Nat.le_refl _) (.cells #[.string t1, .slice A1 n1 c1, .int .i64 (lo : Int), .int .i64 (hi : Int), .bool true, .string t2, .slice B1 n2 d1] 47)
        have hrel : KSt.rel (fun k => w.heap.size + 1 + 1 + 1 ≤ k ∧ ne u k) W7 ⟨t1, f1, (lo : Int), (hi : Int), true, t2, f2⟩ (encSt ⟨t1, f1, (lo : Int), (hi : Int), true, t2, f2⟩ A1 c1 B1 d1) := ⟨A1, c1, B1, d1, rfl, HUpA1.out.1, HUpB1.out.1, fine_of k1 k2 k3 k4, fun _ a ha => ⟨by have := HUpA1.out.2 a ha; omega, fun e => by have h1 := (HO.out.lt _ e.symm).2; have h2 := HUpA1.out.2 a ha; omega⟩, fun _ a ha => ⟨by have := HUpB1.out.2 a ha; omega, fun e => by have h1 := (HO.out.lt _ e.symm).2; have h2 := HUpB1.out.2 a ha; omega⟩⟩
        have hnew := RG.elem_new (K := KSt) W7 47 ⟨t1, f1, (lo : Int), (hi : Int), true, t2, f2⟩ (encSt ⟨t1, f1, (lo : Int), (hi : Int), true, t2, f2⟩ A1 c1 B1 d1) hrel
        unfold encSt at hnew
        simp only [← HN1.out, ← HN2.out] at hnew
        have hzz : W7.heap.size = w17.heap.size := by rw [HW7.out]; simp
        rw [hzz] at hnew
        clear hzz
        have HRow := Lib.hid hnew.1
        have HNew := Lib.hid hnew.2
        have hqb := RG.BxN.grown HQ.out HS7.out.2.1 (fun e => by injection e with e; omega)
        have HO4 := Lib.hid (RegA.own_below (HO.out.kept HS7.out.2.1 (Or.inr (fun e => by have := (HO.out.lt _ e).1; omega))) ha)
        have hel3 : RG.Elems KSt (fun k => w.heap.size + 1 + 1 + 1 ≤ k ∧ ne u k) W7 l vs := HE.out.map fun _ _ h => KSt.grown h HS7.out.2.1 (fun k hk e => by injection e with e; omega)
        have HE4 := Lib.hid (hel3.map (w' := W7.alloc (.cells #[.string t1, .slice A1 n1 c1, .int .i64 (lo : Int), .int .i64 (hi : Int), .bool true, .string t2, .slice B1 n2 d1] 47)) (q := fun k => w.heap.size + 1 + 1 + 1 ≤ k ∧ ne u k) fun _ _ h => KSt.kept h ha)
        have HL4 := Lib.hid (HS7.out.1.below ha)
        have HQ4 := Lib.hid (RG.BxN.kept hqb ha)
        have hz4 : w.heap.size + 1 + 1 + 1 ≤ (W7.alloc (.cells #[.string t1, .slice A1 n1 c1, .int .i64 (lo : Int), .int .i64 (hi : Int), .bool true, .string t2, .slice B1 n2 d1] 47)).heap.size := by have k1 := HS7.out.2.1.size; have k2 := ha.size; clear ha; omega
        obtain ⟨r0, r1, r2, r3, r4, r5, r6⟩ := bx7 HS7.out.2.2
        have y0 := (bx5 hqb).1
        have hsx : rSt xs (sp, false) = (⟨t1, f1, (lo : Int), (hi : Int), true, t2, f2⟩, s7) := Hyes.out (by trivial)
        have hfs := HFs.out
        rw [hsx] at hfs
        simp only at hfs
        have HFs2 := Lib.hid hfs
        clear ha hrel hnew hqb hel3 hsx hfs HFs HO HE HL HQ HS7 Hyes Hno
        have hW := HW7.out
        subst hW
        clear HW7
        go_wp2_with (at_builtin; go_loud (refine RG.Ty.wp_append (K := KSt) tySt (fun k => w.heap.size + 1 + 1 + 1 ≤ k) rfl (.tmp 55) (.tmp 57) rfl (w.heap.size + 1 + 1 + 1) _ j vs l rfl HO4.out HE4.out (some ⟨w17.heap.size, 0, none⟩) 1 1 _ [⟨t1, f1, (lo : Int), (hi : Int), true, t2, f2⟩] rfl rfl HRow.out HNew.out (fun h => by cases h) (by omega) hz4 ?_; intro u5 w5 hown5 hel5 hgrow5; refine pause ?_))
        clear q0 q1 q2 q3 q4 q5 q6 y0 m0 m1 m2 m3 m4 m5 m6 r0 r1 r2 r3 r4 r5 r6
        obtain ⟨A5, c5, hu5⟩ := RG.own_is hown5
        obtain ⟨m5, hm5⟩ : ∃ m, m = j + 1 := ⟨_, rfl⟩
        rw [← hm5] at hu5
        clear hm5
        subst hu5
        have hl5 := HL4.out.own hgrow5 (fun q hq => by have := (HO4.out.lt q hq).1; omega) hb1
        have hq5 := RG.BxN.grown HQ4.out hgrow5 (fun e => by have := (HO4.out.lt _ e.symm).1; omega)
        obtain ⟨W6, hW6⟩ : ∃ W, W = w5.setCell ⟨w.heap.size + 1 + 1, 0, none⟩ (.slice A5 m5 c5) := ⟨_, rfl⟩
        have hl6 := hl5.set (k := w.heap.size + 1 + 1) (i := 0) (by omega) hb1 (.slice A5 m5 c5)
        have hq6 := hq5.set 0 (show 0 < 5 by decide) (.slice A5 m5 c5)
        have hg6 := grown_set w5 (w.heap.size + 1 + 1) 0 (.slice A5 m5 c5)
        rw [← hW6] at hl6 hq6 hg6
        have HO6 := Lib.hid (hown5.kept hg6 (Or.inr (fun e => by have := (hown5.lt _ e).1; omega)))
        have hel6 : RG.Elems KSt (fun k => w.heap.size + 1 + 1 + 1 ≤ k ∧ ne (.slice A5 m5 c5) k) W6 _ _ := hel5.map fun _ _ h => KSt.grown h hg6 (fun k hk e => by injection e with e; omega)
        have HE6 := Lib.hid hel6
        have HL6 := Lib.hid hl6
        have HQ6 := Lib.hid hq6
        have HW6 := Lib.hid hW6
        have z0 := (bx5 hq5).1
        have z1 := (bx5_free hq5).1
        clear hl5 hq5 hW6 hl6 hq6 hg6 hown5 hel5 hgrow5 hel6 HL4 HQ4 HO4 HE4 HRow HNew
        unfold Pause
        go_wp2_with fail
        rw [← HW6.out]
        go_roundw
        case rel => exact ⟨j + 1, _, _, (.slice A5 m5 c5), _, by go_num, by omega, HFs2.out, HO6.out, HE6.out, HL6.out, HQ6.out⟩
        case measure => simp [intOf]; omega
    · have hsl := HRead.out j l s HF.out (fun k => by have q : ¬ j < n := fun q => hgo ⟨q, k⟩; omega) hj
      obtain ⟨A1, c1, hu, hl1, hsg, hfar⟩ := RG.own_slG (K := KSt) HO.out HE.out (by decide)
      have HU0 := Lib.hid (show SlOver (w.heap.size + 1 + 1 + 1) wr A1 l c1 from ⟨RG.SlG.mono hsg fun _ _ h => h.1, fun a ha => (hfar a ha).2.1⟩)
      obtain ⟨m, hm⟩ : ∃ m, m = l.length := ⟨_, rfl⟩
      rw [← hm] at hu
      subst hu
      obtain ⟨⟨v1, s1⟩, e1⟩ : ∃ r, r = rd (Gr.num 1125899906842624) 0 xs s := ⟨_, rfl⟩
      obtain ⟨⟨v2, s2⟩, e2⟩ : ∃ r, r = rd (Gr.num 4) 0 xs s1 := ⟨_, rfl⟩
      obtain ⟨⟨v3, s3⟩, e3⟩ : ∃ r, r = rd (Gr.num 4) 0 xs s2 := ⟨_, rfl⟩
      obtain ⟨⟨v4, s4⟩, e4⟩ : ∃ r, r = rd (Gr.num 6) 0 xs s3 := ⟨_, rfl⟩
      rw [rTail_of e1.symm e2.symm e3.symm e4.symm] at hsl
      simp only at hsl
      have c1' := fun W (h : Left (w.heap.size + 1) A c xs.length w1 s W) => numL (most := 1125899906842624) h HX.out (by decide)
      simp only [← e1] at c1'
      have HC1 := Lib.hid c1'
      have c2' := fun W (h : Left (w.heap.size + 1) A c xs.length w1 s1 W) => numL (most := 4) h HX.out (by decide)
      simp only [← e2] at c2'
      have HC2 := Lib.hid c2'
      have c3' := fun W (h : Left (w.heap.size + 1) A c xs.length w1 s2 W) => numL (most := 4) h HX.out (by decide)
      simp only [← e3] at c3'
      have HC3 := Lib.hid c3'
      have c4' := fun W (h : Left (w.heap.size + 1) A c xs.length w1 s3 W) => numL (most := 6) h HX.out (by decide)
      simp only [← e4] at c4'
      have HC4 := Lib.hid c4'
      have HSl := Lib.hid hsl
      have HMm := Lib.hid hm
      have HL0 := Lib.hid HL.out
      have HQ0 := Lib.hid HQ.out
      have hb1 : w.heap.size + 1 < w1.heap.size := by omega
      have hgo2 : j < n → s.2 = true := fun q => by cases h : s.2 with | true => rfl | false => exact absurd ⟨q, h⟩ hgo
      have HGo := Lib.hid hgo2
      clear c1' c2' c3' c4' e1 e2 e3 e4 hsl hm hl1 hsg hfar HO HE HL HQ HF hgo hgo2 HRead
      obtain ⟨sb, hsb⟩ : ∃ sb, sb = s.2 := ⟨_, rfl⟩
      rw [← hsb] at p2
      have hs1' : j < n → sb = true := fun q => hsb.trans (HGo.out q)
      clear hsb HGo
      obtain ⟨bad, hbad⟩ : ∃ b, b = s4.2 := ⟨_, rfl⟩
      have HBad := Lib.hid hbad
      clear hbad
      obtain ⟨dj, hdj⟩ : ∃ d, d = decide (j < n) := ⟨_, rfl⟩
      have d1 : decide ((j : Int) < (n : Int)) = dj := by rw [hdj, decide_eq_decide]; omega
      have d1' : decide (j < n) = dj := hdj.symm
      have hways : (dj = true ∧ sb = true) ∨ dj = false := by
        by_cases hjn : j < n
        · exact Or.inl ⟨hdj.trans (decide_eq_true hjn), hs1' hjn⟩
        · exact Or.inr (hdj.trans (decide_eq_false hjn))
      clear hdj hs1'
      rcases hways with ⟨rfl, rfl⟩ | rfl
      all_goals
        go_wp2_with fail
        refine (HC1.out wr HL0.out).mono ?_
        rintro e w11 ⟨rfl, hl, hg⟩
        have hq := RG.BxN.grown HQ0.out hg (fun e => by injection e with e; omega)
        have hu := HU0.out.grown hg (by omega)
        obtain ⟨W1, hW⟩ : ∃ W, W = w11.setCell ⟨w.heap.size + 1 + 1, 1, none⟩ (.int .i64 (v1 : Int)) := ⟨_, rfl⟩
        have hl2 := hl.set (k := w.heap.size + 1 + 1) (i := 1) (by omega) hb1 (.int .i64 (v1 : Int))
        have hq2 := hq.set 1 (show 1 < 5 by decide) (.int .i64 (v1 : Int))
        have hu2 := hu.grown (grown_set w11 (w.heap.size + 1 + 1) 1 (.int .i64 (v1 : Int))) (by omega)
        rw [← hW] at hl2 hq2 hu2
        have HQ1 := Lib.hid (show RG.BxN W1 (w.heap.size + 1 + 1) [.slice A1 m c1, .int .i64 (v1 : Int), .int .i64 0, .int .i64 0, .int .i64 0] from hq2)
        have HL1 := Lib.hid hl2
        have HU1 := Lib.hid hu2
        obtain ⟨x0, x1, x2, x3, x4⟩ := bx5 hq
        obtain ⟨z0, z1, z2, z3, z4⟩ := bx5_free hq
        have HW1 := Lib.hid hW
        clear hl hg hq hu hW hl2 hq2 hu2 HQ0 HL0 HU0 HC1 p0 p1 p2 d1 d1'
        go_wp2_with fail
        rw [← HW1.out]
        clear x0 x1 x2 x3 x4 z0 z1 z2 z3 z4 HW1
        refine (HC2.out W1 HL1.out).mono ?_
        rintro e w12 ⟨rfl, hl, hg⟩
        have hq := RG.BxN.grown HQ1.out hg (fun e => by injection e with e; omega)
        have hu := HU1.out.grown hg (by omega)
        obtain ⟨W2, hW⟩ : ∃ W, W = w12.setCell ⟨w.heap.size + 1 + 1, 2, none⟩ (.int .i64 (v2 : Int)) := ⟨_, rfl⟩
        have hl2 := hl.set (k := w.heap.size + 1 + 1) (i := 2) (by omega) hb1 (.int .i64 (v2 : Int))
        have hq2 := hq.set 2 (show 2 < 5 by decide) (.int .i64 (v2 : Int))
        have hu2 := hu.grown (grown_set w12 (w.heap.size + 1 + 1) 2 (.int .i64 (v2 : Int))) (by omega)
        rw [← hW] at hl2 hq2 hu2
        have HQ2 := Lib.hid (show RG.BxN W2 (w.heap.size + 1 + 1) [.slice A1 m c1, .int .i64 (v1 : Int), .int .i64 (v2 : Int), .int .i64 0, .int .i64 0] from hq2)
        have HL2 := Lib.hid hl2
        have HU2 := Lib.hid hu2
        obtain ⟨x0, x1, x2, x3, x4⟩ := bx5 hq
        obtain ⟨z0, z1, z2, z3, z4⟩ := bx5_free hq
        have HW2 := Lib.hid hW
        clear hl hg hq hu hW hl2 hq2 hu2 HQ1 HL1 HU1 HC2
        go_wp2_with fail
        rw [← HW2.out]
        clear x0 x1 x2 x3 x4 z0 z1 z2 z3 z4 HW2
        refine (HC3.out W2 HL2.out).mono ?_
        rintro e w13 ⟨rfl, hl, hg⟩
        have hq := RG.BxN.grown HQ2.out hg (fun e => by injection e with e; omega)
        have hu := HU2.out.grown hg (by omega)
        obtain ⟨W3, hW⟩ : ∃ W, W = w13.setCell ⟨w.heap.size + 1 + 1, 3, none⟩ (.int .i64 (v3 : Int)) := ⟨_, rfl⟩
        have hl2 := hl.set (k := w.heap.size + 1 + 1) (i := 3) (by omega) hb1 (.int .i64 (v3 : Int))
        have hq2 := hq.set 3 (show 3 < 5 by decide) (.int .i64 (v3 : Int))
        have hu2 := hu.grown (grown_set w13 (w.heap.size + 1 + 1) 3 (.int .i64 (v3 : Int))) (by omega)
        rw [← hW] at hl2 hq2 hu2
        have HQ3 := Lib.hid (show RG.BxN W3 (w.heap.size + 1 + 1) [.slice A1 m c1, .int .i64 (v1 : Int), .int .i64 (v2 : Int), .int .i64 (v3 : Int), .int .i64 0] from hq2)
        have HL3 := Lib.hid hl2
        have HU3 := Lib.hid hu2
        obtain ⟨x0, x1, x2, x3, x4⟩ := bx5 hq
        obtain ⟨z0, z1, z2, z3, z4⟩ := bx5_free hq
        have HW3 := Lib.hid hW
        clear hl hg hq hu hW hl2 hq2 hu2 HQ2 HL2 HU2 HC3
        go_wp2_with fail
        rw [← HW3.out]
        clear x0 x1 x2 x3 x4 z0 z1 z2 z3 z4 HW3
        refine (HC4.out W3 HL3.out).mono ?_
        rintro e w14 ⟨rfl, hl, hg⟩
        have hq := RG.BxN.grown HQ3.out hg (fun e => by injection e with e; omega)
        have hu := HU3.out.grown hg (by omega)
        obtain ⟨W4, hW⟩ : ∃ W, W = w14.setCell ⟨w.heap.size + 1 + 1, 4, none⟩ (.int .i64 (v4 : Int)) := ⟨_, rfl⟩
        have hl2 := hl.set (k := w.heap.size + 1 + 1) (i := 4) (by omega) hb1 (.int .i64 (v4 : Int))
        have hq2 := hq.set 4 (show 4 < 5 by decide) (.int .i64 (v4 : Int))
        have hu2 := hu.grown (grown_set w14 (w.heap.size + 1 + 1) 4 (.int .i64 (v4 : Int))) (by omega)
        rw [← hW] at hl2 hq2 hu2
        have HQ4 := Lib.hid (show RG.BxN W4 (w.heap.size + 1 + 1) [.slice A1 m c1, .int .i64 (v1 : Int), .int .i64 (v2 : Int), .int .i64 (v3 : Int), .int .i64 (v4 : Int)] from hq2)
        have HL4 := Lib.hid hl2
        have HU4 := Lib.hid hu2
        obtain ⟨x0, x1, x2, x3, x4⟩ := bx5 hq
        obtain ⟨z0, z1, z2, z3, z4⟩ := bx5_free hq
        have HW4 := Lib.hid hW
        clear hl hg hq hu hW hl2 hq2 hu2 HQ3 HL3 HU3 HC4
        have hmay := refMay_any ⟨l, v1, v2, v3, v4⟩ A1 c1 W4 HU4.out.st
        unfold agQ at hmay
        simp only [← HMm.out] at hmay
        have HMay := Lib.hid hmay
        obtain ⟨g0, g1, g2, g3, g4⟩ := bx5 HQ4.out
        have hW := HW4.out
        clear hmay HW4
        subst hW
        go_wp2_with fail
        refine HMay.out.mono ?_
        obtain ⟨W4, hW4⟩ : ∃ W, W = w14.setCell ⟨w.heap.size + 1 + 1, 4, none⟩ (.int .i64 (v4 : Int)) := ⟨_, rfl⟩
        rw [← hW4] at HL4 HQ4 HU4 ⊢
        rintro e w5 ⟨rfl, hb5⟩
        have HL5 := Lib.hid (HL4.out.below hb5)
        have HQ5 := Lib.hid (RG.BxN.kept HQ4.out hb5)
        have HU5 := Lib.hid (HU4.out.kept hb5)
        have HN5 := Lib.hid (HLastOf.out _ _ HL5.out)
        have HB5 := Lib.hid (HBelow.out _ _ HL5.out)
        clear HL4 HQ4 HU4 hb5 HMay
        clear x0 x1 x2 x3 x4 z0 z1 z2 z3 z4 g0 g1 g2 g3 g4 hW4
        obtain ⟨p0, p1, p2⟩ := HL5.out.2.1.1
        have HBx := Lib.hid HL5.out.2.1
        obtain ⟨fp, hfp⟩ : ∃ p, p = s4.1 := ⟨_, rfl⟩
        rw [← hfp] at p1
        rw [← HBad.out] at p2
        have hbx := HBx.out
        rw [← hfp, ← HBad.out] at hbx
        have hgf := HSl.out
        rw [← hfp, ← HBad.out] at hgf
        have HX5 := Lib.hid hbx
        have HG := Lib.hid hgf
        clear hbx hgf hfp HBx HBad HSl
        cases bad
        rotate_left
        · have HNo := Lib.hid (show G = (QyM.q0, 0, false) from by rw [HG.out, if_neg (fun h => by cases h.1)])
          obtain ⟨R, hR⟩ : ∃ R, R = decide (May ⟨l, (v1 : Int), (v2 : Int), (v3 : Int), (v4 : Int)⟩) := ⟨_, rfl⟩; rw [← hR]; clear hR
          obtain ⟨W7, hW7⟩ : ∃ W, W = put5 w5 w.heap.size (.slice none 0 0) (.int .i64 0) (.int .i64 0) (.int .i64 0) (.int .i64 0) := ⟨_, rfl⟩
          have hn7 := bx5_put HN5.out (.slice none 0 0) (.int .i64 0) (.int .i64 0) (.int .i64 0) (.int .i64 0)
          have hb7 := below5 HB5.out (Nat.le_refl _) (.slice none 0 0) (.int .i64 0) (.int .i64 0) (.int .i64 0) (.int .i64 0)
          rw [← hW7] at hn7 hb7
          unfold put5 at hW7
          obtain ⟨n0, n1, n2, n3, n4⟩ := bx5 HN5.out
          obtain ⟨m0, m1, m2, m3, m4⟩ := bx5_free HN5.out
          have HW7 := Lib.hid hW7
          have HN7 := Lib.hid hn7
          have HB7 := Lib.hid hb7
          clear hW7 hn7 hb7
          go_wp2_with fail
          rw [← HW7.out]
          obtain ⟨g0, g1, g2, g3, g4⟩ := bx5 HN7.out
          exact bodyPost_ret (v := .tuple #[.agg #[.slice none 0 0, .int .i64 0, .int .i64 0, .int .i64 0, .int .i64 0], .int .i64 0, .bool false]) (by simp [results, Tryz.results12, go_sem, g0, g1, g2, g3, g4]) rfl ⟨none, 0, ret_v (by rw [HNo.out]; rfl), by rw [HNo.out]; exact slSt_none _, HB7.out⟩
        · by_cases hmy : May ⟨l, (v1 : Int), (v2 : Int), (v3 : Int), (v4 : Int)⟩
          rotate_left
          · have HNo := Lib.hid (show G = (QyM.q0, 0, false) from by rw [HG.out, if_neg (fun h => hmy h.2)])
            rw [decide_eq_false hmy]
            obtain ⟨W7, hW7⟩ : ∃ W, W = put5 w5 w.heap.size (.slice none 0 0) (.int .i64 0) (.int .i64 0) (.int .i64 0) (.int .i64 0) := ⟨_, rfl⟩
            have hn7 := bx5_put HN5.out (.slice none 0 0) (.int .i64 0) (.int .i64 0) (.int .i64 0) (.int .i64 0)
            have hb7 := below5 HB5.out (Nat.le_refl _) (.slice none 0 0) (.int .i64 0) (.int .i64 0) (.int .i64 0) (.int .i64 0)
            rw [← hW7] at hn7 hb7
            unfold put5 at hW7
            obtain ⟨n0, n1, n2, n3, n4⟩ := bx5 HN5.out
            obtain ⟨m0, m1, m2, m3, m4⟩ := bx5_free HN5.out
            have HW7 := Lib.hid hW7
            have HN7 := Lib.hid hn7
            have HB7 := Lib.hid hb7
            clear hW7 hn7 hb7
            go_wp2_with fail
            rw [← HW7.out]
            obtain ⟨g0, g1, g2, g3, g4⟩ := bx5 HN7.out
            exact bodyPost_ret (v := .tuple #[.agg #[.slice none 0 0, .int .i64 0, .int .i64 0, .int .i64 0, .int .i64 0], .int .i64 0, .bool false]) (by simp [results, Tryz.results12, go_sem, g0, g1, g2, g3, g4]) rfl ⟨none, 0, ret_v (by rw [HNo.out]; rfl), by rw [HNo.out]; exact slSt_none _, HB7.out⟩
          · have HYes := Lib.hid (show G = (⟨l, (v1 : Int), (v2 : Int), (v3 : Int), (v4 : Int)⟩, fp, true) from by rw [HG.out, if_pos (by first | exact ⟨trivial, hmy⟩ | exact ⟨rfl, hmy⟩)])
            rw [decide_eq_true hmy]
            clear hmy HG
            go_wp2_with fail
            clear p0 p1 p2
            refine RegB.GS_start (fun x => RG.BxN x (w.heap.size + 1 + 1) [.slice A1 m c1, .int .i64 (v1 : Int), .int .i64 (v2 : Int), .int .i64 (v3 : Int), .int .i64 (v4 : Int)] ∧ Bx x (w.heap.size + 1) (.slice A xs.length c) (.int .i64 (fp : Int)) (.bool false)) (by kernel_rfl) (by repeat (first | with_reducible exact Reg.frameless_bodyPost | with_reducible refine Reg.frameless_then ?_ | with_reducible refine Reg.frameless_inBlock ?_ | exact Reg.frameless_bodyPost | refine Reg.frameless_then ?_ | refine Reg.frameless_inBlock ?_)) (fun W hW => ⟨RG.BxN.kept HQ5.out hW, HX5.out.kept hW⟩) (fun W hW => ?_)
            have HNW := Lib.hid (RG.BxN.kept HN5.out hW)
            have HBW := Lib.hid (bt HB5.out hW)
            have HUW := Lib.hid (HU5.out.kept hW)
            have HSW := Lib.hid (show RG.BxN W (w.heap.size + 1 + 1) [.slice A1 m c1, .int .i64 (v1 : Int), .int .i64 (v2 : Int), .int .i64 (v3 : Int), .int .i64 (v4 : Int)] ∧ Bx W (w.heap.size + 1) (.slice A xs.length c) (.int .i64 (fp : Int)) (.bool false) from ⟨RG.BxN.kept HQ5.out hW, HX5.out.kept hW⟩)
            have x0 : ∀ x : RegB.At (fun x => RG.BxN x (w.heap.size + 1 + 1) [.slice A1 m c1, .int .i64 (v1 : Int), .int .i64 (v2 : Int), .int .i64 (v3 : Int), .int .i64 (v4 : Int)] ∧ Bx x (w.heap.size + 1) (.slice A xs.length c) (.int .i64 (fp : Int)) (.bool false)), x.world.cell? ⟨w.heap.size + 1 + 1, 0, none⟩ = some (.slice A1 m c1) := fun x => (bx5 x.ok.1).1
            have x1 : ∀ x : RegB.At (fun x => RG.BxN x (w.heap.size + 1 + 1) [.slice A1 m c1, .int .i64 (v1 : Int), .int .i64 (v2 : Int), .int .i64 (v3 : Int), .int .i64 (v4 : Int)] ∧ Bx x (w.heap.size + 1) (.slice A xs.length c) (.int .i64 (fp : Int)) (.bool false)), x.world.cell? ⟨w.heap.size + 1 + 1, 1, none⟩ = some (.int .i64 (v1 : Int)) := fun x => (bx5 x.ok.1).2.1
            have x2 : ∀ x : RegB.At (fun x => RG.BxN x (w.heap.size + 1 + 1) [.slice A1 m c1, .int .i64 (v1 : Int), .int .i64 (v2 : Int), .int .i64 (v3 : Int), .int .i64 (v4 : Int)] ∧ Bx x (w.heap.size + 1) (.slice A xs.length c) (.int .i64 (fp : Int)) (.bool false)), x.world.cell? ⟨w.heap.size + 1 + 1, 2, none⟩ = some (.int .i64 (v2 : Int)) := fun x => (bx5 x.ok.1).2.2.1
            have x3 : ∀ x : RegB.At (fun x => RG.BxN x (w.heap.size + 1 + 1) [.slice A1 m c1, .int .i64 (v1 : Int), .int .i64 (v2 : Int), .int .i64 (v3 : Int), .int .i64 (v4 : Int)] ∧ Bx x (w.heap.size + 1) (.slice A xs.length c) (.int .i64 (fp : Int)) (.bool false)), x.world.cell? ⟨w.heap.size + 1 + 1, 3, none⟩ = some (.int .i64 (v3 : Int)) := fun x => (bx5 x.ok.1).2.2.2.1
            have x4 : ∀ x : RegB.At (fun x => RG.BxN x (w.heap.size + 1 + 1) [.slice A1 m c1, .int .i64 (v1 : Int), .int .i64 (v2 : Int), .int .i64 (v3 : Int), .int .i64 (v4 : Int)] ∧ Bx x (w.heap.size + 1) (.slice A xs.length c) (.int .i64 (fp : Int)) (.bool false)), x.world.cell? ⟨w.heap.size + 1 + 1, 4, none⟩ = some (.int .i64 (v4 : Int)) := fun x => (bx5 x.ok.1).2.2.2.2
            have x5 : ∀ x : RegB.At (fun x => RG.BxN x (w.heap.size + 1 + 1) [.slice A1 m c1, .int .i64 (v1 : Int), .int .i64 (v2 : Int), .int .i64 (v3 : Int), .int .i64 (v4 : Int)] ∧ Bx x (w.heap.size + 1) (.slice A xs.length c) (.int .i64 (fp : Int)) (.bool false)), x.world.cell? ⟨w.heap.size + 1, 1, none⟩ = some (.int .i64 (fp : Int)) := fun x => x.ok.2.1.2.1
            haveI : Nonempty (RegB.At (fun x => RG.BxN x (w.heap.size + 1 + 1) [.slice A1 m c1, .int .i64 (v1 : Int), .int .i64 (v2 : Int), .int .i64 (v3 : Int), .int .i64 (v4 : Int)] ∧ Bx x (w.heap.size + 1) (.slice A xs.length c) (.int .i64 (fp : Int)) (.bool false))) := ⟨⟨W, HSW.out⟩⟩
            clear hW HN5 HB5 HU5 HQ5 HX5 HL5
            refine RegB.GS_step (i := 0) rfl (by kernel_rfl) (by rfl) (fun K hK => ?_); go_big_quiet_op; refine hK _ ?_; clear hK K
            refine RegB.GS_step (i := 1) rfl (by kernel_rfl) (by rfl) (fun K hK => ?_); go_big_quiet_op; refine hK _ ?_; clear hK K
            refine RegB.GS_step (i := 2) rfl (by kernel_rfl) (by rfl) (fun K hK => ?_); go_big_quiet_op; refine hK _ ?_; clear hK K
            refine RegB.GS_step (i := 3) rfl (by kernel_rfl) (by rfl) (fun K hK => ?_); go_big_quiet_op; refine hK _ ?_; clear hK K
            refine RegB.GS_step (i := 4) rfl (by kernel_rfl) (by rfl) (fun K hK => ?_); go_big_quiet_op; refine hK _ ?_; clear hK K
            obtain ⟨W7, hW7⟩ : ∃ W7, W7 = put5 W w.heap.size (.slice A1 m c1) (.int .i64 (v1 : Int)) (.int .i64 (v2 : Int)) (.int .i64 (v3 : Int)) (.int .i64 (v4 : Int)) := ⟨_, rfl⟩
            have hn7 := bx5_put HNW.out (.slice A1 m c1) (.int .i64 (v1 : Int)) (.int .i64 (v2 : Int)) (.int .i64 (v3 : Int)) (.int .i64 (v4 : Int))
            have hg7 := grown5 W w.heap.size (.slice A1 m c1) (.int .i64 (v1 : Int)) (.int .i64 (v2 : Int)) (.int .i64 (v3 : Int)) (.int .i64 (v4 : Int))
            have hb7 := below5 HBW.out (Nat.le_refl _) (.slice A1 m c1) (.int .i64 (v1 : Int)) (.int .i64 (v2 : Int)) (.int .i64 (v3 : Int)) (.int .i64 (v4 : Int))
            rw [← hW7] at hn7 hg7 hb7
            have hS7 : RG.BxN W7 (w.heap.size + 1 + 1) [.slice A1 m c1, .int .i64 (v1 : Int), .int .i64 (v2 : Int), .int .i64 (v3 : Int), .int .i64 (v4 : Int)] ∧ Bx W7 (w.heap.size + 1) (.slice A xs.length c) (.int .i64 (fp : Int)) (.bool false) := ⟨RG.BxN.grown HSW.out.1 hg7 (fun e => by injection e with e; omega), bx_grown HSW.out.2 hg7 (fun e => by injection e with e; omega)⟩
            have HU7 := Lib.hid (HUW.out.grown hg7 (by omega))
            have HS7 := Lib.hid hS7
            have HN7 := Lib.hid hn7
            have HB7 := Lib.hid hb7
            obtain ⟨n0, n1, n2, n3, n4⟩ := bx5 HNW.out
            obtain ⟨m0, m1, m2, m3, m4⟩ := bx5_free HNW.out
            unfold put5 at hW7
            have HW7 := Lib.hid hW7
            clear hS7 hn7 hg7 hb7 hW7 HUW HSW HBW HNW
            refine RegB.GS_event (i := 5) rfl (by kernel_rfl) (by rfl) (fun K hK => ?_)
            go_simp
            rw [← HW7.out]
            refine hK _ _ HS7.out ?_
            clear hK K n0 n1 n2 n3 n4 m0 m1 m2 m3 m4
            refine RegB.GS_step (i := 6) rfl (by kernel_rfl) (by rfl) (fun K hK => ?_); go_big_quiet_op; refine hK _ ?_; clear hK K
            refine RegB.GS_step (i := 7) rfl (by kernel_rfl) (by rfl) (fun K hK => ?_); go_big_quiet_op; refine hK _ ?_; clear hK K
            refine RegB.GS_done (by kernel_rfl) ?_
            clear x0 x1 x2 x3 x4 x5
            obtain ⟨g0, g1, g2, g3, g4⟩ := bx5 HN7.out
            go_wp2_with fail
            exact bodyPost_ret (v := .tuple #[.agg #[.slice A1 m c1, .int .i64 (v1 : Int), .int .i64 (v2 : Int), .int .i64 (v3 : Int), .int .i64 (v4 : Int)], .int .i64 (fp : Int), .bool true]) (by simp [results, Tryz.results12, go_sem, g0, g1, g2, g3, g4]) rfl ⟨A1, c1, ret_v (by rw [HYes.out, HMm.out]; rfl), by rw [HYes.out]; exact HU7.out.st, HB7.out⟩
end Go.Proofs.YtbmdkibmfkmjoaaGreat.Qy

namespace Go.Proofs.YtbmdkibmfkmjoaaGreat.BM
open Go.RowKit

set_option maxRecDepth 100000 in
theorem wp_append_bw {w : World} {ops : Array Oper} {rest : List Oper} {o : Oper} {a : Act} {Q : Exit → Act → World → Prop} (hgd : o.guard = none) (s x : Operand)
    (ho : o.op = .call { callee := .builtin .append, args := #[s, x], argTypes := #[26, 26] })
    (base : Nat) (v : Value) (n : Nat) (xs : List Int) (hs : a.eval s = v) (hown : w.ownsRow base 5 1 v n (cs xs))
    (A : Option Addr) (m c : Nat) (ys : List Int) (hx : a.eval x = .slice A m c) (hm : ys.length = m) (hB : IsB w A ys) (hnil : A = none → c = 0)
    (hsz : n + m ≤ 1000000000) (hbase : base ≤ w.heap.size)
    (h : ∀ v' w', w'.ownsRow base 5 1 v' (n + m) (cs (xs ++ ys)) → w.grownBy w' v.ownBlock → (v'.ownBlock = v.ownBlock ∨ v'.ownBlock = some w.heap.size) → wpList Tryz.prog ops Q rest (a.put o.dst v') w') : wpList Tryz.prog ops Q (o :: rest) a w := by
  obtain ⟨i0, hi, hz0, hz1, hz2⟩ := info_parts info_u8
  have hcs : cs (xs ++ ys) = cs xs ++ cs ys := by simp [cs]
  match A, hx, hB, hnil with
  | none, hx, hB, hnil =>
    have hy : ys = [] := by
      rcases Nat.eq_zero_or_pos ys.length with h0 | h0
      · exact List.eq_nil_of_length_eq_zero h0
      · obtain ⟨b, q, he, _⟩ := hB.2 h0
        cases he
    subst hy
    simp only [List.length_nil] at hm
    subst hm
    obtain rfl := hnil rfl
    refine wpList_append_own_none hgd s x 26 ho base 5 i0 1 Tryz.underlying26 hi v n (cs xs) hs hown hx (h v w ?_ (World.grownBy.refl _ _) (Or.inl rfl))
    simpa using hown
  | some ad, hx, hB, _ =>
    refine wpList_append_own_at w hgd s x 26 ho base 5 i0 (.int .u8 0) 1 1 Tryz.underlying26 hi hz0 hz1 hz2 rfl (by decide) v n (cs xs) hs hown ad m c (cs ys) hx (by rw [cs_len, hm, Nat.mul_one]) ?_ (ints_oneCell .u8 ys) (by unfold maxLen; omega) (by omega) hbase ?_
    · intro j u hj
      have hjl : j < ys.length := by
        rw [← cs_len]
        exact (List.getElem?_eq_some_iff.1 hj).1
      obtain ⟨b, q, he, hc⟩ := hB.2 (by omega)
      injection he with he
      subst he
      rw [Addr.add_lit, hc j hjl]
      rw [← hj]
      simp [cs, List.getD_eq_getElem?_getD, hjl]
    · intro v' w' h1 h2 _ h4
      exact h v' w' (by rw [hcs]; exact h1) h2 h4
end Go.Proofs.YtbmdkibmfkmjoaaGreat.BM

namespace Go.Proofs.YtbmdkibmfkmjoaaGreat.Qy
open Go.RowKit Go.Proofs.YtbmdkibmfkmjoaaGreat.BM Go.Proofs.YtbmdkibmfkmjoaaGreat.LM Go.Proofs.YtbmdkibmfkmjoaaGreat.LeM Go.Proofs.YtbmdkibmfkmjoaaGreat.VaM Go.Proofs.YtbmdkibmfkmjoaaGreat.ExM Go.Proofs.YtbmdkibmfkmjoaaGreat.QyM

/-- What Put answers. -/
def Putted (q : Q) (w : World) : Ending → World → Prop := fun r w' => ∃ A c, r = .returned (.tuple #[.slice A (QyM.pv q).length c, .bool (decide (QyM.May q))]) ∧ SlB w' A (QyM.pv q) c ∧ Below w.heap.size w w'

theorem take_snocSt {p : List St} {j : Nat} (hj : j < p.length) : p.take (j + 1) = p.take j ++ [p.getD j t0] := by
  rw [List.take_succ_eq_append_getElem hj]
  simp [List.getD_eq_getElem?_getD, hj]

/-- Bytes of the call's own, and where they do not lie. -/
structure PutS (w1 : World) (u : Value) (n : Nat) (ys : List Int) (W : World) : Prop where
  own : W.ownsRow w1.heap.size 5 1 u n (cs ys)
  bel : Below w1.heap.size w1 W

section
variable {w1 W W' : World} {u u' : Value} {n m b : Nat} {ys zs : List Int}
theorem PutS.kept (h : PutS w1 u n ys W) (hb : Below W.heap.size W W') : PutS w1 u n ys W' := ⟨RegA.own_below h.own hb, bt h.bel hb⟩
theorem PutS.grow (h : PutS w1 u n ys W) (hown : W'.ownsRow w1.heap.size 5 1 u' (n + m) (cs (ys ++ zs))) (hg : W.grownBy W' u.ownBlock) : PutS w1 u' (n + m) (ys ++ zs) W' :=
  ⟨hown, h.bel.grown hg h.bel.size (fun q hq => (h.own.lt q hq).1)⟩
theorem PutS.size (h : PutS w1 u n ys W) : w1.heap.size ≤ W.heap.size := h.bel.size

/-- A block that the bytes do not lie in. -/
theorem PutS.fresh (h : PutS w1 u n ys W) : some W.heap.size ≠ u.ownBlock := fun e => by
  have := (h.own.lt _ e.symm).2
  omega
theorem ne_on (hw : u'.ownBlock = u.ownBlock ∨ u'.ownBlock = some W.heap.size) (hb : b < W.heap.size) (hn : some b ≠ u.ownBlock) : some b ≠ u'.ownBlock := by
  rcases hw with h | h
  · rw [h]
    exact hn
  · rw [h]
    intro e
    injection e with e
    omega

/-- Other bytes, elsewhere. -/
def Off (W : World) (u : Value) (A : Option Addr) : Prop := ∀ a, A = some a → some a.block ≠ u.ownBlock ∧ a.block < W.heap.size
theorem off_new (h : PutS w1 u n ys W) {A : Option Addr} (_hb : Below W.heap.size W W') (hf : ∀ a, A = some a → W.heap.size ≤ a.block ∧ a.block < W'.heap.size) : Off W' u A := fun a ha => ⟨fun e => by
  have h1 := (h.own.lt _ e.symm).2
  have h2 := (hf a ha).1
  omega, (hf a ha).2⟩
theorem Off.kept {A : Option Addr} (h : Off W u A) (hb : Below W.heap.size W W') : Off W' u A := fun a ha => ⟨(h a ha).1, Nat.lt_of_lt_of_le (h a ha).2 hb.size⟩
theorem Off.grow {A : Option Addr} (h : Off W u A) (hw : u'.ownBlock = u.ownBlock ∨ u'.ownBlock = some W.heap.size) (hg : W.grownBy W' u.ownBlock) : Off W' u' A := fun a ha => ⟨ne_on hw (h a ha).2 (h a ha).1, Nat.lt_of_lt_of_le (h a ha).2 hg.size⟩
theorem slB_off {A : Option Addr} {xs : List Int} {c : Nat} (h : SlB W A xs c) (ho : Off W u A) (hg : W.grownBy W' u.ownBlock) : SlB W' A xs c := by
  refine ⟨⟨h.1.1, fun hx => ?_⟩, h.2⟩
  obtain ⟨g, o, e, hc⟩ := h.1.2 hx
  have hne : some g ≠ u.ownBlock := (ho _ e).1
  exact ⟨g, o, e, fun j hj => hg.cell (hc j hj) hne⟩
theorem bxN_grow {vs : List Value} (h : RG.BxN W b vs) (hn : some b ≠ u.ownBlock) (hg : W.grownBy W' u.ownBlock) : RG.BxN W' b vs := RG.BxN.grown h hg hn
end
end Go.Proofs.YtbmdkibmfkmjoaaGreat.Qy

namespace Go.Proofs.YtbmdkibmfkmjoaaGreat.Qy
open Go.RowKit Go.Proofs.YtbmdkibmfkmjoaaGreat.BM Go.Proofs.YtbmdkibmfkmjoaaGreat.VaM Go.Proofs.YtbmdkibmfkmjoaaGreat.ExM Go.Proofs.YtbmdkibmfkmjoaaGreat.QyM
open Go.Proofs.YtbmdkibmfkmjoaaGreat.ScM (Sc)

theorem asks_no {l : List Sc} {n : ByteArray} {f : List O} (h : (RgM.find l n).2 = false) : asks l n f = 3 := by rw [asks, if_pos h]
theorem asks_nil {l : List Sc} {n : ByteArray} {f : List O} (h : (RgM.find l n).2 = true) (hf : f = []) : asks l n f = 0 := by rw [asks, if_neg (by rw [h]; decide), if_pos hf]
theorem asks_kind {l : List Sc} {n : ByteArray} {f : List O} (h : (RgM.find l n).2 = true) (hf : f ≠ []) : asks l n f = if (kind (RgM.find l n).1 f).2 = 0 ∧ (kind (RgM.find l n).1 f).1 ≠ 1 then 5 else (kind (RgM.find l n).1 f).2 := by rw [asks, if_neg (by rw [h]; decide), if_neg hf]

theorem asksS_no {l : List Sc} {x : St} (h : ¬ (asks l x.s x.f = 0 ∧ x.g = true)) : asksS l x = asks l x.s x.f := by rw [asksS, if_neg h]
theorem asksS_yes {l : List Sc} {x : St} (h : asks l x.s x.f = 0) (hg : x.g = true) : asksS l x = asks l x.t x.h := by rw [asksS, if_pos ⟨h, hg⟩]

theorem check_1 {l : List Sc} {q : Q} (h : ¬ (RgM.May l ∧ May q)) : check l q = 1 := by rw [check, if_pos h]
theorem check_e {l : List Sc} {q : Q} (h : RgM.May l ∧ May q) {j : Nat} (hj : j < q.p.length) (h0 : ∀ i, i < j → asksS l (q.p.getD i t0) = 0) (he : asksS l (q.p.getD j t0) ≠ 0) : check l q = asksS l (q.p.getD j t0) := by
  have h1 := asksP_at hj h0 he
  rw [check, if_neg (fun k => k h), if_pos (by rw [h1]; exact he), h1]
theorem check_a {l : List Sc} {q : Q} (h : RgM.May l ∧ May q) (h0 : ∀ i, i < q.p.length → asksS l (q.p.getD i t0) = 0) : check l q = if aggBad l q then 5 else 0 := by
  have h1 : asksP l q.p = 0 := asksP_zero.2 fun x hx => by
    obtain ⟨i, hi, rfl⟩ := List.getElem_of_mem hx
    have := h0 i hi
    rw [List.getD_eq_getElem?_getD, List.getElem?_eq_getElem hi] at this
    exact this
  rw [check, if_neg (fun k => k h), if_neg (fun k => k h1)]

end Go.Proofs.YtbmdkibmfkmjoaaGreat.Qy

namespace Go.Proofs.YtbmdkibmfkmjoaaGreat.Sc
open Go.RowKit Go.Proofs.YtbmdkibmfkmjoaaGreat.BM Go.Proofs.YtbmdkibmfkmjoaaGreat.LM Go.Proofs.YtbmdkibmfkmjoaaGreat.VaM Go.Proofs.YtbmdkibmfkmjoaaGreat.Va Go.Proofs.YtbmdkibmfkmjoaaGreat.ScM Go.Proofs.YtbmdkibmfkmjoaaGreat.RgM

/-- Fields stay, where another block grows. -/
theorem slF_grown' {w w' : World} {r : Option Nat} {A : Option Addr} {l : List F} {c : Nat} (h : SlF w A l c) (hg : w.grownBy w' r) (hb : 0 < l.length → ∀ a, A = some a → some a.block ≠ r) : SlF w' A l c := by
  refine ⟨fun hx => ?_, h.2⟩
  obtain ⟨g, o, e, hc⟩ := h.1 hx
  have hne := hb hx _ e
  exact ⟨g, o, e, fun j hj => ⟨hg.cell (hc j hj).1 hne, hg.cell (hc j hj).2 hne⟩⟩

/-- A schema's own cells: its fields' slice leads to a block of which p tells. -/
def RelS (p : Nat → Prop) (w : World) (s : Sc) (cs : List Value) : Prop :=
  ∃ A c, cs = [.string s.s, .int .i64 s.v, .slice A s.f.length c] ∧ SlF w A s.f c ∧ Fine s ∧ (0 < s.f.length → ∀ a, A = some a → p a.block)

theorem relS_lt {w : World} {A : Option Addr} {l : List F} {c : Nat} (h : SlF w A l c) (h0 : 0 < l.length) {a : Addr} (ha : A = some a) : a.block < w.heap.size := by
  obtain ⟨b, o, e, hc⟩ := h.1 h0
  rw [ha] at e
  injection e with e
  subst e
  exact World.block_lt_of_cell? w _ (hc 0 h0).1

/-- How a schema lies. -/
def KS : RG.Kind Sc where
  size := 3
  rel := RelS
  len := fun ⟨_, _, h, _⟩ => by rw [h]; rfl
  one := fun ⟨_, _, h, _⟩ u hu => by
    rw [h] at hu
    simp only [List.mem_cons, List.not_mem_nil, or_false] at hu
    rcases hu with rfl | rfl | rfl <;> rfl
  mono := fun ⟨A, c, h1, h2, h3, h4⟩ k => ⟨A, c, h1, h2, h3, fun h0 a ha => k _ (relS_lt h2 h0 ha) (h4 h0 a ha)⟩
  kept := fun ⟨A, c, h1, h2, h3, h4⟩ hb => ⟨A, c, h1, h2.kept hb, h3, h4⟩
  grown := fun ⟨A, c, h1, h2, h3, h4⟩ hg hr => ⟨A, c, h1, slF_grown' h2 hg (fun h0 a ha => hr _ (h4 h0 a ha)), h3, h4⟩

theorem tyS : RG.Ty 22 40 3 48 (.agg #[.string ⟨#[]⟩, .int .i64 0, .slice none 0 0]) :=
  ⟨by kernel_rfl, by kernel_rfl, by kernel_rfl, fun _ => by kernel_rfl, rfl, by decide, by decide⟩

/-- A slice of schemas: where it lies, its length and its capacity. -/
def SlS (w : World) (A : Option Addr) (l : List Sc) (c : Nat) : Prop := RG.SlG KS (fun _ => True) w A l c

theorem SlS.kept {w w' : World} {A : Option Addr} {l : List Sc} {c : Nat} (h : SlS w A l c) (hb : Below w.heap.size w w') : SlS w' A l c := RG.SlG.kept h hb
theorem slS_none (w : World) : SlS w none [] 0 := RG.slG_none _ _ _
theorem slS_len {w : World} {A : Option Addr} {l : List Sc} {c : Nat} (h : SlS w A l c) : l.length ≤ 9223372036854775807 := RG.slG_len h
theorem SlS.take {w : World} {A : Option Addr} {l : List Sc} {c : Nat} (h : SlS w A l c) (i : Nat) : SlS w A (l.take i) c := RG.SlG.take h i

/-- A schema's three cells, wherever they lie. -/
def CellS (w : World) (b q : Nat) (s : Sc) (A : Option Addr) (c : Nat) : Prop :=
  w.cell? ⟨b, q, none⟩ = some (.string s.s) ∧ w.cell? ⟨b, q + 1, none⟩ = some (.int .i64 s.v) ∧ w.cell? ⟨b, q + 2, none⟩ = some (.slice A s.f.length c)

/-- The j-th of them. -/
theorem SlS.at {w : World} {A : Option Addr} {l : List Sc} {c : Nat} (h : SlS w A l c) (j : Nat) (hj : j < l.length) :
    ∃ b q A1 c1, (∀ W n k, j < n → (Instr.indexAt 22 (.slice A n k) (.int .i64 (j : Int))).run Tryz.prog W = .ok (.pointer (some ⟨b, q, none⟩)) W) ∧
      (∀ W, Below w.heap.size w W → CellS W b q (l.getD j s0) A1 c1 ∧ SlF W A1 (l.getD j s0).f c1) ∧ Fine (l.getD j s0) := by
  have hd : l[j]? = some (l.getD j s0) := by rw [List.getD_eq_getElem?_getD, List.getElem?_eq_getElem hj]; rfl
  obtain ⟨b, o, cs, rfl, hW⟩ := RG.SlG.at h (by decide) j _ hd
  obtain ⟨⟨A1, c1, h1, _, h3, _⟩, _⟩ := hW w (Below.refl _ _)
  refine ⟨b, o + j * 3, A1, c1, fun W n k hn => tyS.index W b o n k j hn, fun W hb => ?_, h3⟩
  obtain ⟨⟨A2, c2, g1, g2, _⟩, g3⟩ := hW W hb
  rw [h1] at g1 g3
  simp only [List.cons.injEq, Value.slice.injEq, and_true, true_and] at g1
  obtain ⟨rfl, rfl⟩ := g1
  exact ⟨⟨g3 0 _ rfl, g3 1 _ rfl, g3 2 _ rfl⟩, g2⟩
end Go.Proofs.YtbmdkibmfkmjoaaGreat.Sc

namespace Go.Proofs.YtbmdkibmfkmjoaaGreat.Qy
open Go.RowKit Go.Proofs.YtbmdkibmfkmjoaaGreat.BM Go.Proofs.YtbmdkibmfkmjoaaGreat.LM Go.Proofs.YtbmdkibmfkmjoaaGreat.LeM Go.Proofs.YtbmdkibmfkmjoaaGreat.VaM Go.Proofs.YtbmdkibmfkmjoaaGreat.ExM Go.Proofs.YtbmdkibmfkmjoaaGreat.QyM
open Go.Proofs.YtbmdkibmfkmjoaaGreat.Ex (SlO slO_none)
open Go.Proofs.YtbmdkibmfkmjoaaGreat.Va (ret_v bx_new_t)
open Go.Proofs.YtbmdkibmfkmjoaaGreat.Sc (SlS slS_none SlF slF_none)

/-- The example's step, query, and schemas. -/
def exX : St := ⟨⟨#[97]⟩, [], 1, 1, false, e0, []⟩
def exQ : Q := ⟨[exX], 0, 0, 0, 0⟩
def exL : List ScM.Sc := [⟨⟨#[97]⟩, 1, []⟩]
theorem ex_may : QyM.May exQ := by decide
theorem ex_rng : RngQ exQ := by
  intro x hx
  obtain rfl : x = exX := by simpa [exQ] using hx
  exact ⟨(fun y hy => by cases hy), (fun y hy => by cases hy)⟩
theorem ex_pv : QyM.pv exQ = [1, 1, 97, 0, 1, 1, 0, 0, 0, 0, 0] := by
  rw [QyM.pv, if_pos ex_may]
  unfold pQ exQ exX
  have h1 : (ByteArray.mk #[97]).size = 1 := rfl
  simp [Gr.puts, pSt, pG, ScM.pn, pL, pOs, bl, putL_lt, h1]
theorem ex_got : gotQ (gQ (QyM.pv exQ)) = (exQ, 11, true) := by
  have h := law_q.app (a := exQ) (ys := []) ⟨okQ_of ex_may ex_rng, ex_may⟩ (fun x hx => by cases hx)
  rw [List.append_nil] at h
  have e : QyM.pv exQ = pQ exQ := by rw [QyM.pv, if_pos ex_may]
  rw [e, h, ← e, ex_pv]
  rfl
theorem ex_check : check exL exQ = 0 := by decide
theorem ex_none : check [] exQ = 3 := by decide
end Go.Proofs.YtbmdkibmfkmjoaaGreat.Qy

namespace Go.Proofs.YtbmdkibmfkmjoaaGreat.Qy
open Go.RowKit Go.Proofs.YtbmdkibmfkmjoaaGreat.BM Go.Proofs.YtbmdkibmfkmjoaaGreat.LM Go.Proofs.YtbmdkibmfkmjoaaGreat.LeM Go.Proofs.YtbmdkibmfkmjoaaGreat.VaM Go.Proofs.YtbmdkibmfkmjoaaGreat.ExM Go.Proofs.YtbmdkibmfkmjoaaGreat.QyM
open Go.Proofs.YtbmdkibmfkmjoaaGreat.Ex (SlO slO_none)
open Go.Proofs.YtbmdkibmfkmjoaaGreat.Va (ret_v bx_new_t)

theorem slSt_one (w : World) : SlSt (w.alloc (.cells #[.string ⟨#[97]⟩, .slice none 0 0, .int .i64 1, .int .i64 1, .bool false, .string ⟨#[]⟩, .slice none 0 0] 47)) (some ⟨w.heap.size, 0, none⟩) [exX] 1 := by
  have hrel : KSt.rel (fun _ => True) w exX (encSt exX none 0 none 0) := ⟨none, 0, none, 0, rfl, slO_none _, slO_none _, ⟨⟨by unfold maxLen; decide, by unfold maxLen; decide⟩, ⟨by decide, by decide⟩, by decide, by decide⟩, (fun h => absurd h (by decide)), (fun h => absurd h (by decide))⟩
  have h := RG.elem_new w 47 exX (encSt exX none 0 none 0) hrel
  exact ⟨⟨_, h.1, h.2⟩, Nat.le_refl _, (fun e => by cases e), by unfold maxLen; decide⟩

set_option maxRecDepth 100000 in
set_option maxHeartbeats 1000000 in
theorem One_any (w : World) : Calls Tryz.prog 20 #[] w fun e w' => ∃ A, e = .returned (.agg #[.slice A 1 1, .int .i64 0, .int .i64 0, .int .i64 0, .int .i64 0]) ∧ SlSt w' A exQ.p 1 ∧ Below w.heap.size w w' := by
  obtain ⟨u1, hu1⟩ : ∃ u, u = w.alloc (.cells #[.slice (some ⟨w.heap.size + 1, 0, none⟩) 1 1, .int .i64 0, .int .i64 0, .int .i64 0, .int .i64 0] 25) := ⟨_, rfl⟩
  have hs1 : u1.heap.size = w.heap.size + 1 := by rw [hu1]; simp
  have hN0 := RG.bxN_new w 25 [.slice (some ⟨w.heap.size + 1, 0, none⟩) 1 1, .int .i64 0, .int .i64 0, .int .i64 0, .int .i64 0]
  have ha0 := (Below.refl w.heap.size w).alloc (Nat.le_refl _) (.cells #[.slice (some ⟨w.heap.size + 1, 0, none⟩) 1 1, .int .i64 0, .int .i64 0, .int .i64 0, .int .i64 0] 25)
  rw [show (List.toArray [Value.slice (some ⟨w.heap.size + 1, 0, none⟩) 1 1, .int .i64 0, .int .i64 0, .int .i64 0, .int .i64 0]) = #[Value.slice (some ⟨w.heap.size + 1, 0, none⟩) 1 1, .int .i64 0, .int .i64 0, .int .i64 0, .int .i64 0] from rfl, ← hu1] at hN0
  rw [← hu1] at ha0
  have ha1 := (Below.refl u1.heap.size u1).alloc (Nat.le_refl _) (.cells #[.string ⟨#[97]⟩, .slice none 0 0, .int .i64 1, .int .i64 1, .bool false, .string ⟨#[]⟩, .slice none 0 0] 47)
  have hS := slSt_one u1
  rw [hs1] at hS
  have HN := Lib.hid (RG.BxN.kept hN0 ha1)
  have HS := Lib.hid hS
  have HB := Lib.hid (bt ha0 ha1)
  have HU := Lib.hid hu1
  clear hN0 ha0 ha1 hS hu1 hs1
  go_enter Tryz.func20, Tryz.ntmps20
  go_wp2_with fail
  rw [← HU.out]
  obtain ⟨g0, g1, g2, g3, g4⟩ := bx5 HN.out
  exact bodyPost_ret (v := .agg #[.slice (some ⟨w.heap.size + 1, 0, none⟩) 1 1, .int .i64 0, .int .i64 0, .int .i64 0, .int .i64 0]) (by simp [results, Tryz.results20, go_sem, g0, g1, g2, g3, g4]) rfl ⟨_, rfl, HS.out, HB.out⟩
end Go.Proofs.YtbmdkibmfkmjoaaGreat.Qy

namespace Go.Proofs.YtbmdkibmfkmjoaaGreat.QyM
open Go.RowKit Go.Proofs.YtbmdkibmfkmjoaaGreat.BM Go.Proofs.YtbmdkibmfkmjoaaGreat.LeM Go.Proofs.YtbmdkibmfkmjoaaGreat.VaM Go.Proofs.YtbmdkibmfkmjoaaGreat.ExM
open Go.Proofs.YtbmdkibmfkmjoaaGreat.ScM (Nm pn gN Sc gN_some)
open Go.Proofs.YtbmdkibmfkmjoaaGreat.Gr (Law By num)

/-- What is left, and whether it is short. -/
abbrev Os := List Int × Bool

/-- A number of 64 bits, as an int, and back. -/
def wrp (n : Nat) : Int := if n < 9223372036854775808 then (n : Int) else (n : Int) - 18446744073709551616
def unw (z : Int) : Nat := if 0 ≤ z then z.toNat else (z + 18446744073709551616).toNat
theorem wrp_rng {n : Nat} (h : n ≤ 18446744073709551615) : -9223372036854775808 ≤ wrp n ∧ wrp n ≤ 9223372036854775807 := by
  unfold wrp
  split <;> omega
theorem unw_wrp {n : Nat} (h : n ≤ 18446744073709551615) : unw (wrp n) = n := by
  unfold unw wrp
  split <;> split <;> omega
theorem wrp_unw {z : Int} (h1 : -9223372036854775808 ≤ z) (h2 : z ≤ 9223372036854775807) : wrp (unw z) = z := by
  unfold unw wrp
  split <;> split <;> omega
theorem unw_le {z : Int} (h1 : -9223372036854775808 ≤ z) (h2 : z ≤ 9223372036854775807) : unw z ≤ 18446744073709551615 := by
  unfold unw
  split <;> omega
theorem unw_nat {z : Int} (h : 0 ≤ z) : unw z = z.toNat := by rw [unw, if_pos h]
theorem wrp_lt {n : Nat} (h : n < 9223372036854775808) : wrp n = (n : Int) := by rw [wrp, if_pos h]
theorem wrp_ge {n : Nat} (h : ¬ n < 9223372036854775808) : wrp n = (n : Int) - 18446744073709551616 := by rw [wrp, if_neg h]

/-- A part. -/
def tk {α : Type} (g : List Int → Option (α × Nat)) (d : α) (s : Os) : α × Os :=
  match g s.1 with
  | none => (d, (s.1, true))
  | some (a, m) => (a, (s.1.drop m, s.2))

section
variable {α : Type} {g : List Int → Option (α × Nat)} {d : α} {xs : List Int} {b : Bool}
theorem tk_none (h : g xs = none) : tk g d (xs, b) = (d, (xs, true)) := by simp [tk, h]
theorem tk_some {a : α} {m : Nat} (h : g xs = some (a, m)) : tk g d (xs, b) = (a, (xs.drop m, b)) := by simp [tk, h]
theorem tk_short {s : Os} (h : s.2 = true) : (tk g d s).2.2 = true := by
  unfold tk
  split
  · rfl
  · exact h
theorem tk_by {s : Os} (h : By s.1) : By (tk g d s).2.1 := by
  unfold tk
  split
  · exact h
  · exact h.drop _
theorem tk_le {s : Os} : (tk g d s).2.1.length ≤ s.1.length := by
  unfold tk
  split
  · exact Nat.le_refl _
  · rw [List.length_drop]
    omega
end

/-- So many. -/
def reps {α : Type} (f : Os → α × Os) : Nat → Os → List α × Os
  | 0, s => ([], s)
  | n + 1, s => ((reps f n s).1 ++ [(f (reps f n s).2).1], (f (reps f n s).2).2)

/-- What a part's reader is like. -/
structure Rdr {α : Type} (g : List Int → Option (α × Nat)) (f : Os → α × Os) : Prop where
  short : ∀ {s : Os}, s.2 = true → (f s).2.2 = true
  bytes : ∀ {s : Os}, By s.1 → By (f s).2.1
  less : ∀ {s : Os}, (f s).2.1.length ≤ s.1.length
  some : ∀ {xs : List Int} {a : α} {m : Nat}, g xs = Option.some (a, m) → f (xs, false) = (a, (xs.drop m, false))
  none : ∀ {xs : List Int}, g xs = Option.none → (f (xs, false)).2.2 = true

theorem rdr_tk {α : Type} (g : List Int → Option (α × Nat)) (d : α) : Rdr g (tk g d) :=
  ⟨tk_short, tk_by, tk_le, tk_some, fun h => by rw [tk_none h]⟩

section
variable {α β : Type} {g : List Int → Option (α × Nat)} {f : Os → α × Os}
theorem reps_len (n : Nat) (s : Os) : (reps f n s).1.length = n := by
  induction n with
  | zero => rfl
  | succ n ih => rw [reps]; simp only [List.length_append, ih, List.length_cons, List.length_nil]
theorem reps_mem {n : Nat} {s : Os} {x : α} (h : x ∈ (reps f n s).1) : ∃ j, j < n ∧ x = (f (reps f j s).2).1 := by
  induction n with
  | zero => cases h
  | succ n ih =>
    rw [reps] at h
    rcases List.mem_append.1 h with h | h
    · obtain ⟨j, hj, e⟩ := ih h
      exact ⟨j, by omega, e⟩
    · exact ⟨n, by omega, List.mem_singleton.1 h⟩
theorem Rdr.r_short (h : Rdr g f) {n : Nat} {s : Os} (hs : s.2 = true) : (reps f n s).2.2 = true := by
  induction n with
  | zero => exact hs
  | succ n ih => exact h.short ih
theorem Rdr.r_by (h : Rdr g f) (n : Nat) {s : Os} (hs : By s.1) : By (reps f n s).2.1 := by
  induction n with
  | zero => exact hs
  | succ n ih => exact h.bytes ih
theorem Rdr.r_le (h : Rdr g f) (n : Nat) {s : Os} : (reps f n s).2.1.length ≤ s.1.length := by
  induction n with
  | zero => exact Nat.le_refl _
  | succ n ih => exact Nat.le_trans h.less ih

theorem gmany_snoc : ∀ (j : Nat) (xs : List Int) {l : List α} {m : Nat}, Gr.many g j xs = some (l, m) → Gr.many g (j + 1) xs = match g (xs.drop m) with
    | none => none
    | some (x, k) => some (l ++ [x], m + k)
  | 0, xs, l, m, h => by
    simp only [Gr.many, Option.some.injEq, Prod.mk.injEq] at h
    obtain ⟨rfl, rfl⟩ := h
    simp only [Gr.many, List.drop_zero]
    cases g xs with
    | none => rfl
    | some y => simp
  | j + 1, xs, l, m, h => by
    rw [Gr.many] at h ⊢
    cases h1 : g xs with
    | none => rw [h1] at h; cases h
    | some y =>
      obtain ⟨a, k⟩ := y
      rw [h1] at h
      simp only at h ⊢
      cases h2 : Gr.many g j (xs.drop k) with
      | none => rw [h2] at h; cases h
      | some z =>
        obtain ⟨r, i⟩ := z
        rw [h2] at h
        simp only [Option.some.injEq, Prod.mk.injEq] at h
        obtain ⟨rfl, rfl⟩ := h
        rw [gmany_snoc j _ h2, List.drop_drop]
        cases g (xs.drop (k + i)) with
        | none => rfl
        | some y =>
          simp only [List.cons_append, Nat.add_assoc]

theorem gmany_more : ∀ (n : Nat) (xs : List Int), Gr.many g n xs = none → Gr.many g (n + 1) xs = none
  | 0, xs, h => by cases h
  | n + 1, xs, h => by
    rw [Gr.many] at h ⊢
    cases h1 : g xs with
    | none => rfl
    | some y =>
      obtain ⟨a, k⟩ := y
      rw [h1] at h
      simp only at h ⊢
      cases h2 : Gr.many g n (xs.drop k) with
      | none => rw [gmany_more n _ h2]
      | some z => rw [h2] at h; cases h

theorem Rdr.r_iff (h : Rdr g f) (xs : List Int) : ∀ n : Nat, (∀ {l : List α} {m : Nat}, Gr.many g n xs = Option.some (l, m) → reps f n (xs, false) = (l, (xs.drop m, false))) ∧ (Gr.many g n xs = Option.none → (reps f n (xs, false)).2.2 = true)
  | 0 => ⟨fun e => by
      simp only [Gr.many, Option.some.injEq, Prod.mk.injEq] at e
      obtain ⟨rfl, rfl⟩ := e
      rfl, fun e => by cases e⟩
  | n + 1 => by
    obtain ⟨h1, h2⟩ := h.r_iff xs n
    cases e1 : Gr.many g n xs with
    | none =>
      have e2 := gmany_more n xs e1
      exact ⟨(fun e => by rw [e2] at e; cases e), fun _ => h.short (h2 e1)⟩
    | some y =>
      obtain ⟨l, m⟩ := y
      have e2 := gmany_snoc n xs e1
      have e3 := h1 e1
      rw [e2]
      simp only [reps, e3]
      cases e4 : g (xs.drop m) with
      | none => exact ⟨(fun e => by cases e), fun _ => h.none e4⟩
      | some z =>
        obtain ⟨x, k⟩ := z
        refine ⟨fun e => ?_, fun e => by cases e⟩
        simp only [Option.some.injEq, Prod.mk.injEq] at e
        obtain ⟨rfl, rfl⟩ := e
        rw [h.some e4, List.drop_drop]

theorem Rdr.many (h : Rdr g f) (n : Nat) : Rdr (Gr.many g n) (reps f n) :=
  ⟨h.r_short, fun hs => h.r_by n hs, h.r_le n, fun e => (h.r_iff _ n).1 e, fun e => (h.r_iff _ n).2 e⟩

/-- One part, and then another one. -/
def both (f : Os → α × Os) (k : α → Os → β × Os) (s : Os) : (α × β) × Os := (((f s).1, (k (f s).1 (f s).2).1), (k (f s).1 (f s).2).2)
theorem Rdr.both (h : Rdr g f) {g2 : α → List Int → Option (β × Nat)} {k : α → Os → β × Os} (h2 : ∀ a, Rdr (g2 a) (k a)) : Rdr (Gr.bind g g2) (both f k) where
  short := fun e => (h2 _).short (h.short e)
  bytes := fun e => (h2 _).bytes (h.bytes e)
  less := Nat.le_trans (h2 _).less h.less
  some := by
    intro xs x m e
    unfold Gr.bind at e
    cases e1 : g xs with
    | none => rw [e1] at e; cases e
    | some y =>
      obtain ⟨a, n⟩ := y
      rw [e1] at e
      simp only at e
      cases e2 : g2 a (xs.drop n) with
      | none => rw [e2] at e; cases e
      | some z =>
        obtain ⟨b, j⟩ := z
        rw [e2] at e
        simp only [Option.some.injEq, Prod.mk.injEq] at e
        obtain ⟨rfl, rfl⟩ := e
        unfold QyM.both
        rw [h.some e1]
        simp only
        rw [(h2 a).some e2, List.drop_drop]
  none := by
    intro xs e
    unfold Gr.bind at e
    unfold QyM.both
    cases e1 : g xs with
    | none => exact (h2 _).short (h.none e1)
    | some y =>
      obtain ⟨a, n⟩ := y
      rw [e1] at e
      simp only at e
      rw [h.some e1]
      simp only
      cases e2 : g2 a (xs.drop n) with
      | none => exact (h2 a).none e2
      | some z => rw [e2] at e; cases e

theorem Rdr.map (h : Rdr g f) (u : α → β) : Rdr (Gr.map u g) (fun s => (u (f s).1, (f s).2)) where
  short := h.short
  bytes := h.bytes
  less := h.less
  some := by
    intro xs b m e
    unfold Gr.map at e
    cases e1 : g xs with
    | none => rw [e1] at e; cases e
    | some y =>
      obtain ⟨a, n⟩ := y
      rw [e1] at e
      simp only [Option.some.injEq, Prod.mk.injEq] at e
      obtain ⟨rfl, rfl⟩ := e
      simp only [h.some e1]
  none := by
    intro xs e
    unfold Gr.map at e
    cases e1 : g xs with
    | none => exact h.none e1
    | some y => rw [e1] at e; cases e

theorem rdr_unit (b : β) : Rdr (Gr.unit b) (fun s => (b, s)) :=
  ⟨fun h => h, fun h => h, Nat.le_refl _, fun e => by
    simp only [Gr.unit, Option.some.injEq, Prod.mk.injEq] at e
    obtain ⟨rfl, rfl⟩ := e
    rfl, fun e => by cases e⟩
end

/-- A number, and one that is at most another one, or else all is short. -/
def oNum (s : Os) : Nat × Os := tk getS 0 s
theorem oNum_le {s : Os} (h : By s.1) : (oNum s).1 ≤ 18446744073709551615 := by
  unfold oNum tk
  cases e : getS s.1 with
  | none => exact Nat.zero_le _
  | some y =>
    obtain ⟨v, u⟩ := y
    have := ((getS_iff _ h v u).1 e).1
    simp only
    omega
/-- How many there are, and these. -/
def several {α : Type} (f : Os → α × Os) (most : Nat) (s : Os) : List α × Os :=
  if (oNum s).1 ≤ most then reps f (oNum s).1 (oNum s).2 else ([], ((oNum s).2.1, true))
theorem several_short {α : Type} {g : List Int → Option (α × Nat)} {f : Os → α × Os} (h : Rdr g f) {k : Nat} {s : Os} (hs : s.2 = true) : (several f k s).2.2 = true := by
  unfold several
  split
  · exact h.r_short (tk_short hs)
  · rfl
theorem several_by {α : Type} {g : List Int → Option (α × Nat)} {f : Os → α × Os} (h : Rdr g f) {k : Nat} {s : Os} (hs : By s.1) : By (several f k s).2.1 := by
  unfold several
  split
  · exact h.r_by _ (tk_by hs)
  · exact tk_by (g := getS) (d := 0) hs
theorem several_le {α : Type} {g : List Int → Option (α × Nat)} {f : Os → α × Os} (h : Rdr g f) {k : Nat} {s : Os} : (several f k s).2.1.length ≤ s.1.length := by
  unfold several
  split
  · exact Nat.le_trans (h.r_le _) tk_le
  · exact tk_le (g := getS) (d := 0)
theorem several_len {α : Type} {f : Os → α × Os} {k : Nat} {s : Os} : (several f k s).1.length ≤ k := by
  unfold several
  split
  · rw [reps_len]
    assumption
  · exact Nat.zero_le _
theorem num_of {k : Nat} {xs : List Int} {v u : Nat} (h : getS xs = some (v, u)) (hv : v ≤ k) : num k xs = some (v, u) := by
  unfold Gr.num
  rw [h]
  simp only [if_pos hv]
theorem num_over {k : Nat} {xs : List Int} {v u : Nat} (h : getS xs = some (v, u)) (hv : ¬ v ≤ k) : num k xs = none := by
  unfold Gr.num
  rw [h]
  simp only [if_neg hv]
theorem num_no {k : Nat} {xs : List Int} (h : getS xs = none) : num k xs = none := by
  unfold Gr.num
  rw [h]
/-- Several are as many as told. -/
theorem rdr_several {α : Type} {g : List Int → Option (α × Nat)} {f : Os → α × Os} (h : Rdr g f) (k : Nat) : Rdr (Gr.map (fun y : Nat × List α => y.2) (Gr.bind (num k) (fun n => Gr.many g n))) (several f k) where
  short := several_short h
  bytes := several_by h
  less := several_le h
  some := by
    intro xs b m e
    unfold Gr.map at e
    cases e0 : Gr.bind (num k) (fun n => Gr.many g n) xs with
    | none => rw [e0] at e; cases e
    | some z =>
      obtain ⟨⟨n, l⟩, m'⟩ := z
      rw [e0] at e
      simp only [Option.some.injEq, Prod.mk.injEq] at e
      obtain ⟨rfl, rfl⟩ := e
      unfold Gr.bind at e0
      cases e1 : getS xs with
      | none => rw [num_no e1] at e0; cases e0
      | some y =>
        obtain ⟨v, u⟩ := y
        by_cases hv : v ≤ k
        · rw [num_of e1 hv] at e0
          simp only at e0
          cases e2 : Gr.many g v (xs.drop u) with
          | none => rw [e2] at e0; cases e0
          | some z =>
            obtain ⟨l', j⟩ := z
            rw [e2] at e0
            simp only [Option.some.injEq, Prod.mk.injEq] at e0
            obtain ⟨⟨rfl, rfl⟩, rfl⟩ := e0
            unfold several oNum
            rw [tk_some e1, if_pos hv, (h.r_iff _ _).1 e2, List.drop_drop]
        · rw [num_over e1 hv] at e0
          cases e0
  none := by
    intro xs e
    unfold Gr.map at e
    cases e0 : Gr.bind (num k) (fun n => Gr.many g n) xs with
    | some z => rw [e0] at e; cases e
    | none =>
      unfold Gr.bind at e0
      cases e1 : getS xs with
      | none =>
        unfold several oNum
        rw [tk_none e1]
        simp only [Nat.zero_le, if_true]
        exact h.r_short rfl
      | some y =>
        obtain ⟨v, u⟩ := y
        unfold several oNum
        rw [tk_some e1]
        by_cases hv : v ≤ k
        · rw [num_of e1 hv] at e0
          simp only at e0
          rw [if_pos hv]
          cases e2 : Gr.many g v (xs.drop u) with
          | none => exact (h.r_iff _ _).2 e2
          | some z => rw [e2] at e0; cases e0
        · rw [if_neg hv]

/-- A byte. -/
def gB : List Int → Option (Int × Nat)
  | [] => none
  | x :: _ => some (x, 1)
def oByte (s : Os) : Int × Os := tk gB 0 s
theorem gB_many : ∀ (n : Nat) (xs : List Int), Gr.many gB n xs = if n ≤ xs.length then some (xs.take n, n) else none
  | 0, xs => by simp [Gr.many]
  | n + 1, [] => by simp [Gr.many, gB]
  | n + 1, x :: xs => by
    simp only [Gr.many, gB, List.drop_succ_cons, List.drop_zero, gB_many n xs, List.length_cons]
    by_cases h : n ≤ xs.length
    · rw [if_pos h, if_pos (show n + 1 ≤ xs.length + 1 by omega)]
      simp only [List.take_succ_cons, Nat.add_comm 1 n]
    · rw [if_neg h, if_neg (show ¬ n + 1 ≤ xs.length + 1 by omega)]

/-- A name's text. -/
def oName (s : Os) : ByteArray × Os := (strOfNums (several oByte 12 s).1, (several oByte 12 s).2)
theorem gN_is (xs : List Int) : gN xs = Gr.map strOfNums (Gr.map (fun y : Nat × List Int => y.2) (Gr.bind (num 12) (fun n => Gr.many gB n))) xs := by
  unfold gN Gr.map Gr.bind
  cases e1 : getS xs with
  | none => rw [num_no e1]
  | some y =>
    obtain ⟨v, u⟩ := y
    by_cases hv : v ≤ 12
    · rw [num_of e1 hv]
      simp only [gB_many, List.length_drop]
      by_cases h : v ≤ xs.length - u
      · rw [if_pos ⟨hv, h⟩, if_pos h]
      · rw [if_neg (fun k => h k.2), if_neg h]
    · rw [num_over e1 hv]
      simp only
      rw [if_neg (fun k => hv k.1)]
theorem rdr_name : Rdr gN oName := by
  have h := (rdr_several (rdr_tk gB 0) 12).map strOfNums
  rw [show gN = Gr.map strOfNums (Gr.map (fun y : Nat × List Int => y.2) (Gr.bind (num 12) (fun n => Gr.many gB n))) from funext gN_is]
  exact h
theorem oName_size (s : Os) : (oName s).1.size ≤ 12 := by
  unfold oName
  rw [size_str]
  exact several_len

/-- An expression. -/
def oExpr (s : Os) : List O × Os := tk gL [] s
theorem rdr_expr : Rdr gL oExpr := rdr_tk gL []
theorem rdr_num : Rdr getS oNum := rdr_tk getS 0
theorem law_get : Law getS putL (fun n => n ≤ 18446744073709551615) where
  some := fun hb h => by
    have h1 := (getS_iff _ hb _ _).1 h
    exact ⟨by omega, h1.2.1, h1.2.2.symm ▸ rfl⟩
  app := fun h hb => getS_put (by omega) _ hb
  bytes := fun _ => putL_bytes _

/-- Whether a guard stands behind. -/
def oGuard (s : Os) : Nat × Os := if (oNum s).1 ≤ 1 then oNum s else (0, ((oNum s).2.1, true))
theorem rdr_guard : Rdr (num 1) oGuard where
  short := fun h => by
    unfold oGuard
    split
    · exact tk_short h
    · rfl
  bytes := fun h => by
    unfold oGuard
    split <;> exact tk_by (g := getS) (d := 0) h
  less := by
    intro s
    unfold oGuard
    split <;> exact tk_le (g := getS) (d := 0)
  some := by
    intro xs a m e
    cases e1 : getS xs with
    | none => rw [num_no e1] at e; cases e
    | some y =>
      obtain ⟨v, u⟩ := y
      unfold oGuard oNum
      rw [tk_some e1]
      by_cases hv : v ≤ 1
      · rw [num_of e1 hv] at e
        simp only [Option.some.injEq, Prod.mk.injEq] at e
        obtain ⟨rfl, rfl⟩ := e
        rw [if_pos hv]
      · rw [num_over e1 hv] at e
        cases e
  none := by
    intro xs e
    cases e1 : getS xs with
    | none =>
      unfold oGuard oNum
      rw [tk_none e1]
      rfl
    | some y =>
      obtain ⟨v, u⟩ := y
      unfold oGuard oNum
      rw [tk_some e1]
      by_cases hv : v ≤ 1
      · rw [num_of e1 hv] at e
        cases e
      · rw [if_neg hv]
theorem oGuard_le (s : Os) : (oGuard s).1 ≤ 1 := by
  unfold oGuard
  split
  · assumption
  · exact Nat.zero_le _

/-- What stands behind the guard. -/
def oG (g : Nat) (s : Os) : (ByteArray × List O) × Os := if g = 1 then both oName (fun _ => oExpr) s else ((e0, []), s)
theorem rdr_G (g : Nat) : Rdr (gG g) (oG g) := by
  by_cases h : g = 1
  · have e1 : gG g = Gr.bind gN (fun _ => gL) := by unfold gG; rw [if_pos h]
    have e2 : oG g = both oName (fun _ => oExpr) := by funext s; unfold oG; rw [if_pos h]
    rw [e1, e2]
    exact rdr_name.both fun _ => rdr_expr
  · have e1 : gG g = Gr.unit (e0, []) := by unfold gG; rw [if_neg h]
    have e2 : oG g = fun s => ((e0, []), s) := by funext s; unfold oG; rw [if_neg h]
    rw [e1, e2]
    exact rdr_unit _

/-- A step, whatever its numbers. -/
def stOfL (y : ByteArray × List O × Nat × Nat × Nat × (ByteArray × List O)) : St := ⟨y.1, y.2.1, wrp y.2.2.1, wrp y.2.2.2.1, decide (y.2.2.2.2.1 = 1), y.2.2.2.2.2.1, y.2.2.2.2.2.2⟩
def gStL : List Int → Option (St × Nat) := Gr.map stOfL (Gr.bind gN fun _ => Gr.bind gL fun _ => Gr.bind getS fun _ => Gr.bind getS fun _ => Gr.bind (num 1) gG)
def oStP : Os → (ByteArray × List O × Nat × Nat × Nat × (ByteArray × List O)) × Os := both oName fun _ => both oExpr fun _ => both oNum fun _ => both oNum fun _ => both oGuard oG
def oStep (s : Os) : St × Os := (stOfL (oStP s).1, (oStP s).2)
theorem rdr_step : Rdr gStL oStep :=
  (rdr_name.both fun _ => rdr_expr.both fun _ => rdr_num.both fun _ => rdr_num.both fun _ => rdr_guard.both fun g => rdr_G g).map stOfL

/-- A query, whatever its numbers. -/
def qOfL (y : List St × Nat × Nat × Nat × Nat) : Q := ⟨y.1, wrp y.2.1, wrp y.2.2.1, wrp y.2.2.2.1, wrp y.2.2.2.2⟩
def gQL : List Int → Option (Q × Nat) := Gr.map qOfL (Gr.bind (Gr.map (fun y : Nat × List St => y.2) (Gr.bind (num 4) fun n => Gr.many gStL n)) fun _ => Gr.bind getS fun _ => Gr.bind getS fun _ => Gr.bind getS fun _ => getS)
def oQP : Os → (List St × Nat × Nat × Nat × Nat) × Os := both (several oStep 4) fun _ => both oNum fun _ => both oNum fun _ => both oNum fun _ => oNum
def oQ (s : Os) : Q × Os := (qOfL (oQP s).1, (oQP s).2)
theorem rdr_q : Rdr gQL oQ :=
  ((rdr_several rdr_step 4).both fun _ => rdr_num.both fun _ => rdr_num.both fun _ => rdr_num.both fun _ => rdr_num).map qOfL

/-- What these are like, and their bytes. -/
def OkSL (x : St) : Prop := x.s.size ≤ 12 ∧ (ExM.May x.f ∧ Rngs x.f) ∧ (-9223372036854775808 ≤ x.lo ∧ x.lo ≤ 9223372036854775807) ∧ (-9223372036854775808 ≤ x.hi ∧ x.hi ≤ 9223372036854775807) ∧ (x.g = false → x.t = e0 ∧ x.h = []) ∧ (x.g = true → x.t.size ≤ 12 ∧ ExM.May x.h ∧ Rngs x.h)
def pStL (x : St) : List Int := pn x.s ++ (pL x.f ++ (putL (unw x.lo) ++ (putL (unw x.hi) ++ (putL (if x.g = true then 1 else 0) ++ pG x.g (x.t, x.h)))))
theorem law_stL : Law gStL pStL OkSL := by
  have nM := law_get
  have n1 := Gr.law_num (most := 1) (by decide)
  have l6 := n1.bind (k := gG) (q := fun g th => pG (decide (g = 1)) th) (ok2 := fun g th => (g = 0 → th = (e0, [])) ∧ (g = 1 → th.1.size ≤ 12 ∧ ExM.May th.2 ∧ Rngs th.2)) (fun g hg => law_g hg)
  have l5 := nM.bind (k := fun _ => Gr.bind (Gr.num 1) gG) (ok2 := fun _ => _) (fun _ _ => l6)
  have l4 := nM.bind (k := fun _ => Gr.bind getS fun _ => Gr.bind (Gr.num 1) gG) (ok2 := fun _ => _) (fun _ _ => l5)
  have l3 := Gr.law_expr.bind (k := fun _ => Gr.bind getS fun _ => Gr.bind getS fun _ => Gr.bind (Gr.num 1) gG) (ok2 := fun _ => _) (fun _ _ => l4)
  have l2 := Gr.law_name.bind (k := fun _ => Gr.bind gL fun _ => Gr.bind getS fun _ => Gr.bind getS fun _ => Gr.bind (Gr.num 1) gG) (ok2 := fun _ => _) (fun _ _ => l3)
  refine l2.map stOfL (fun x => (x.s, x.f, unw x.lo, unw x.hi, (if x.g = true then 1 else 0), (x.t, x.h))) ?_ ?_ ?_ ?_
  · rintro ⟨s, f, lo, hi, g, t, h⟩ ⟨_, _, h3, h4, hg, _, _⟩
    simp only at hg h3 h4
    simp only [stOfL, unw_wrp h3, unw_wrp h4, decide_eq_true_eq]
    have : (if g = 1 then 1 else 0) = g := by split <;> omega
    rw [this]
  · rintro ⟨s, f, lo, hi, g, t, h⟩ ⟨h1, h2, h3, h4, h5, h6⟩
    simp only at h1 h2 h3 h4 h5 h6
    refine ⟨?_, h1, h2, ?_, ?_, ?_, ?_, ?_⟩
    · simp only [stOfL]
      rw [wrp_unw h3.1 h3.2, wrp_unw h4.1 h4.2]
      cases g <;> rfl
    · exact unw_le h3.1 h3.2
    · exact unw_le h4.1 h4.2
    · simp only
      cases g <;> simp
    · simp only
      intro e
      cases g
      · obtain ⟨rfl, rfl⟩ := h5 rfl
        rfl
      · cases e
    · simp only
      intro e
      cases g
      · cases e
      · exact h6 rfl
  · rintro ⟨s, f, lo, hi, g, t, h⟩ ⟨h1, h2, h3, h4, hg, h5, h6⟩
    simp only at h1 h2 h3 h4 hg h5 h6
    refine ⟨h1, h2, wrp_rng h3, wrp_rng h4, fun e => ?_, fun e => ?_⟩
    · simp only [stOfL, decide_eq_false_iff_not] at e ⊢
      have h7 := h5 (by omega)
      injection h7 with h8 h9
      exact ⟨h8, h9⟩
    · simp only [stOfL, decide_eq_true_eq] at e ⊢
      exact h6 e
  · rintro ⟨s, f, lo, hi, g, t, h⟩ _
    cases g <;> rfl

theorem law_sev {α : Type} {g : List Int → Option (α × Nat)} {p : α → List Int} {ok : α → Prop} (h : Law g p ok) (k : Nat) (hk : k < 18446744073709551616) :
    Law (Gr.map (fun y : Nat × List α => y.2) (Gr.bind (num k) (fun n => Gr.many g n))) (fun l => putL l.length ++ Gr.puts p l) (fun l => l.length ≤ k ∧ ∀ a ∈ l, ok a) := by
  refine ((Gr.law_num hk).bind (q := fun _ => Gr.puts p) (fun n _ => h.many n)).map (fun y => y.2) (fun l => (l.length, l)) ?_ ?_ ?_ ?_
  · rintro ⟨n, l⟩ ⟨_, h2, _⟩
    simp only at h2
    simp only [h2]
  · exact fun l hl => ⟨rfl, hl.1, rfl, hl.2⟩
  · rintro ⟨n, l⟩ ⟨h1, h2, h3⟩
    simp only at h1 h2
    exact ⟨by rw [h2]; exact h1, h3⟩
  · exact fun _ _ => rfl

def Rg64 (z : Int) : Prop := -9223372036854775808 ≤ z ∧ z ≤ 9223372036854775807
def OkQL (q : Q) : Prop := (q.p.length ≤ 4 ∧ ∀ x ∈ q.p, OkSL x) ∧ Rg64 q.w ∧ Rg64 q.a ∧ Rg64 q.i ∧ Rg64 q.f
def pQL (q : Q) : List Int := (putL q.p.length ++ Gr.puts pStL q.p) ++ (putL (unw q.w) ++ (putL (unw q.a) ++ (putL (unw q.i) ++ putL (unw q.f))))
theorem law_qL : Law gQL pQL OkQL := by
  have nM := law_get
  have l4 := nM.bind (k := fun _ => getS) (q := fun _ => putL) (ok2 := fun _ n => n ≤ 18446744073709551615) (fun _ _ => nM)
  have l3 := nM.bind (k := fun _ => Gr.bind getS fun _ => getS) (ok2 := fun _ => _) (fun _ _ => l4)
  have l2 := nM.bind (k := fun _ => Gr.bind getS fun _ => Gr.bind getS fun _ => getS) (ok2 := fun _ => _) (fun _ _ => l3)
  have l1 := (law_sev law_stL 4 (by decide)).bind (k := fun _ => Gr.bind getS fun _ => Gr.bind getS fun _ => Gr.bind getS fun _ => getS) (ok2 := fun _ => _) (fun _ _ => l2)
  refine l1.map (ok2 := OkQL) (q := pQL) qOfL (fun x => (x.p, unw x.w, unw x.a, unw x.i, unw x.f)) ?_ ?_ ?_ ?_
  · rintro ⟨p, w, a, i, f⟩ ⟨_, h1, h2, h3, h4⟩
    simp only at h1 h2 h3 h4
    simp only [qOfL, unw_wrp h1, unw_wrp h2, unw_wrp h3, unw_wrp h4]
  · rintro ⟨p, w, a, i, f⟩ ⟨h1, h2, h3, h4, h5⟩
    simp only [Rg64] at h1 h2 h3 h4 h5
    refine ⟨?_, h1, unw_le h2.1 h2.2, unw_le h3.1 h3.2, unw_le h4.1 h4.2, unw_le h5.1 h5.2⟩
    simp only [qOfL]
    rw [wrp_unw h2.1 h2.2, wrp_unw h3.1 h3.2, wrp_unw h4.1 h4.2, wrp_unw h5.1 h5.2]
  · rintro ⟨p, w, a, i, f⟩ ⟨h1, h2, h3, h4, h5⟩
    exact ⟨h1, wrp_rng h2, wrp_rng h3, wrp_rng h4, wrp_rng h5⟩
  · rintro ⟨p, w, a, i, f⟩ _
    rfl

/-- Of what may be the bytes are the document's. -/
theorem puts_eq {p : List St} (h : ∀ x ∈ p, 0 ≤ x.lo ∧ 0 ≤ x.hi) : Gr.puts pStL p = Gr.puts pSt p := by
  induction p with
  | nil => rfl
  | cons x p ih =>
    obtain ⟨h1, h2⟩ := h x (List.mem_cons_self ..)
    rw [Gr.puts, Gr.puts, ih (fun y hy => h y (List.mem_cons_of_mem _ hy))]
    unfold pStL pSt
    rw [unw_nat h1, unw_nat h2]
theorem pQL_eq {q : Q} (h : May q) : pQL q = pQ q := by
  obtain ⟨_, h2, h3, h4, h5, _⟩ := id h
  unfold pQL pQ
  rw [puts_eq (fun x hx => by
    obtain ⟨_, _, k⟩ := h.ok hx
    have k3 := k.2.2.1
    have k4 := k.2.2.2.1
    omega), unw_nat h2.1, unw_nat h3.1, unw_nat h4.1, unw_nat h5.1, List.append_assoc]
theorem okQL_of {q : Q} (h : OkQ q) : OkQL q := by
  obtain ⟨h1, h2, h3, h4, h5, h6⟩ := h
  refine ⟨⟨h1, fun x hx => ?_⟩, ⟨by omega, by omega⟩, ⟨by omega, by omega⟩, ⟨by omega, by omega⟩, ⟨by omega, by omega⟩⟩
  obtain ⟨k1, k2, k3, k4, k5, k6⟩ := h2 x hx
  exact ⟨k1, k2, ⟨by omega, by omega⟩, ⟨by omega, by omega⟩, k5, k6⟩
theorem rngQ_of {q : Q} (h : OkQL q) : RngQ q := by
  intro x hx
  obtain ⟨_, k2, _, _, k5, k6⟩ := h.1.2 x hx
  refine ⟨k2.2, ?_⟩
  cases hg : x.g with
  | false =>
    rw [(k5 hg).2]
    intro y hy
    cases hy
  | true => exact (k6 hg).2.2

theorem gQ_loose {xs : List Int} (hb : By xs) : gQ xs = Gr.only May gQL xs := by
  have key : ∀ q m, gQ xs = some (q, m) ↔ Gr.only May gQL xs = some (q, m) := by
    intro q m
    constructor
    · intro h
      obtain ⟨⟨h1, h2⟩, h3, h4⟩ := law_q.some hb h
      have h5 := law_qL.put hb (okQL_of h1) ((pQL_eq h2).trans h4) h3
      unfold Gr.only
      rw [h5]
      simp only [if_pos h2]
    · intro h
      obtain ⟨⟨h1, h2⟩, h3, h4⟩ := (law_qL.only May).some hb h
      exact law_q.put hb ⟨okQ_of h2 (rngQ_of h1), h2⟩ ((pQL_eq h2).symm.trans h4) h3
  cases e1 : gQ xs with
  | some y =>
    obtain ⟨q, m⟩ := y
    exact ((key q m).1 e1).symm
  | none =>
    cases e2 : Gr.only May gQL xs with
    | none => rfl
    | some y =>
      obtain ⟨q, m⟩ := y
      rw [(key q m).2 e2] at e1
      cases e1

/-- What Get answers, by the reader. -/
theorem gQ_own {xs : List Int} (hb : By xs) : gotQ (gQ xs) = if (oQ (xs, false)).2.2 = false ∧ May (oQ (xs, false)).1 then ((oQ (xs, false)).1, xs.length - (oQ (xs, false)).2.1.length, true) else (q0, 0, false) := by
  rw [gQ_loose hb]
  unfold Gr.only
  cases e : gQL xs with
  | none =>
    have h := rdr_q.none e
    rw [if_neg (fun k => by rw [h] at k; cases k.1)]
    rfl
  | some y =>
    obtain ⟨q, m⟩ := y
    have h := rdr_q.some e
    have hm := (law_qL.some hb e).2.1
    rw [h]
    simp only [true_and]
    by_cases hq : May q
    · rw [if_pos hq, if_pos hq]
      simp only [gotQ, List.length_drop]
      congr 2
      omega
    · rw [if_neg hq, if_neg hq]
      rfl

theorem oG_size (g : Nat) (s : Os) : (oG g s).1.1.size ≤ 12 := by
  by_cases h : g = 1
  · rw [oG, if_pos h]
    exact oName_size s
  · rw [oG, if_neg h]
    show e0.size ≤ 12
    rw [e0_size]
    omega
/-- What the steps that are read are like. -/
theorem oStep_like {s : Os} (h : By s.1) : ((oStep s).1.s.size ≤ 12 ∧ (oStep s).1.t.size ≤ 12) ∧ Rg64 (oStep s).1.lo ∧ Rg64 (oStep s).1.hi := by
  have b1 := rdr_name.bytes h
  have b2 := rdr_expr.bytes b1
  have b3 := rdr_num.bytes b2
  refine ⟨⟨oName_size _, ?_⟩, wrp_rng (oNum_le b2), wrp_rng (oNum_le b3)⟩
  exact oG_size _ _
theorem oQ_like {s : Os} (h : By s.1) : Rg64 (oQ s).1.w ∧ Rg64 (oQ s).1.a ∧ Rg64 (oQ s).1.i ∧ Rg64 (oQ s).1.f := by
  have b1 := several_by rdr_step (k := 4) h
  have b2 := rdr_num.bytes b1
  have b3 := rdr_num.bytes b2
  have b4 := rdr_num.bytes b3
  exact ⟨wrp_rng (oNum_le b1), wrp_rng (oNum_le b2), wrp_rng (oNum_le b3), wrp_rng (oNum_le b4)⟩
end Go.Proofs.YtbmdkibmfkmjoaaGreat.QyM

namespace Go.Proofs.YtbmdkibmfkmjoaaGreat.EvM
open Go.RowKit Go.Proofs.YtbmdkibmfkmjoaaGreat.LeM Go.Proofs.YtbmdkibmfkmjoaaGreat.VaM Go.Proofs.YtbmdkibmfkmjoaaGreat.BM
open Go.Proofs.YtbmdkibmfkmjoaaGreat.ScM (Rs rNum rName rNum_short rName_short rName_iff rNum_iff rNum_le rName_left rNum_left rName_size gN bytes_drop)

def rVal (r : Rs) : V × Rs := ((gotP (getP r.1)).1, (r.1.drop (gotP (getP r.1)).2.1, r.2 || !(gotP (getP r.1)).2.2))
def rVals : Nat → Rs → List V × Rs
  | 0, r => ([], r)
  | n + 1, r => ((rVals n r).1 ++ [(rVal (rVals n r).2).1], (rVal (rVals n r).2).2)
def rAll (xs : List Int) : Ev × Rs :=
  (⟨(rName (xs, false)).1, (rNum 1125899906842624 (rName (xs, false)).2).1, (rVals (rNum 6 (rNum 1125899906842624 (rName (xs, false)).2).2).1 (rNum 6 (rNum 1125899906842624 (rName (xs, false)).2).2).2).1⟩,
    (rVals (rNum 6 (rNum 1125899906842624 (rName (xs, false)).2).2).1 (rNum 6 (rNum 1125899906842624 (rName (xs, false)).2).2).2).2)

theorem rVal_short {r : Rs} (h : r.2 = true) : (rVal r).2.2 = true := by
  unfold rVal
  simp [h]
theorem rVals_short : ∀ {n : Nat} {r : Rs} (_ : r.2 = true), (rVals n r).2.2 = true
  | 0, _, h => h
  | _ + 1, _, h => rVal_short (rVals_short h)

theorem rVal_iff (xs : List Int) : match getP xs with
    | some (x, m) => rVal (xs, false) = (x, (xs.drop m, false))
    | none => (rVal (xs, false)).2.2 = true := by
  unfold rVal
  cases hg : getP xs with
  | none => simp [gotP]
  | some p => simp [gotP]

theorem rVals_cons : ∀ (n : Nat) (r : Rs), rVals (n + 1) r = ((rVal r).1 :: (rVals n (rVal r).2).1, (rVals n (rVal r).2).2)
  | 0, r => rfl
  | n + 1, r => by
    have h := rVals_cons n r
    show ((rVals (n + 1) r).1 ++ [(rVal (rVals (n + 1) r).2).1], (rVal (rVals (n + 1) r).2).2) = _
    rw [h]
    rfl

theorem rVals_iff : ∀ (n : Nat) (xs : List Int), match gVs n xs with
    | some (l, m) => rVals n (xs, false) = (l, (xs.drop m, false))
    | none => (rVals n (xs, false)).2.2 = true
  | 0, xs => rfl
  | n + 1, xs => by
    have h := rVal_iff xs
    rw [rVals_cons]
    simp only [gVs]
    cases hg : getP xs with
    | none =>
      rw [hg] at h
      exact rVals_short h
    | some p =>
      obtain ⟨x, m⟩ := p
      rw [hg] at h
      simp only at h ⊢
      rw [h]
      have h2 := rVals_iff n (xs.drop m)
      cases hr : gVs n (xs.drop m) with
      | none =>
        rw [hr] at h2
        exact h2
      | some q =>
        obtain ⟨l, k⟩ := q
        rw [hr] at h2
        simp only at h2 ⊢
        rw [h2, List.drop_drop]

theorem rAll_iff (xs : List Int) : match gA xs with
    | some (s, m) => rAll xs = (s, (xs.drop m, false))
    | none => (rAll xs).2.2 = true := by
  have h1 := rName_iff xs
  unfold gA rAll
  cases e1 : gN xs with
  | none =>
    rw [e1] at h1
    exact rVals_short (rNum_short (rNum_short h1))
  | some p =>
    obtain ⟨t, a⟩ := p
    rw [e1] at h1
    simp only at h1 ⊢
    rw [h1]
    have h2 := rNum_iff 1125899906842624 (xs.drop a)
    cases e2 : getS (xs.drop a) with
    | none =>
      rw [e2] at h2
      exact rVals_short (rNum_short h2)
    | some p =>
      obtain ⟨v, u⟩ := p
      rw [e2] at h2
      simp only at h2 ⊢
      by_cases hv : v ≤ 1125899906842624
      · rw [if_pos hv] at h2 ⊢
        rw [h2, List.drop_drop]
        have h3 := rNum_iff 6 (xs.drop (a + u))
        cases e3 : getS (xs.drop (a + u)) with
        | none =>
          rw [e3] at h3
          exact rVals_short h3
        | some p =>
          obtain ⟨n, m⟩ := p
          rw [e3] at h3
          simp only at h3 ⊢
          by_cases hn : n ≤ 6
          · rw [if_pos hn] at h3 ⊢
            rw [h3, List.drop_drop]
            have h4 := rVals_iff n (xs.drop (a + u + m))
            cases e4 : gVs n (xs.drop (a + u + m)) with
            | none =>
              rw [e4] at h4
              exact h4
            | some p =>
              obtain ⟨l, k⟩ := p
              rw [e4] at h4
              simp only at h4 ⊢
              rw [h4, List.drop_drop]
          · rw [if_neg hn] at h3 ⊢
            exact rVals_short h3
      · rw [if_neg hv] at h2 ⊢
        exact rVals_short (rNum_short h2)

/-- What Get answers, by the reader. -/
theorem gE_read {xs : List Int} (hb : ∀ x ∈ xs, (0 : Int) ≤ x ∧ x < 256) :
    gotE (gE xs) = if (rAll xs).2.2 = false ∧ May (rAll xs).1 then ((rAll xs).1, xs.length - (rAll xs).2.1.length, true) else (⟨e0, 0, []⟩, 0, false) := by
  have h := rAll_iff xs
  cases hg : gE xs with
  | none =>
    rw [if_neg]
    · rfl
    · rintro ⟨h1, h2⟩
      unfold gE at hg
      cases ha : gA xs with
      | none =>
        rw [ha] at h
        simp only at h
        rw [h1] at h
        cases h
      | some p =>
        obtain ⟨s, m⟩ := p
        rw [ha] at h hg
        simp only at h hg
        rw [h] at h2
        rw [if_pos h2] at hg
        cases hg
  | some p =>
    obtain ⟨s, m⟩ := p
    obtain ⟨k1, k1', k2, k3⟩ := gE_some hb hg
    unfold gE at hg
    cases ha : gA xs with
    | none =>
      rw [ha] at hg
      cases hg
    | some q =>
      obtain ⟨s', m'⟩ := q
      rw [ha] at h hg
      simp only at h hg
      by_cases hm : May s'
      · rw [if_pos hm] at hg
        simp only [Option.some.injEq, Prod.mk.injEq] at hg
        obtain ⟨rfl, rfl⟩ := hg
        rw [h, if_pos ⟨rfl, hm⟩]
        simp only [gotE, List.length_drop]
        congr 2
        omega
      · rw [if_neg hm] at hg
        cases hg

/-- What a reader's value is: no long string, and a number. -/
def Sm (x : V) : Prop := x.s.size ≤ maxLen ∧ Rng x

theorem sm_v0 : Sm v0 := ⟨by unfold maxLen; decide, by decide, by decide⟩

theorem gotP_sm {xs : List Int} (hb : ∀ x ∈ xs, (0 : Int) ≤ x ∧ x < 256) : Sm (gotP (getP xs)).1 ∧ (gotP (getP xs)).2.1 ≤ xs.length := by
  cases hg : getP xs with
  | none => exact ⟨sm_v0, Nat.zero_le _⟩
  | some p =>
    obtain ⟨v, m⟩ := p
    obtain ⟨h1, h2, h3, _⟩ := getP_some hb hg
    refine ⟨⟨?_, h1⟩, h3⟩
    have := may_size h2
    unfold maxLen
    simp only [gotP]
    omega

theorem rNum_bytes {m : Nat} {r : Rs} (hb : ∀ x ∈ r.1, (0 : Int) ≤ x ∧ x < 256) : ∀ x ∈ (rNum m r).2.1, (0 : Int) ≤ x ∧ x < 256 := by
  unfold rNum
  split
  · split
    · exact bytes_drop hb _
    · exact hb
  · exact hb

theorem rVals_good : ∀ (n : Nat) {r : Rs} (_ : ∀ x ∈ r.1, (0 : Int) ≤ x ∧ x < 256), (rVals n r).1.length = n ∧ (∀ x ∈ (rVals n r).1, Sm x) ∧ (∀ x ∈ (rVals n r).2.1, (0 : Int) ≤ x ∧ x < 256) ∧ (rVals n r).2.1.length ≤ r.1.length
  | 0, _, hb => ⟨rfl, (fun f hf => by cases hf), hb, Nat.le_refl _⟩
  | n + 1, r, hb => by
    obtain ⟨h1, h2, h3, h4⟩ := rVals_good n hb
    have h5 := gotP_sm h3
    refine ⟨by show ((rVals n r).1 ++ [_]).length = n + 1; rw [List.length_append, h1]; rfl, fun f hf => ?_, bytes_drop h3 _, ?_⟩
    · rcases List.mem_append.1 hf with h | h
      · exact h2 f h
      · obtain rfl := List.mem_singleton.1 h
        exact h5.1
    · show (List.drop _ (rVals n r).2.1).length ≤ _
      rw [List.length_drop]
      omega

theorem rVals_left : ∀ (n : Nat) (r : Rs), (rVals n r).2.1.length ≤ r.1.length
  | 0, _ => Nat.le_refl _
  | n + 1, r => by
    have h := rVals_left n r
    show (List.drop _ (rVals n r).2.1).length ≤ _
    rw [List.length_drop]
    omega
theorem rAll_left (xs : List Int) : (rAll xs).2.1.length ≤ xs.length :=
  Nat.le_trans (rVals_left _ _) (Nat.le_trans (rNum_left _ _) (Nat.le_trans (rNum_left _ _) (rName_left (xs, false))))
end Go.Proofs.YtbmdkibmfkmjoaaGreat.EvM

namespace Go.Proofs.YtbmdkibmfkmjoaaGreat.ExM
open Go.RowKit Go.Proofs.YtbmdkibmfkmjoaaGreat.LeM Go.Proofs.YtbmdkibmfkmjoaaGreat.VaM Go.Proofs.YtbmdkibmfkmjoaaGreat.BM Go.Proofs.YtbmdkibmfkmjoaaGreat.EvM
open Go.Proofs.YtbmdkibmfkmjoaaGreat.ScM (Rs rNum rNum_short rNum_iff rNum_le bytes_drop)
open Go.Proofs.YtbmdkibmfkmjoaaGreat.Ex (Fin)

def rOne (r : Rs) : Int × Rs :=
  match r.1 with
  | [] => (0, ([], true))
  | x :: t => (x, (t, r.2))
def rPart (r : Rs) : O × Rs :=
  if (rOne r).1 = 0 then (⟨0, 0, (rVal (rOne r).2).1⟩, (rVal (rOne r).2).2)
  else if (rOne r).1 = 1 then (⟨1, (rOne (rOne r).2).1, v0⟩, (rOne (rOne r).2).2)
  else (⟨(rOne r).1, 0, v0⟩, (rOne r).2)
def rParts : Nat → Rs → List O × Rs
  | 0, r => ([], r)
  | n + 1, r => ((rParts n r).1 ++ [(rPart (rParts n r).2).1], (rPart (rParts n r).2).2)
def rExpr (xs : List Int) : List O × Rs := rParts (rNum 12 (xs, false)).1 (rNum 12 (xs, false)).2

theorem rOne_short {r : Rs} (h : r.2 = true) : (rOne r).2.2 = true := by
  unfold rOne
  split
  · rfl
  · exact h
theorem rPart_short {r : Rs} (h : r.2 = true) : (rPart r).2.2 = true := by
  unfold rPart
  split
  · exact rVal_short (rOne_short h)
  · split
    · exact rOne_short (rOne_short h)
    · exact rOne_short h
theorem rParts_short : ∀ {n : Nat} {r : Rs} (_ : r.2 = true), (rParts n r).2.2 = true
  | 0, _, h => h
  | _ + 1, _, h => rPart_short (rParts_short h)

theorem rPart_iff (xs : List Int) : match gO xs with
    | some (o, m) => rPart (xs, false) = (o, (xs.drop m, false))
    | none => (rPart (xs, false)).2.2 = true := by
  cases xs with
  | nil => exact rVal_short (r := ([], true)) rfl
  | cons c t =>
    have h1 : rOne (c :: t, false) = (c, (t, false)) := rfl
    by_cases h0 : c = 0
    · subst h0
      have hv := rVal_iff t
      rw [gO_push]
      unfold rPart
      rw [h1]
      simp only [if_true]
      cases hg : getP t with
      | none =>
        rw [hg] at hv
        exact hv
      | some p =>
        obtain ⟨v, m⟩ := p
        rw [hg] at hv
        simp only at hv ⊢
        rw [hv, Nat.add_comm 1 m, List.drop_succ_cons]
    · by_cases hc : c = 1
      · subst hc
        unfold rPart
        rw [h1]
        cases t with
        | nil => rfl
        | cons a t => rfl
      · rw [gO_other t h0 hc]
        unfold rPart
        rw [h1]
        simp only [if_neg h0, if_neg hc]
        rfl

theorem rParts_cons : ∀ (n : Nat) (r : Rs), rParts (n + 1) r = ((rPart r).1 :: (rParts n (rPart r).2).1, (rParts n (rPart r).2).2)
  | 0, r => rfl
  | n + 1, r => by
    have h := rParts_cons n r
    show ((rParts (n + 1) r).1 ++ [(rPart (rParts (n + 1) r).2).1], (rPart (rParts (n + 1) r).2).2) = _
    rw [h]
    rfl

theorem rParts_iff : ∀ (n : Nat) (xs : List Int), match gOs n xs with
    | some (l, m) => rParts n (xs, false) = (l, (xs.drop m, false))
    | none => (rParts n (xs, false)).2.2 = true
  | 0, xs => rfl
  | n + 1, xs => by
    have h := rPart_iff xs
    rw [rParts_cons]
    simp only [gOs]
    cases hg : gO xs with
    | none =>
      rw [hg] at h
      exact rParts_short h
    | some p =>
      obtain ⟨x, m⟩ := p
      rw [hg] at h
      simp only at h ⊢
      rw [h]
      have h2 := rParts_iff n (xs.drop m)
      cases hr : gOs n (xs.drop m) with
      | none =>
        rw [hr] at h2
        exact h2
      | some q =>
        obtain ⟨l, k⟩ := q
        rw [hr] at h2
        simp only at h2 ⊢
        rw [h2, List.drop_drop]

/-- What Get answers, by the reader. -/
theorem gL_read {xs : List Int} (hb : ∀ x ∈ xs, (0 : Int) ≤ x ∧ x < 256) :
    gotL (gL xs) = if (rExpr xs).2.2 = false ∧ May (rExpr xs).1 then ((rExpr xs).1, xs.length - (rExpr xs).2.1.length, true) else ([], 0, false) := by
  have h1 := rNum_iff 12 xs
  have hsome := fun l m => @gL_some xs hb l m
  unfold gL at hsome ⊢
  unfold rExpr
  cases e1 : getS xs with
  | none =>
    rw [e1] at h1
    simp only at h1
    rw [if_neg]
    · rfl
    · rintro ⟨h, _⟩
      rw [rParts_short h1] at h
      cases h
  | some p =>
    obtain ⟨n, u⟩ := p
    rw [e1] at h1 hsome
    simp only at h1 hsome ⊢
    by_cases hn : n ≤ 12
    · rw [if_pos hn] at h1 ⊢
      simp only [if_pos hn] at hsome
      rw [h1]
      have h2 := rParts_iff n (xs.drop u)
      cases e2 : gOs n (xs.drop u) with
      | none =>
        rw [e2] at h2
        simp only at h2 ⊢
        rw [if_neg]
        · rfl
        · rintro ⟨h, _⟩
          rw [h2] at h
          cases h
      | some q =>
        obtain ⟨l, k⟩ := q
        rw [e2] at h2 hsome
        simp only at h2 hsome ⊢
        rw [h2]
        by_cases hm : May l
        · have hle := (hsome l (u + k) (by rw [if_pos hm])).2.2.1
          rw [if_pos hm, if_pos ⟨rfl, hm⟩]
          simp only [gotL, List.drop_drop, List.length_drop]
          congr 2
          omega
        · rw [if_neg hm, if_neg (fun h => hm h.2)]
          rfl
    · rw [if_neg hn] at h1 ⊢
      rw [if_neg]
      · rfl
      · rintro ⟨h, _⟩
        rw [rParts_short h1] at h
        cases h

theorem rOne_good {r : Rs} (hb : ∀ x ∈ r.1, (0 : Int) ≤ x ∧ x < 256) : (0 ≤ (rOne r).1 ∧ (rOne r).1 < 256) ∧ (∀ x ∈ (rOne r).2.1, (0 : Int) ≤ x ∧ x < 256) ∧ (rOne r).2.1.length ≤ r.1.length := by
  unfold rOne
  split
  · exact ⟨⟨Int.le_refl _, (by decide : (0 : Int) < 256)⟩, (fun x hx => by cases hx), Nat.zero_le _⟩
  · rename_i x t h
    rw [h] at hb ⊢
    exact ⟨hb x (List.mem_cons_self ..), fun y hy => hb y (List.mem_cons_of_mem _ hy), by simp⟩

theorem fin_of {c a : Int} {v : V} (hc : 0 ≤ c ∧ c < 256) (ha : 0 ≤ a ∧ a < 256) (hv : Sm v) : Fin ⟨c, a, v⟩ := ⟨hv.1, hv.2, ⟨by show -9223372036854775808 ≤ c; omega, by show c ≤ 9223372036854775807; omega⟩, by show -9223372036854775808 ≤ a; omega, by show a ≤ 9223372036854775807; omega⟩

theorem rPart_good {r : Rs} (hb : ∀ x ∈ r.1, (0 : Int) ≤ x ∧ x < 256) : Fin (rPart r).1 ∧ (∀ x ∈ (rPart r).2.1, (0 : Int) ≤ x ∧ x < 256) ∧ (rPart r).2.1.length ≤ r.1.length := by
  obtain ⟨h1, h2, h3⟩ := rOne_good hb
  have hz : (0 : Int) ≤ 0 ∧ (0 : Int) < 256 := ⟨Int.le_refl _, by decide⟩
  unfold rPart
  split
  · have h5 := gotP_sm h2
    refine ⟨fin_of hz hz h5.1, bytes_drop h2 _, ?_⟩
    show (List.drop _ (rOne r).2.1).length ≤ _
    rw [List.length_drop]
    omega
  · split
    · obtain ⟨g1, g2, g3⟩ := rOne_good h2
      exact ⟨fin_of ⟨by decide, by decide⟩ g1 sm_v0, g2, Nat.le_trans g3 h3⟩
    · exact ⟨fin_of h1 hz sm_v0, h2, h3⟩

theorem rParts_good : ∀ (n : Nat) {r : Rs} (_ : ∀ x ∈ r.1, (0 : Int) ≤ x ∧ x < 256), (rParts n r).1.length = n ∧ (∀ x ∈ (rParts n r).1, Fin x) ∧ (∀ x ∈ (rParts n r).2.1, (0 : Int) ≤ x ∧ x < 256) ∧ (rParts n r).2.1.length ≤ r.1.length
  | 0, _, hb => ⟨rfl, (fun f hf => by cases hf), hb, Nat.le_refl _⟩
  | n + 1, r, hb => by
    obtain ⟨h1, h2, h3, h4⟩ := rParts_good n hb
    obtain ⟨g1, g2, g3⟩ := rPart_good h3
    refine ⟨by show ((rParts n r).1 ++ [_]).length = n + 1; rw [List.length_append, h1]; rfl, fun f hf => ?_, g2, ?_⟩
    · rcases List.mem_append.1 hf with h | h
      · exact h2 f h
      · obtain rfl := List.mem_singleton.1 h
        exact g1
    · show (rPart (rParts n r).2).2.1.length ≤ _
      omega
end Go.Proofs.YtbmdkibmfkmjoaaGreat.ExM

namespace Go.Proofs.YtbmdkibmfkmjoaaGreat.Ex
open Go.RowKit Go.Proofs.YtbmdkibmfkmjoaaGreat.BM Go.Proofs.YtbmdkibmfkmjoaaGreat.LM Go.Proofs.YtbmdkibmfkmjoaaGreat.LeM Go.Proofs.YtbmdkibmfkmjoaaGreat.EvM Go.Proofs.YtbmdkibmfkmjoaaGreat.ExM
open Go.Proofs.YtbmdkibmfkmjoaaGreat.VaM (V Rng gotP getP e0)
open Go.Proofs.YtbmdkibmfkmjoaaGreat.Va (Bx Bx2 bx_new_t bx2_new bx2_set0 bx2_set1 bx_set2 ret_v bx_store stored3)
open Go.Proofs.YtbmdkibmfkmjoaaGreat.Sc (Rdd grown_set grown_trans)
open Go.Proofs.YtbmdkibmfkmjoaaGreat.ScM (Rs rNum rNum_le)

set_option maxRecDepth 100000 in
theorem number_own (b : Nat) (A : Option Addr) (xs : List Int) (c : Nat) (sh : Bool) (m : Nat) (w : World) (hB : Bx2 w b (.slice A xs.length c) (.bool sh)) (hx : SlB w A xs c) (hm : m ≤ 1000) :
    Calls Tryz.prog 113 #[.pointer (some ⟨b, 0, none⟩), .int .u64 (m : Int)] w fun e w' => e = .returned (.int .i64 ((rNum m (xs, sh)).1 : Int)) ∧ Rdd b A c xs w (rNum m (xs, sh)).2 w' := by
  have hxc := hx.2.1
  have hmx := hx.2.2.2
  unfold maxLen at hmx
  have hget := LeG.Get_any A xs c w (by omega) hx.1
  have HX := Lib.hid hB
  cases hg : getS xs with
  | none =>
    have hr : rNum m (xs, sh) = (0, (xs, true)) := by unfold rNum; simp only [hg]
    rw [hr]
    rw [hg] at hget
    obtain ⟨n, hn⟩ : ∃ n, n = xs.length := ⟨_, rfl⟩
    have HP := Lib.hid (bx2_set1 hB (.bool true))
    rw [← hn] at hB hget
    have HG := Lib.hid hget
    obtain ⟨⟨p0, p1⟩, p2, p3⟩ := hB
    clear hr hx hn hg hget
    go_enter Tryz.func113, Tryz.ntmps113
    go_wp2_with fail
    refine HG.out.mono ?_
    rintro e w1 ⟨rfl, rfl⟩
    simp only [LeG.gotV]
    go_wp2_with fail
    go_ret
    exact ⟨rfl, grown_set _ _ _ _, A, c, HP.out, fun W h => h⟩
  | some p =>
    obtain ⟨v, u⟩ := p
    obtain ⟨h1, h2, h3⟩ := (getS_iff xs hx.1.1 v u).1 hg
    rw [hg] at hget
    by_cases hv : v ≤ m
    · have hr : rNum m (xs, sh) = (v, (xs.drop u, sh)) := by unfold rNum; simp only [hg, if_pos hv]
      rw [hr]
      have hlt2 : (xs.drop u).length = xs.length - u := List.length_drop
      have HP := Lib.hid (bx2_set0 hB (.slice (dropA A u c) (xs.drop u).length (c - u)))
      have HE := Lib.hid hlt2
      have hD := fun W (h : SlB W A xs c) => Cut.slB_drop h u h2
      have hsl2 := fun W => slice_lo W A xs.length c u h2
      obtain ⟨D, hDe⟩ : ∃ D, D = dropA A u c := ⟨_, rfl⟩
      rw [← hDe] at HP hsl2
      simp only [← hDe] at hD
      obtain ⟨n, hn⟩ : ∃ n, n = xs.length := ⟨_, rfl⟩
      rw [← hn] at hB hget hsl2 HE h2
      have HG := Lib.hid hget
      have HD := Lib.hid hD
      obtain ⟨⟨p0, p1⟩, p2, p3⟩ := hB
      clear hr hx hn hg hget hD hDe hlt2 h3 h1
      go_enter Tryz.func113, Tryz.ntmps113
      go_wp2_with fail
      refine HG.out.mono ?_
      rintro e w1 ⟨rfl, rfl⟩
      simp only [LeG.gotV]
      go_wp2_with fail
      go_ret
      refine ⟨rfl, grown_set _ _ _ _, D, c - u, ?_, HD.out⟩
      have h := HP.out
      rw [HE.out] at h
      simp only [HE.out]
      exact h
    · have hr : rNum m (xs, sh) = (0, (xs, true)) := by unfold rNum; simp only [hg, if_neg hv]
      rw [hr]
      obtain ⟨n, hn⟩ : ∃ n, n = xs.length := ⟨_, rfl⟩
      have HP := Lib.hid (bx2_set1 hB (.bool true))
      rw [← hn] at hB hget
      have HG := Lib.hid hget
      obtain ⟨⟨p0, p1⟩, p2, p3⟩ := hB
      clear hr hx hn hg hget h3 h2
      go_enter Tryz.func113, Tryz.ntmps113
      go_wp2_with fail
      refine HG.out.mono ?_
      rintro e w1 ⟨rfl, rfl⟩
      simp only [LeG.gotV]
      go_wp2_with fail
      go_ret
      exact ⟨rfl, grown_set _ _ _ _, A, c, HP.out, fun W h => h⟩

theorem grownB {w w' : World} {r : Option Nat} (h : Below w.heap.size w w') : w.grownBy w' r := ⟨h.os, h.tape, h.output, h.size, fun k hk _ => h.block k hk⟩
theorem grownF {w W : World} {r : Option Nat} {k : Nat} (h : w.grownBy W r) (hk : w.heap.size ≤ k) (i : Nat) (u : Value) : w.grownBy (W.setCell ⟨k, i, none⟩ u) r := by
  have g := grown_set W k i u
  exact ⟨g.os.trans h.os, g.tape.trans h.tape, g.output.trans h.output, Nat.le_trans h.size g.size, fun j hj hne => (g.block j (Nat.lt_of_lt_of_le hj h.size) (fun e => by injection e with e; omega)).trans (h.block j hj hne)⟩

set_option maxRecDepth 100000 in
set_option maxHeartbeats 1000000 in
theorem value_own (b : Nat) (A : Option Addr) (xs : List Int) (c : Nat) (sh : Bool) (w : World) (hB : Bx2 w b (.slice A xs.length c) (.bool sh)) (hx : ∀ W, w.grownBy W (some b) → SlB W A xs c) :
    Calls Tryz.prog 124 #[.pointer (some ⟨b, 0, none⟩)] w fun e w' => e = .returned (.agg #[.int .i64 (rVal (xs, sh)).1.k, .int .i64 (rVal (xs, sh)).1.n, .string (rVal (xs, sh)).1.s]) ∧ Rdd b A c xs w (rVal (xs, sh)).2 w' := by
  have hx0 := hx w (World.grownBy.refl _ _)
  have hxc := hx0.2.1
  have hxm := hx0.2.2.2
  unfold maxLen at hxm
  have hblt := hB.lt
  have hget := fun W (hW : Below w.heap.size w W) => Va.Get_any A xs c W (hx0.kept hW)
  have hle := (gotP_sm hx0.1.1).2
  have hrv : rVal (xs, sh) = ((gotP (getP xs)).1, (xs.drop (gotP (getP xs)).2.1, sh || !(gotP (getP xs)).2.2)) := rfl
  unfold Va.Gots at hget
  obtain ⟨⟨⟨vk, vn, vs⟩, m, is⟩, hr⟩ : ∃ r, r = gotP (getP xs) := ⟨_, rfl⟩
  rw [← hr] at hle hrv
  simp only [← hr, Va.got3] at hget
  simp only at hle hrv
  rw [hrv]
  simp only
  have hdl : (xs.drop m).length = xs.length - m := List.length_drop
  have hD := fun W (h : SlB W A xs c) => Cut.slB_drop h m hle
  have hsl2 := fun W => slice_lo W A xs.length c m hle
  obtain ⟨D, hDe⟩ : ∃ D, D = dropA A m c := ⟨_, rfl⟩
  rw [← hDe] at hsl2
  simp only [← hDe] at hD
  have HDl := Lib.hid hdl
  obtain ⟨r, hrl⟩ : ∃ r, r = xs.length := ⟨_, rfl⟩
  rw [← hrl] at hB hle hxc hsl2 HDl
  simp only [← hrl] at hget
  have HGet := Lib.hid hget
  have HD := Lib.hid hD
  have ha0 := (Below.refl w.heap.size w).alloc (Nat.le_refl _) (.cells #[.int .i64 0, .int .i64 0, .string ⟨#[]⟩] 78)
  have HA0 := Lib.hid ha0
  have HR0 := Lib.hid (bx_new_t w 78 (.int .i64 0) (.int .i64 0) (.string ⟨#[]⟩))
  have HB0 := Lib.hid (hB.kept ha0)
  clear hr hrv hget hD hDe hrl hdl ha0 hx hx0 hB
  obtain ⟨⟨p0, p1⟩, p2, p3⟩ := HB0.out
  go_enter Tryz.func124, Tryz.ntmps124
  go_wp2_with fail
  refine (HGet.out _ HA0.out).mono ?_
  rintro e w1 ⟨rfl, hb1⟩
  have ha1 := (Below.refl w1.heap.size w1).alloc (Nat.le_refl _) (.cells #[.int .i64 vk, .int .i64 vn, .string vs] 78)
  have HB1 := Lib.hid ((HB0.out.kept hb1).kept ha1)
  have HR1 := Lib.hid ((HR0.out.kept hb1).kept ha1)
  have HV1 := Lib.hid (bx_new_t w1 78 (.int .i64 vk) (.int .i64 vn) (.string vs))
  have HG1 := Lib.hid (bt HA0.out (bt hb1 ha1))
  have hwl := Nat.lt_of_lt_of_le HR0.out.lt hb1.size
  clear hb1 ha1 HGet HA0 HR0 HB0 p0 p1 p2 p3
  have hne1 : ¬ b = w1.heap.size := by omega
  have hne2 : ¬ b = w.heap.size := by omega
  have hne3 : ¬ w1.heap.size = w.heap.size := by omega
  obtain ⟨⟨p0, p1⟩, p2, p3⟩ := HB1.out
  obtain ⟨⟨z0, z1, z2⟩, _⟩ := HV1.out
  obtain ⟨⟨y0, y1, y2⟩, y3, y4, y5⟩ := HR1.out
  have hfin : ∀ T : Bool, ∃ W2, W2 = (((((w1.alloc (.cells #[.int .i64 vk, .int .i64 vn, .string vs] 78)).setCell ⟨b, 0, none⟩ (.slice D (r - m) (c - m))).setCell ⟨b, 1, none⟩ (.bool T)).setCell ⟨w.heap.size, 0, none⟩ (.int .i64 vk)).setCell ⟨w.heap.size, 1, none⟩ (.int .i64 vn)).setCell ⟨w.heap.size, 2, none⟩ (.string vs) ∧
      Bx W2 w.heap.size (.int .i64 vk) (.int .i64 vn) (.string vs) ∧ Rdd b A c xs w (xs.drop m, T) W2 := fun T => by
    refine ⟨_, rfl, bx_store ((HR1.out.off (p := ⟨b, 0, none⟩) hne2 _).off (p := ⟨b, 1, none⟩) hne2 _) _ _ _, ?_, D, c - m, ?_, HD.out⟩
    · exact grownF (grownF (grownF (grown_trans (grown_trans (grownB HG1.out) (grown_set _ _ _ _)) (grown_set _ _ _ _)) (Nat.le_refl _) _ _) (Nat.le_refl _) _ _) (Nat.le_refl _) _ _
    · simp only [HDl.out]
      have hn2 : w.heap.size ≠ b := fun e => hne2 e.symm
      exact (((bx2_set1 (bx2_set0 HB1.out (.slice D (r - m) (c - m))) (.bool T)).off (p := ⟨w.heap.size, 0, none⟩) hn2 _).off (p := ⟨w.heap.size, 1, none⟩) hn2 _).off (p := ⟨w.heap.size, 2, none⟩) hn2 _
  have HFin := Lib.hid hfin
  clear hfin
  cases sh
  · obtain ⟨W2, hW2, hb2, hr2⟩ := HFin.out (!is)
    obtain ⟨⟨g0, g1, g2⟩, _⟩ := hb2
    have G0 := Lib.hid g0
    have G1 := Lib.hid g1
    have G2 := Lib.hid g2
    have HRd := Lib.hid hr2
    have HW2 := Lib.hid hW2
    clear hW2 g0 g1 g2 hr2
    go_wp2_with fail
    rw [← HW2.out]
    have g0 := G0.out
    have g1 := G1.out
    have g2 := G2.out
    exact bodyPost_ret (v := .agg #[.int .i64 vk, .int .i64 vn, .string vs]) (by simp [results, Tryz.results124, go_sem, g0, g1, g2]) rfl ⟨rfl, HRd.out⟩
  · obtain ⟨W2, hW2, hb2, hr2⟩ := HFin.out true
    obtain ⟨⟨g0, g1, g2⟩, _⟩ := hb2
    have G0 := Lib.hid g0
    have G1 := Lib.hid g1
    have G2 := Lib.hid g2
    have HRd := Lib.hid hr2
    have HW2 := Lib.hid hW2
    clear hW2 g0 g1 g2 hr2
    go_wp2_with fail
    rw [← HW2.out]
    have g0 := G0.out
    have g1 := G1.out
    have g2 := G2.out
    exact bodyPost_ret (v := .agg #[.int .i64 vk, .int .i64 vn, .string vs]) (by simp [results, Tryz.results124, go_sem, g0, g1, g2]) rfl ⟨rfl, HRd.out⟩
set_option maxRecDepth 100000 in
theorem one_own (b : Nat) (A : Option Addr) (xs : List Int) (c : Nat) (sh : Bool) (w : World) (hB : Bx2 w b (.slice A xs.length c) (.bool sh)) (hx : SlB w A xs c) :
    Calls Tryz.prog 123 #[.pointer (some ⟨b, 0, none⟩)] w fun e w' => e = .returned (.int .i64 (rOne (xs, sh)).1) ∧ Rdd b A c xs w (rOne (xs, sh)).2 w' := by
  cases xs with
  | nil =>
    have hr : rOne ([], sh) = (0, ([], true)) := rfl
    rw [hr]
    have HP := Lib.hid (bx2_set1 hB (.bool true))
    rw [List.length_nil] at hB
    obtain ⟨⟨p0, p1⟩, p2, p3⟩ := hB
    clear hr hx
    go_enter Tryz.func123, Tryz.ntmps123
    go_wp2_with fail
    go_ret
    exact ⟨rfl, grown_set _ _ _ _, A, c, HP.out, fun W h => h⟩
  | cons x t =>
    have hr : rOne (x :: t, sh) = (x, (t, sh)) := rfl
    rw [hr]
    obtain ⟨b1, q1, hix, hc, hx0, hx1⟩ := byte_at hx 0 (by simp)
    have hc0 := hc w (Below.refl _ _)
    rw [List.getD_cons_zero] at hc0 hx0 hx1
    have hi : ∀ W, (Instr.indexAt 26 (.slice A (t.length + 1) c) (.int .i64 0)).run Tryz.prog W = .ok (.pointer (some ⟨b1, q1, none⟩)) W := hix
    have hsl := fun W => Va.slice_1 W A t.length c
    have hD := fun W (h : SlB W A (x :: t) c) => Cut.slB_drop h 1 (by simp)
    simp only [List.drop_succ_cons, List.drop_zero] at hD
    have HP := Lib.hid (bx2_set0 hB (.slice (dropA A 1 c) t.length (c - 1)))
    obtain ⟨D, hDe⟩ : ∃ D, D = dropA A 1 c := ⟨_, rfl⟩
    rw [← hDe] at HP
    simp only [← hDe] at hD hsl
    rw [List.length_cons] at hB
    obtain ⟨n, hn⟩ : ∃ n, n = t.length := ⟨_, rfl⟩
    rw [← hn] at hB
    simp only [← hn] at hi hsl
    have HN := Lib.hid hn
    have HD := Lib.hid hD
    obtain ⟨⟨p0, p1⟩, p2, p3⟩ := hB
    clear hr hx hn hD hDe hix hc
    go_enter Tryz.func123, Tryz.ntmps123
    go_wp2_with fail
    go_ret
    refine ⟨rfl, grown_set _ _ _ _, D, c - 1, ?_, HD.out⟩
    have h := HP.out
    rw [← HN.out] at h
    simp only [← HN.out]
    exact h
end Go.Proofs.YtbmdkibmfkmjoaaGreat.Ex

namespace Go.Proofs.YtbmdkibmfkmjoaaGreat.Ex
open Go.RowKit Go.Proofs.YtbmdkibmfkmjoaaGreat.BM Go.Proofs.YtbmdkibmfkmjoaaGreat.LM Go.Proofs.YtbmdkibmfkmjoaaGreat.LeM Go.Proofs.YtbmdkibmfkmjoaaGreat.EvM Go.Proofs.YtbmdkibmfkmjoaaGreat.ExM
open Go.Proofs.YtbmdkibmfkmjoaaGreat.VaM (V Rng gotP getP e0)
open Go.Proofs.YtbmdkibmfkmjoaaGreat.Va (Bx Bx2 bx_new_t bx2_new bx2_set0 bx2_set1 bx_set2 ret_v bx_store stored3)
open Go.Proofs.YtbmdkibmfkmjoaaGreat.Sc (Rdd grown_set grown_trans)
open Go.Proofs.YtbmdkibmfkmjoaaGreat.ScM (Rs)

/-- Five cells, stored. -/
def put5 (w : World) (b : Nat) (y : O) : World := ((((w.setCell ⟨b, 0, none⟩ (.int .i64 y.c)).setCell ⟨b, 1, none⟩ (.int .i64 y.a)).setCell ⟨b, 2, none⟩ (.int .i64 y.v.k)).setCell ⟨b, 3, none⟩ (.int .i64 y.v.n)).setCell ⟨b, 4, none⟩ (.string y.v.s)

theorem bxO_put {w : World} {b : Nat} {x : O} (h : BxO w b x) (y : O) : BxO (put5 w b y) b y :=
  RG.BxN.set (RG.BxN.set (RG.BxN.set (RG.BxN.set (RG.BxN.set h 0 (show 0 < 5 from by decide) (.int .i64 y.c)) 1 (show 1 < 5 from by decide) (.int .i64 y.a)) 2 (show 2 < 5 from by decide) (.int .i64 y.v.k)) 3 (show 3 < 5 from by decide) (.int .i64 y.v.n)) 4 (show 4 < 5 from by decide) (.string y.v.s)

theorem put5_grown {w W : World} {r : Option Nat} {k : Nat} (h : w.grownBy W r) (hk : w.heap.size ≤ k) (y : O) : w.grownBy (put5 W k y) r := grownF (grownF (grownF (grownF (grownF h hk _ _) hk _ _) hk _ _) hk _ _) hk _ _

theorem put5_off {w : World} {b k : Nat} {v0 v1 : Value} (h : Bx2 w b v0 v1) (hk : k ≠ b) (y : O) : Bx2 (put5 w k y) b v0 v1 :=
  ((((h.off (p := ⟨k, 0, none⟩) hk _).off (p := ⟨k, 1, none⟩) hk _).off (p := ⟨k, 2, none⟩) hk _).off (p := ⟨k, 3, none⟩) hk _).off (p := ⟨k, 4, none⟩) hk _

theorem rPart_push {r : Rs} (h : (rOne r).1 = 0) : rPart r = (⟨0, 0, (rVal (rOne r).2).1⟩, (rVal (rOne r).2).2) := by rw [rPart, if_pos h]
theorem rPart_load {r : Rs} (h : (rOne r).1 = 1) : rPart r = (⟨1, (rOne (rOne r).2).1, v0⟩, (rOne (rOne r).2).2) := by rw [rPart, if_neg (by omega), if_pos h]
theorem rPart_else {r : Rs} (h0 : (rOne r).1 ≠ 0) (h1 : (rOne r).1 ≠ 1) : rPart r = (⟨(rOne r).1, 0, v0⟩, (rOne r).2) := by rw [rPart, if_neg h0, if_neg h1]

set_option maxRecDepth 100000 in
set_option maxHeartbeats 4000000 in
theorem part_own (b : Nat) (A : Option Addr) (xs : List Int) (c : Nat) (sh : Bool) (w : World) (hB : Bx2 w b (.slice A xs.length c) (.bool sh)) (hx : ∀ W, w.grownBy W (some b) → SlB W A xs c) :
    Calls Tryz.prog 114 #[.pointer (some ⟨b, 0, none⟩)] w fun e w' => e = .returned (agO (rPart (xs, sh)).1) ∧ Rdd b A c xs w (rPart (xs, sh)).2 w' := by
  have hblt := hB.lt
  have hpu := @rPart_push (xs, sh)
  have hlo := @rPart_load (xs, sh)
  have hel := @rPart_else (xs, sh)
  have ha0 := (Below.refl w.heap.size w).alloc (Nat.le_refl _) (.cells #[.int .i64 0, .int .i64 0, .int .i64 0, .int .i64 0, .string ⟨#[]⟩] 80)
  have HG0 := Lib.hid (grownB (r := some b) ha0)
  have hR0 := bxO_new w ⟨0, 0, v0⟩
  have hB0 := hB.kept ha0
  obtain ⟨w0, hw0⟩ : ∃ w0, w0 = w.alloc (.cells #[.int .i64 0, .int .i64 0, .int .i64 0, .int .i64 0, .string ⟨#[]⟩] 80) := ⟨_, rfl⟩
  have hR0' : BxO w0 w.heap.size ⟨0, 0, v0⟩ := by rw [hw0]; exact hR0
  rw [← hw0] at HG0 hB0
  have hone := one_own b A xs c sh w0 hB0 (hx w0 HG0.out)
  have HR0 := Lib.hid hR0'
  have HX := Lib.hid hx
  obtain ⟨⟨cd, ys, s1⟩, hr⟩ : ∃ r, r = rOne (xs, sh) := ⟨_, rfl⟩
  rw [← hr] at hone hpu hlo hel
  simp only at hone hpu hlo hel
  obtain ⟨R, hRp⟩ : ∃ R, R = rPart (xs, sh) := ⟨_, rfl⟩
  rw [← hRp] at hpu hlo hel ⊢
  have HOne := Lib.hid hone
  have HPu := Lib.hid hpu
  have HLo := Lib.hid hlo
  have HEl := Lib.hid hel
  have HW0 := Lib.hid hw0
  clear hB hx ha0 hR0 hR0' hB0 hone hr hRp hpu hlo hel hw0
  go_enter Tryz.func114, Tryz.ntmps114
  go_wp2_with fail
  rw [← HW0.out]
  refine HOne.out.mono ?_
  rintro e w1 ⟨rfl, hg1, A1, c1, hb1, hs1⟩
  have hG1 := grown_trans HG0.out hg1
  have hR1 := RG.BxN.grown HR0.out hg1 (fun e => by injection e with e; omega)
  have ha2 := (Below.refl w1.heap.size w1).alloc (Nat.le_refl _) (.cells #[.int .i64 cd, .int .i64 0, .int .i64 0, .int .i64 0, .string ⟨#[]⟩] 80)
  have HG2 := Lib.hid (grown_trans hG1 (grownB (r := some b) ha2))
  have HR2 := Lib.hid (show BxO _ w.heap.size ⟨0, 0, v0⟩ from RG.BxN.kept hR1 ha2)
  have HO2 := Lib.hid (bxO_new w1 ⟨cd, 0, v0⟩)
  have HB2 := Lib.hid (hb1.kept ha2)
  have HS1 := Lib.hid hs1
  have hlt1 : w.heap.size < w1.heap.size := RG.BxN.lt hR1 (by decide : 0 < 5)
  obtain ⟨o, ho⟩ : ∃ o, o = w1.heap.size := ⟨_, rfl⟩
  obtain ⟨w2, hw2⟩ : ∃ w2, w2 = w1.alloc (.cells #[.int .i64 cd, .int .i64 0, .int .i64 0, .int .i64 0, .string ⟨#[]⟩] 80) := ⟨_, rfl⟩
  have HO2' := Lib.hid (show BxO w2 o ⟨cd, 0, v0⟩ from by rw [hw2, ho]; exact HO2.out)
  rw [← hw2] at HG2 HR2 HB2
  rw [← ho] at hlt1
  have HW2 := Lib.hid hw2
  have HOe := Lib.hid ho
  obtain ⟨x0, x1, x2, x3, x4⟩ := HO2.out.cells
  simp only [v0] at x0 x1 x2 x3 x4
  have hne1 : o ≠ b := by omega
  have hne2 : w.heap.size ≠ b := by omega
  have hne3 : ¬ o = w.heap.size := by omega
  have hne4 : ¬ w.heap.size = o := by omega
  clear hg1 hb1 hs1 hG1 hR1 ha2 HO2 ho hw2 HOne HG0 HR0 HW0
  by_cases h0 : cd = 0
  · subst h0
    have hR := HPu.out rfl
    have hval := value_own b A1 ys c1 s1 w2 HB2.out (fun W hg => HS1.out W (HX.out W (grown_trans HG2.out hg)))
    obtain ⟨⟨⟨vk, vn, vs⟩, zs, s2⟩, hr⟩ : ∃ r, r = rVal (ys, s1) := ⟨_, rfl⟩
    rw [← hr] at hval hR
    simp only at hval hR
    have HVal := Lib.hid hval
    have HRe := Lib.hid hR
    clear hval hR hr HPu HLo HEl
    obtain ⟨y0, y1, y2, y3, y4⟩ := HO2'.out.cells
    simp only [v0] at y0 y1 y2 y3 y4
    go_wp2_with fail
    rw [← HW2.out, ← HOe.out]
    refine HVal.out.mono ?_
    rintro e w3 ⟨rfl, hg3, A3, c3, hb3, hs3⟩
    have hO3 : BxO w3 o ⟨0, 0, v0⟩ := RG.BxN.grown HO2'.out hg3 (fun e => by injection e with e; omega)
    have hR3 : BxO w3 w.heap.size ⟨0, 0, v0⟩ := RG.BxN.grown HR2.out hg3 (fun e => by injection e with e; omega)
    have hG3 := grown_trans HG2.out hg3
    obtain ⟨w4, hw4⟩ : ∃ w4, w4 = ((w3.setCell ⟨o, 2, none⟩ (.int .i64 vk)).setCell ⟨o, 3, none⟩ (.int .i64 vn)).setCell ⟨o, 4, none⟩ (.string vs) := ⟨_, rfl⟩
    have hO4 : BxO w4 o ⟨0, 0, ⟨vk, vn, vs⟩⟩ := by rw [hw4]; exact RG.BxN.set (RG.BxN.set (RG.BxN.set hO3 2 (show 2 < 5 from by decide) (.int .i64 vk)) 3 (show 3 < 5 from by decide) (.int .i64 vn)) 4 (show 4 < 5 from by decide) (.string vs)
    have hR4 : BxO w4 w.heap.size ⟨0, 0, v0⟩ := by rw [hw4]; exact ((RG.BxN.off hR3 (p := ⟨o, 2, none⟩) hne3 _).off (p := ⟨o, 3, none⟩) hne3 _).off (p := ⟨o, 4, none⟩) hne3 _
    have hG4 : w.grownBy w4 (some b) := by rw [hw4]; exact grownF (grownF (grownF hG3 (by omega) _ _) (by omega) _ _) (by omega) _ _
    have hB4 : Bx2 w4 b (.slice A3 zs.length c3) (.bool s2) := by rw [hw4]; exact ((hb3.off (p := ⟨o, 2, none⟩) hne1 _).off (p := ⟨o, 3, none⟩) hne1 _).off (p := ⟨o, 4, none⟩) hne1 _
    have HF := Lib.hid (bxO_put hR4 ⟨0, 0, ⟨vk, vn, vs⟩⟩)
    have HRd := Lib.hid (show Rdd b A c xs w (zs, s2) (put5 w4 w.heap.size ⟨0, 0, ⟨vk, vn, vs⟩⟩) from ⟨put5_grown hG4 (Nat.le_refl _) _, A3, c3, put5_off hB4 hne2 _, fun W h => hs3 W (HS1.out W h)⟩)
    have HW4 := Lib.hid hw4
    obtain ⟨z0, z0'⟩ := hO3 0 _ rfl
    obtain ⟨z1, z1'⟩ := hO3 1 _ rfl
    obtain ⟨z2, z2'⟩ := hO3 2 _ rfl
    obtain ⟨z3, z3'⟩ := hO3 3 _ rfl
    obtain ⟨z4, z4'⟩ := hO3 4 _ rfl
    obtain ⟨u0, u0'⟩ := hR3 0 _ rfl
    obtain ⟨u1, u1'⟩ := hR3 1 _ rfl
    obtain ⟨u2, u2'⟩ := hR3 2 _ rfl
    obtain ⟨u3, u3'⟩ := hR3 3 _ rfl
    obtain ⟨u4, u4'⟩ := hR3 4 _ rfl
    simp only [v0] at z0 z1 z2 z3 z4 u0 u1 u2 u3 u4
    clear hg3 hb3 hs3 hO3 hR3 hG3 hO4 hR4 hG4 hB4 hw4 HVal HX HG2 HR2 HB2 HS1 HO2' HW2 x0 x1 x2 x3 x4 y0 y1 y2 y3 y4
    go_wp2_with fail
    change bodyPost _ _ _ _ _ (put5 (((w3.setCell ⟨o, 2, none⟩ (.int .i64 vk)).setCell ⟨o, 3, none⟩ (.int .i64 vn)).setCell ⟨o, 4, none⟩ (.string vs)) w.heap.size ⟨0, 0, ⟨vk, vn, vs⟩⟩)
    rw [← HW4.out]
    obtain ⟨W2, hW2⟩ : ∃ W2, W2 = put5 w4 w.heap.size ⟨0, 0, ⟨vk, vn, vs⟩⟩ := ⟨_, rfl⟩
    rw [← hW2] at HF HRd ⊢
    obtain ⟨g0, g1, g2, g3, g4⟩ := HF.out.cells
    simp only at g0 g1 g2 g3 g4
    clear hW2 z0 z1 z2 z3 z4 u0 u1 u2 u3 u4 z0' z1' z2' z3' z4' u0' u1' u2' u3' u4'
    exact bodyPost_ret (v := .agg #[.int .i64 0, .int .i64 0, .int .i64 vk, .int .i64 vn, .string vs]) (by simp [results, Tryz.results114, go_sem, g0, g1, g2, g3, g4]) rfl ⟨ret_v (by rw [HRe.out]; rfl), by rw [HRe.out]; exact HRd.out⟩
  · have g0' : (cd == 0) = false := by simpa using h0
    by_cases h1 : cd = 1
    · subst h1
      have hR := HLo.out rfl
      have hval := one_own b A1 ys c1 s1 w2 HB2.out (HS1.out w2 (HX.out w2 HG2.out))
      obtain ⟨⟨a, zs, s2⟩, hr⟩ : ∃ r, r = rOne (ys, s1) := ⟨_, rfl⟩
      rw [← hr] at hval hR
      simp only at hval hR
      have HVal := Lib.hid hval
      have HRe := Lib.hid hR
      clear hval hR hr HPu HLo HEl
      obtain ⟨y0, y1, y2, y3, y4⟩ := HO2'.out.cells
      simp only [v0] at y0 y1 y2 y3 y4
      go_wp2_with fail
      rw [← HW2.out, ← HOe.out]
      refine HVal.out.mono ?_
      rintro e w3 ⟨rfl, hg3, A3, c3, hb3, hs3⟩
      have hO3 : BxO w3 o ⟨1, 0, v0⟩ := RG.BxN.grown HO2'.out hg3 (fun e => by injection e with e; omega)
      have hR3 : BxO w3 w.heap.size ⟨0, 0, v0⟩ := RG.BxN.grown HR2.out hg3 (fun e => by injection e with e; omega)
      have hG3 := grown_trans HG2.out hg3
      obtain ⟨w4, hw4⟩ : ∃ w4, w4 = w3.setCell ⟨o, 1, none⟩ (.int .i64 a) := ⟨_, rfl⟩
      have hR4 : BxO w4 w.heap.size ⟨0, 0, v0⟩ := by rw [hw4]; exact RG.BxN.off hR3 (p := ⟨o, 1, none⟩) hne3 _
      have hG4 : w.grownBy w4 (some b) := by rw [hw4]; exact grownF hG3 (by omega) _ _
      have hB4 : Bx2 w4 b (.slice A3 zs.length c3) (.bool s2) := by rw [hw4]; exact hb3.off (p := ⟨o, 1, none⟩) hne1 _
      have HF := Lib.hid (bxO_put hR4 ⟨1, a, v0⟩)
      have HRd := Lib.hid (show Rdd b A c xs w (zs, s2) (put5 w4 w.heap.size ⟨1, a, v0⟩) from ⟨put5_grown hG4 (Nat.le_refl _) _, A3, c3, put5_off hB4 hne2 _, fun W h => hs3 W (HS1.out W h)⟩)
      have HW4 := Lib.hid hw4
      obtain ⟨z0, z0'⟩ := hO3 0 _ rfl
      obtain ⟨z1, z1'⟩ := hO3 1 _ rfl
      obtain ⟨z2, z2'⟩ := hO3 2 _ rfl
      obtain ⟨z3, z3'⟩ := hO3 3 _ rfl
      obtain ⟨z4, z4'⟩ := hO3 4 _ rfl
      obtain ⟨u0, u0'⟩ := hR3 0 _ rfl
      obtain ⟨u1, u1'⟩ := hR3 1 _ rfl
      obtain ⟨u2, u2'⟩ := hR3 2 _ rfl
      obtain ⟨u3, u3'⟩ := hR3 3 _ rfl
      obtain ⟨u4, u4'⟩ := hR3 4 _ rfl
      simp only [v0] at z0 z1 z2 z3 z4 u0 u1 u2 u3 u4
      clear hg3 hb3 hs3 hO3 hR3 hG3 hR4 hG4 hB4 hw4 HVal HX HG2 HR2 HB2 HS1 HO2' HW2 x0 x1 x2 x3 x4 y0 y1 y2 y3 y4
      go_wp2_with fail
      change bodyPost _ _ _ _ _ (put5 (w3.setCell ⟨o, 1, none⟩ (.int .i64 a)) w.heap.size ⟨1, a, v0⟩)
      rw [← HW4.out]
      obtain ⟨W2, hW2⟩ : ∃ W2, W2 = put5 w4 w.heap.size ⟨1, a, v0⟩ := ⟨_, rfl⟩
      rw [← hW2] at HF HRd ⊢
      obtain ⟨g0, g1, g2, g3, g4⟩ := HF.out.cells
      simp only [v0] at g0 g1 g2 g3 g4
      clear hW2 z0 z1 z2 z3 z4 u0 u1 u2 u3 u4 z0' z1' z2' z3' z4' u0' u1' u2' u3' u4'
      exact bodyPost_ret (v := .agg #[.int .i64 1, .int .i64 a, .int .i64 0, .int .i64 0, .string e0]) (by simp [results, Tryz.results114, go_sem, g0, g1, g2, g3, g4]) rfl ⟨ret_v (by rw [HRe.out]; rfl), by rw [HRe.out]; exact HRd.out⟩
    · have g1' : (cd == 1) = false := by simpa using h1
      have hR := HEl.out h0 h1
      have HRe := Lib.hid hR
      have hRs := HR2.out
      have HF := Lib.hid (bxO_put HR2.out ⟨cd, 0, v0⟩)
      have HRd := Lib.hid (show Rdd b A c xs w (ys, s1) (put5 w2 w.heap.size ⟨cd, 0, v0⟩) from ⟨put5_grown HG2.out (Nat.le_refl _) _, A1, c1, put5_off HB2.out hne2 _, HS1.out⟩)
      rw [HW2.out] at hRs
      obtain ⟨u0, u0'⟩ := hRs 0 _ rfl
      obtain ⟨u1, u1'⟩ := hRs 1 _ rfl
      obtain ⟨u2, u2'⟩ := hRs 2 _ rfl
      obtain ⟨u3, u3'⟩ := hRs 3 _ rfl
      obtain ⟨u4, u4'⟩ := hRs 4 _ rfl
      simp only [v0] at u0 u1 u2 u3 u4
      clear hR hRs HPu HLo HEl h0 h1 HX HG2 HR2 HB2 HS1 HO2'
      go_wp2_with fail
      change bodyPost _ _ _ _ _ (put5 (w1.alloc (.cells #[.int .i64 cd, .int .i64 0, .int .i64 0, .int .i64 0, .string ⟨#[]⟩] 80)) w.heap.size ⟨cd, 0, v0⟩)
      rw [← HW2.out]
      obtain ⟨W2, hW2⟩ : ∃ W2, W2 = put5 w2 w.heap.size ⟨cd, 0, v0⟩ := ⟨_, rfl⟩
      rw [← hW2] at HF HRd ⊢
      obtain ⟨g0, g1, g2, g3, g4⟩ := HF.out.cells
      simp only [v0] at g0 g1 g2 g3 g4
      clear hW2 x0 x1 x2 x3 x4 u0 u1 u2 u3 u4 u0' u1' u2' u3' u4'
      exact bodyPost_ret (v := .agg #[.int .i64 cd, .int .i64 0, .int .i64 0, .int .i64 0, .string e0]) (by simp [results, Tryz.results114, go_sem, g0, g1, g2, g3, g4]) rfl ⟨ret_v (by rw [HRe.out]; rfl), by rw [HRe.out]; exact HRd.out⟩
end Go.Proofs.YtbmdkibmfkmjoaaGreat.Ex

namespace Go.Proofs.YtbmdkibmfkmjoaaGreat.Ex
open Go.RowKit Go.Proofs.YtbmdkibmfkmjoaaGreat.BM Go.Proofs.YtbmdkibmfkmjoaaGreat.VaM Go.Proofs.YtbmdkibmfkmjoaaGreat.Va Go.Proofs.YtbmdkibmfkmjoaaGreat.ExM Go.Proofs.YtbmdkibmfkmjoaaGreat.EvM

set_option maxRecDepth 100000 in
set_option maxHeartbeats 4000000 in
theorem mayPart_any (x : O) (w : World) : Calls Tryz.prog 109 #[agO x] w fun e w' => e = .returned (.bool (decide (Ok x))) ∧ Below w.heap.size w w' := by
  obtain ⟨c, a, ⟨k, n, s⟩⟩ := x
  have hq := neq_v k n 0 0 s ⟨#[]⟩
  have hs : same ⟨k, n, s⟩ v0 = true ↔ (⟨k, n, s⟩ : V) = v0 := same_iff
  rw [show same ⟨k, n, s⟩ ⟨0, 0, ⟨#[]⟩⟩ = same ⟨k, n, s⟩ v0 from rfl] at hq
  obtain ⟨z, hz⟩ : ∃ z, z = same ⟨k, n, s⟩ v0 := ⟨_, rfl⟩
  rw [← hz] at hs
  simp only [← hz] at hq
  have HM := Lib.hid (May_any k n s)
  obtain ⟨m, hm⟩ : ∃ m, m = decide (VaM.May ⟨k, n, s⟩) := ⟨_, rfl⟩
  rw [← hm] at HM
  have hm' : m = true ↔ VaM.May ⟨k, n, s⟩ := by rw [hm, decide_eq_true_iff]
  have hok : Ok ⟨c, a, ⟨k, n, s⟩⟩ ↔ 0 ≤ c ∧ c < 10 ∧ 0 ≤ a ∧ a < 6 ∧ (c = 1 ∨ a = 0) ∧ m = true ∧ (c = 0 ∨ z = true) := by
    unfold Ok
    rw [hm', hs]
  obtain ⟨R, hR⟩ : ∃ R, R = decide (Ok ⟨c, a, ⟨k, n, s⟩⟩) := ⟨_, rfl⟩
  rw [← hR]
  have hr : R = true ↔ 0 ≤ c ∧ c < 10 ∧ 0 ≤ a ∧ a < 6 ∧ (c = 1 ∨ a = 0) ∧ m = true ∧ (c = 0 ∨ z = true) := by rw [hR, decide_eq_true_iff, hok]
  have hzm : z = true → m = true := fun h => by rw [hm']; rw [hs.1 h]; decide
  obtain ⟨o0', o1, o2, o3, o4⟩ := (bxO_new w ⟨c, a, ⟨k, n, s⟩⟩).cells
  simp only at o0' o1 o2 o3 o4
  have HB := Lib.hid ((Below.refl w.heap.size w).alloc (Nat.le_refl _) (.cells #[.int .i64 c, .int .i64 a, .int .i64 k, .int .i64 n, .string s] 80))
  unfold agO
  simp only
  clear hs hz hm hm' hok hR
  have hfalse : ¬ (0 ≤ c ∧ c < 10 ∧ 0 ≤ a ∧ a < 6 ∧ (c = 1 ∨ a = 0) ∧ m = true ∧ (c = 0 ∨ z = true)) → R = false := fun h => by
    cases R
    · rfl
    · exact absurd (hr.1 rfl) h
  have htrue := hr.2
  clear hr
  by_cases h1 : c < 0
  · have HR := Lib.hid (hfalse (by omega))
    have g1 : decide (c < 0) = true := decide_eq_true h1
    clear hfalse htrue h1 hzm hq
    go_enter Tryz.func109, Tryz.ntmps109
    go_wp2_with fail
    go_ret
    exact ⟨ret_v (x := .bool false) (by rw [HR.out]), HB.out⟩
  · have g1 : decide (c < 0) = false := decide_eq_false h1
    by_cases h2 : 10 ≤ c
    · have HR := Lib.hid (hfalse (by omega))
      have g2 : decide (10 ≤ c) = true := decide_eq_true h2
      clear hfalse htrue h1 h2 hzm hq
      go_enter Tryz.func109, Tryz.ntmps109
      go_wp2_with fail
      go_ret
      exact ⟨ret_v (x := .bool false) (by rw [HR.out]), HB.out⟩
    · have g2 : decide (10 ≤ c) = false := decide_eq_false h2
      by_cases h0 : c = 0
      · subst h0
        by_cases ha : a = 0
        · subst ha
          have HR := Lib.hid (show R = m from by
            cases m
            · exact hfalse (by simp)
            · exact htrue (by simp))
          clear hfalse htrue h1 h2 hzm hq g1 g2
          go_enter Tryz.func109, Tryz.ntmps109
          go_wp2_with fail
          refine (HM.out _).mono ?_
          rintro e w1 ⟨rfl, hb1⟩
          go_wp2_with fail
          go_ret
          exact ⟨ret_v (x := .bool m) (by rw [HR.out]), bt HB.out hb1⟩
        · have HR := Lib.hid (hfalse (by omega))
          have g3 : (a == 0) = false := by simpa using ha
          clear hfalse htrue h1 h2 hzm hq g1 g2 ha
          go_enter Tryz.func109, Tryz.ntmps109
          go_wp2_with fail
          go_ret
          exact ⟨ret_v (x := .bool false) (by rw [HR.out]), HB.out⟩
      · have g0 : (c == 0) = false := by simpa using h0
        cases z
        · have HR := Lib.hid (hfalse (by simp [h0]))
          clear hfalse htrue h1 h2 hzm h0
          go_enter Tryz.func109, Tryz.ntmps109
          go_wp2_with fail
          go_ret
          exact ⟨ret_v (x := .bool false) (by rw [HR.out]), HB.out⟩
        · have hm := hzm rfl
          by_cases hc1 : c = 1
          · subst hc1
            by_cases ha0 : 0 ≤ a
            · have g3 : decide (0 ≤ a) = true := decide_eq_true ha0
              have HR := Lib.hid (show R = decide (a < 6) from by
                by_cases h6 : a < 6
                · rw [decide_eq_true h6]
                  exact htrue ⟨by omega, by omega, ha0, h6, Or.inl rfl, hm, Or.inr rfl⟩
                · rw [decide_eq_false h6]
                  exact hfalse (by omega))
              clear hfalse htrue h1 h2 hzm h0 ha0 g0 g1 g2
              go_enter Tryz.func109, Tryz.ntmps109
              go_wp2_with fail
              go_ret
              exact ⟨ret_v (x := .bool (decide (a < 6))) (by rw [HR.out]), HB.out⟩
            · have g3 : decide (0 ≤ a) = false := decide_eq_false ha0
              have HR := Lib.hid (hfalse (by omega))
              clear hfalse htrue h1 h2 hzm h0 ha0 g0 g1 g2
              go_enter Tryz.func109, Tryz.ntmps109
              go_wp2_with fail
              go_ret
              exact ⟨ret_v (x := .bool false) (by rw [HR.out]), HB.out⟩
          · have g4 : (c == 1) = false := by simpa using hc1
            have HR := Lib.hid (show R = (a == 0) from by
              by_cases ha : a = 0
              · rw [beq_iff_eq.2 ha]
                exact htrue ⟨by omega, by omega, by omega, by omega, Or.inr ha, hm, Or.inr rfl⟩
              · rw [show (a == 0) = false from by simpa using ha]
                exact hfalse (by omega))
            clear hfalse htrue h1 h2 hzm h0 hc1
            go_enter Tryz.func109, Tryz.ntmps109
            go_wp2_with fail
            go_ret
            exact ⟨ret_v (x := .bool (a == 0)) (by rw [HR.out]), HB.out⟩

set_option maxRecDepth 100000 in
set_option maxHeartbeats 4000000 in
theorem may_own (l : List O) (A : Option Addr) (c : Nat) (w : World) (hS : SlO w A l c) :
    Calls Tryz.prog 98 #[.slice A l.length c] w fun e w' => e = .returned (.bool (decide (May l))) ∧ Below w.heap.size w w' := by
  have hl := slO_len hS
  have hno : 12 < l.length → ¬ May l := fun h k => by have := k.2; omega
  have hno1 : ∀ j, j < l.length → ¬ Ok (l.getD j o0) → ¬ May l := fun j hj h k => h (k.1 j hj)
  have hyes : l.length ≤ 12 → (∀ i, i < l.length → Ok (l.getD i o0)) → May l := fun h k => ⟨k, h⟩
  obtain ⟨n, hn⟩ : ∃ n, n = l.length := ⟨_, rfl⟩
  rw [← hn] at hl hno hno1 hyes ⊢
  have HS := Lib.hid hS
  have HN := Lib.hid hn
  have HNo := Lib.hid hno
  have HNo1 := Lib.hid hno1
  have HYes := Lib.hid hyes
  clear hS hn hno hno1 hyes
  by_cases h12 : n ≤ 12
  · have g1 : decide ((12 : Int) < (n : Int)) = false := by rw [decide_eq_false_iff_not]; omega
    have g2 : decide (12 < n) = false := by rw [decide_eq_false_iff_not]; omega
    go_enter Tryz.func98, Tryz.ntmps98
    go_wp2_with fail
    go_loopw [10] (fun i wr => ∃ j : Nat, i = .int .i64 j ∧ j ≤ n ∧ (∀ x, x < j → Ok (l.getD x o0)) ∧ Below w.heap.size w wr) (fun i _ => n - (intOf i).toNat)
    case atStart => exact ⟨0, rfl, Nat.zero_le _, fun x hx => absurd hx (Nat.not_lt_zero x), Below.refl _ _⟩
    case round =>
      obtain ⟨j, rfl, hj, hall, hbel⟩ := hrel
      have HAl := Lib.hid hall
      have HBl := Lib.hid hbel
      clear hall hbel
      by_cases hjn : j < n
      · obtain ⟨b1, q1, hix, hc, _⟩ := HS.out.at j (by rw [← HN.out]; exact hjn)
        have hi := fun W => hix W n c hjn
        obtain ⟨⟨oc, oa, ⟨k, m, s⟩⟩, hf⟩ : ∃ f, f = l.getD j o0 := ⟨_, rfl⟩
        rw [← hf] at hc
        obtain ⟨c0, c1, c2, c3, c4⟩ := hc wr HBl.out
        simp only at c0 c1 c2 c3 c4
        have HMp := Lib.hid (fun W => mayPart_any ⟨oc, oa, ⟨k, m, s⟩⟩ W)
        unfold agO at HMp
        simp only at HMp
        obtain ⟨o0', o1, o2, o3, o4⟩ := (bxO_new wr ⟨oc, oa, ⟨k, m, s⟩⟩).cells
        simp only at o0' o1 o2 o3 o4
        have HBa := Lib.hid (bt HBl.out ((Below.refl wr.heap.size wr).alloc (Nat.le_refl _) (.cells #[.int .i64 oc, .int .i64 oa, .int .i64 k, .int .i64 m, .string s] 80)))
        have HF := Lib.hid hf
        clear hix hc hf
        go_wp2_with fail
        refine (HMp.out _).mono ?_
        rintro e w3 ⟨rfl, hb3⟩
        have HB3 := Lib.hid (bt HBa.out hb3)
        clear hb3 c0 c1 c2 c3 c4 o0' o1 o2 o3 o4 hi HMp
        by_cases hok : Ok ⟨oc, oa, ⟨k, m, s⟩⟩
        · rw [decide_eq_true hok]
          have HSu := Lib.hid (show ∀ x, x < j + 1 → Ok (l.getD x o0) from fun x hx => by
            by_cases e : x = j
            · rw [e, ← HF.out]
              exact hok
            · exact HAl.out x (by omega))
          clear hok
          go_wp2_with fail
          go_roundw
          case rel => exact ⟨j + 1, by go_num, by omega, HSu.out, HB3.out⟩
          case measure => simp [intOf]; omega
        · rw [decide_eq_false hok]
          have HNm := Lib.hid (HNo1.out j hjn (by rw [← HF.out]; exact hok))
          clear hok
          go_wp2_with fail
          go_ret
          exact ⟨ret_v (x := .bool false) (by rw [decide_eq_false HNm.out]), HB3.out⟩
      · obtain rfl : j = n := by omega
        have HY := Lib.hid (HYes.out h12 HAl.out)
        go_wp2_with fail
        go_ret
        exact ⟨ret_v (x := .bool true) (by rw [decide_eq_true HY.out]), HBl.out⟩
  · have g1 : decide ((12 : Int) < (n : Int)) = true := by rw [decide_eq_true_iff]; omega
    have g2 : decide (12 < n) = true := by rw [decide_eq_true_iff]; omega
    have HN := Lib.hid (HNo.out (by omega))
    go_enter Tryz.func98, Tryz.ntmps98
    go_wp2_with fail
    go_ret
    exact ⟨ret_v (x := .bool false) (by rw [decide_eq_false HN.out]), Below.refl _ _⟩
end Go.Proofs.YtbmdkibmfkmjoaaGreat.Ex

namespace Go.Proofs.YtbmdkibmfkmjoaaGreat.Ex
open Go.RowKit Go.Proofs.YtbmdkibmfkmjoaaGreat.BM Go.Proofs.YtbmdkibmfkmjoaaGreat.LM Go.Proofs.YtbmdkibmfkmjoaaGreat.LeM Go.Proofs.YtbmdkibmfkmjoaaGreat.EvM Go.Proofs.YtbmdkibmfkmjoaaGreat.ExM
open Go.Proofs.YtbmdkibmfkmjoaaGreat.VaM (V Rng e0)
open Go.Proofs.YtbmdkibmfkmjoaaGreat.Va (Bx Bx2 bx2_new ret_v)
open Go.Proofs.YtbmdkibmfkmjoaaGreat.Sc (Rdd grown_set grown_trans)
open Go.Proofs.YtbmdkibmfkmjoaaGreat.ScM (Rs rNum rNum_le rNum_left)

set_option maxRecDepth 100000 in
set_option maxHeartbeats 8000000 in
theorem GetF_any (A : Option Addr) (xs : List Int) (c : Nat) (w : World) (h : SlB w A xs c) :
    Calls Tryz.prog 103 #[.slice A xs.length c] w (GotsF xs w) := by
  have hrd := gL_read h.1.1
  have hsm := h.2.1
  have hmx := h.2.2.2
  unfold maxLen at hmx
  have HX := Lib.hid (fun W (g : Below w.heap.size w W) => h.kept g)
  have ha0 := (Below.refl w.heap.size w).alloc (Nat.le_refl _) (.cells #[.slice A xs.length c, .bool false] 142)
  have HB1 := Lib.hid ha0
  have hr1 := bx2_new w 142 (.slice A xs.length c) (.bool false)
  obtain ⟨w1, hw1⟩ : ∃ w1, w1 = w.alloc (.cells #[.slice A xs.length c, .bool false] 142) := ⟨_, rfl⟩
  have hs1 : w1.heap.size = w.heap.size + 1 := by rw [hw1]; simp
  rw [← hw1] at HB1 hr1
  have hnum := number_own w.heap.size A xs c false 12 w1 hr1 (HX.out w1 HB1.out) (by omega)
  have hxe : rExpr xs = rParts (rNum 12 (xs, false)).1 (rNum 12 (xs, false)).2 := rfl
  have hnle := rNum_le 12 (xs, false)
  have hyx := rNum_left 12 (xs, false)
  have hyb : ∀ x ∈ (rNum 12 (xs, false)).2.1, (0 : Int) ≤ x ∧ x < 256 := rNum_bytes h.1.1
  obtain ⟨⟨n, ys, s1⟩, hr⟩ : ∃ r, r = rNum 12 (xs, false) := ⟨_, rfl⟩
  rw [← hr] at hnum hxe hnle hyb hyx
  simp only at hnum hxe hnle hyb hyx
  obtain ⟨R, hR⟩ : ∃ R : Nat → List O × Rs, R = fun j => rParts j (ys, s1) := ⟨_, rfl⟩
  have hR0 : R 0 = ([], (ys, s1)) := by rw [hR]; rfl
  have hRs : ∀ j, R (j + 1) = ((R j).1 ++ [(rPart (R j).2).1], (rPart (R j).2).2) := fun j => by rw [hR]; rfl
  have hRg : ∀ j, (R j).1.length = j ∧ (∀ x ∈ (R j).1, Fin x) ∧ (∀ x ∈ (R j).2.1, (0 : Int) ≤ x ∧ x < 256) ∧ (R j).2.1.length ≤ ys.length := fun j => by rw [hR]; exact rParts_good j hyb
  have hRe : rExpr xs = R n := by rw [hxe, hR]
  rw [hRe] at hrd
  have HNum := Lib.hid hnum
  have HRd := Lib.hid hrd
  have HR0 := Lib.hid hR0
  have HRs := Lib.hid hRs
  have HRg := Lib.hid hRg
  have HW1 := Lib.hid hw1
  have HS1 := Lib.hid hs1
  obtain ⟨xn, hxn⟩ : ∃ n, n = xs.length := ⟨_, rfl⟩
  unfold GotsF
  obtain ⟨G, hG⟩ : ∃ G, G = gotL (gL xs) := ⟨_, rfl⟩
  rw [← hG] at HRd ⊢
  rw [← hxn] at HRd HW1 hsm hyx ⊢
  have HXn := Lib.hid hxn
  clear h hrd ha0 hr1 hw1 hs1 hnum hxe hr hR hR0 hRs hRg hRe hyb hG hxn
  go_enter Tryz.func103, Tryz.ntmps103
  go_wp2_with fail
  rw [← HW1.out]
  refine HNum.out.mono ?_
  rintro e w2 ⟨rfl, hg2, A2, c2, hb2, hs2⟩
  have HB2 := Lib.hid (HB1.out.grown hg2 HB1.out.size (fun k e => by injection e with e; omega))
  have HSl2 := Lib.hid hs2
  have HBx2 := Lib.hid hb2
  have HZ2 := Lib.hid (show w.heap.size + 1 ≤ w2.heap.size from by have := hg2.size; have := HS1.out; omega)
  clear hg2 hb2 hs2 HNum HW1
  go_wp2_with fail
  go_loopw [6, 10] (fun u i wr => ∃ (j : Nat) (A' : Option Addr) (c' : Nat), i = .int .i64 j ∧ j ≤ n ∧ Bx2 wr w.heap.size (.slice A' (R j).2.1.length c') (.bool (R j).2.2) ∧ (∀ W, SlB W A xs c → SlB W A' (R j).2.1 c') ∧ wr.ownsRow (w.heap.size + 1) 80 5 u j ((R j).1.flatMap encO) ∧ Below w.heap.size w wr ∧ w.heap.size + 1 ≤ wr.heap.size) (fun _ i _ => n - (intOf i).toNat)
  case atStart =>
    refine ⟨0, A2, c2, rfl, Nat.zero_le _, ?_, ?_, ?_, HB2.out, HZ2.out⟩
    · rw [HR0.out]
      exact HBx2.out
    · rw [HR0.out]
      exact HSl2.out
    · rw [HR0.out]
      exact World.ownsRow_nil _ _ _ _
  case round =>
    obtain ⟨j, A', c', rfl, hj, hbx, hsl, hown, hbel, hsz⟩ := hrel
    have HSl := Lib.hid hsl
    have HBl := Lib.hid hbel
    have HO := Lib.hid hown
    have HBx := Lib.hid hbx
    have hfn := (HRg.out j).2.2.1
    have hln := (HRg.out j).2.2.2
    clear hsl hbel hown hbx HBx2 HSl2 HB2 HZ2
    by_cases hjn : j < n
    · have hRj := HRs.out j
      have hgd := rPart_good (r := (R j).2) hfn
      have hpart := part_own w.heap.size A' (R j).2.1 c' (R j).2.2 wr HBx.out (fun W hg => HSl.out W (HX.out W (HBl.out.grown hg HBl.out.size (fun k e => by injection e with e; omega))))
      obtain ⟨⟨l, qs, sq⟩, hRd⟩ : ∃ r, r = R j := ⟨_, rfl⟩
      rw [← hRd] at hRj hpart HO hgd HSl
      simp only at hRj hpart HO hgd HSl
      obtain ⟨⟨o, q2, t2⟩, hr1⟩ : ∃ r, r = rPart (qs, sq) := ⟨_, rfl⟩
      rw [← hr1] at hpart hRj hgd
      simp only at hpart hRj hgd
      have hfo := hgd.1
      have HRj := Lib.hid hRj
      have HPt := Lib.hid hpart
      unfold agO at HPt
      clear hRj hpart hRd hr1 HBx hfn hgd hln
      go_wp2_with fail
      refine HPt.out.mono ?_
      rintro e w3 ⟨rfl, hg3, A3, c3, hb3, hs3⟩
      have hb3' : Below w.heap.size w w3 := HBl.out.grown hg3 HBl.out.size (fun k e => by injection e with e; omega)
      have ha4 := (Below.refl w3.heap.size w3).alloc (Nat.le_refl _) (.cells #[.int .i64 o.c, .int .i64 o.a, .int .i64 o.v.k, .int .i64 o.v.n, .string o.v.s] 80)
      have HN4 := Lib.hid (slO_1 w3 o hfo)
      have HO4 := Lib.hid (RegA.own_below (HO.out.kept hg3 (Or.inr (fun e => by have := (HO.out.lt _ e).1; omega))) ha4)
      have HB4 := Lib.hid (bt hb3' ha4)
      have HBx4 := Lib.hid (hb3.kept ha4)
      have HS4 := Lib.hid (fun W (h : SlB W A xs c) => hs3 W (HSl.out W h))
      have hsz4 : w.heap.size + 1 ≤ (w3.alloc (.cells #[.int .i64 o.c, .int .i64 o.a, .int .i64 o.v.k, .int .i64 o.v.n, .string o.v.s] 80)).heap.size := Nat.le_trans hsz (Nat.le_trans hg3.size ha4.size)
      have HSz := Lib.hid hsz4
      obtain ⟨oc, oa, ⟨ok, on, os⟩⟩ := o
      simp only at HN4 HO4 HB4 HBx4 HSz
      clear hg3 hb3 hs3 hb3' ha4 hfo HPt HO HSl hsz4
      go_wp2_with (at_builtin; refine wp_append_o rfl (.tmp 12) (.tmp 14) rfl (w.heap.size + 1) _ j l rfl HO4.out (some ⟨w3.heap.size, 0, none⟩) 1 1 [⟨oc, oa, ⟨ok, on, os⟩⟩] rfl rfl HN4.out (by omega) HSz.out ?_; intro u5 w5 hown5 hgrow5; refine pause ?_)
      have HBx5 := Lib.hid (HBx4.out.grown hgrow5 (fun e => by have := (HO4.out.lt _ e.symm).1; omega))
      have HB5 := Lib.hid (HB4.out.grown hgrow5 HB4.out.size (fun k hk => by have := (HO4.out.lt k hk).1; omega))
      have HO5 := Lib.hid hown5
      have HSz5 := Lib.hid (Nat.le_trans HSz.out hgrow5.size)
      clear hown5 hgrow5
      unfold Pause
      go_wp2_with fail
      go_roundw
      case rel =>
        refine ⟨j + 1, A3, c3, by go_num, by omega, ?_, ?_, ?_, HB5.out, HSz5.out⟩
        · rw [HRj.out]
          exact HBx5.out
        · rw [HRj.out]
          exact HS4.out
        · rw [HRj.out]
          exact HO5.out
      case measure => simp [intOf]; omega
    · obtain rfl : j = n := by omega
      obtain ⟨hl1, hl2, _, _⟩ := HRg.out j
      obtain ⟨⟨l, qs, sq⟩, hRd⟩ : ∃ r, r = R j := ⟨_, rfl⟩
      rw [← hRd] at HBx HO hl1 hl2 HRd hln
      simp only at HBx HO hl1 hl2 HRd hln
      obtain ⟨Al, cl, rfl, hjl, hsl, hfar⟩ := own_slO HO.out hl2
      have HFar := Lib.hid (fun a ha => Nat.le_of_succ_le (hfar a ha).1 : ∀ a, Al = some a → w.heap.size ≤ a.block)
      clear hjl hfar
      have HSo := Lib.hid hsl
      have HMy := Lib.hid (may_own l Al cl wr hsl)
      rw [hl1] at HMy
      obtain ⟨m, hm⟩ : ∃ m, m = qs.length := ⟨_, rfl⟩
      rw [← hm] at HBx HRd hln
      have HL1 := Lib.hid hl1
      obtain ⟨⟨p0, p1⟩, _⟩ := HBx.out
      rw [hl1]
      clear hRd hsl hl1 hl2 hm HO HSl hfn
      cases sq
      · go_wp2_with fail
        refine HMy.out.mono ?_
        rintro e w3 ⟨rfl, hb3⟩
        have HB3 := Lib.hid (bt HBl.out hb3)
        have HBx3 := Lib.hid (HBx.out.kept hb3)
        have HSo3 := Lib.hid (HSo.out.kept hb3)
        obtain ⟨⟨p0', p1'⟩, _⟩ := HBx3.out
        clear hb3 p0 p1 HMy
        by_cases hmy : May l
        · rw [decide_eq_true hmy]
          have HGe := Lib.hid (show G = (l, xn - m, true) from by rw [HRd.out, if_pos ⟨trivial, hmy⟩])
          clear hmy HRd
          go_wp2_with fail
          go_quiet (fail)
          go_wp2_with fail
          go_ret3
          have hd := below_drewN (Below.refl w3.heap.size w3) nq
          exact ⟨Al, cl, ret_v (x := .tuple #[.slice Al j cl, .int .i64 ((xn : Int) - m), .bool true]) (by rw [HGe.out]; simp only [HL1.out]; rw [show ((xn - m : Nat) : Int) = (xn : Int) - m from by omega]), by rw [HGe.out]; exact HSo3.out.kept hd, bt HB3.out hd, HFar.out⟩
        · rw [decide_eq_false hmy]
          have HGe := Lib.hid (show G = ([], 0, false) from by rw [HRd.out, if_neg (fun h => hmy h.2)])
          clear hmy HRd
          go_wp2_with fail
          go_ret3
          exact ⟨none, 0, ret_v (x := .tuple #[.slice none 0 0, .int .i64 0, .bool false]) (by rw [HGe.out]; rfl), by rw [HGe.out]; exact slO_none _, HB3.out, fun a ha => by cases ha⟩
      · have HGe := Lib.hid (show G = ([], 0, false) from by rw [HRd.out, if_neg (fun h => by cases h.1)])
        go_wp2_with fail
        go_ret3
        exact ⟨none, 0, ret_v (x := .tuple #[.slice none 0 0, .int .i64 0, .bool false]) (by rw [HGe.out]; rfl), by rw [HGe.out]; exact slO_none _, HBl.out, fun a ha => by cases ha⟩
theorem Get_any (A : Option Addr) (xs : List Int) (c : Nat) (w : World) (h : SlB w A xs c) :
    Calls Tryz.prog 103 #[.slice A xs.length c] w (Gots xs w) := (GetF_any A xs c w h).mono fun _ _ g => gots_of g
end Go.Proofs.YtbmdkibmfkmjoaaGreat.Ex
