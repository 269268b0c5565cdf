/-
  EventTells: for every input the law returns true, and each argument reads afterwards as it read before. No condition.
  The walk is the theorem Go.Proofs.Ytbakhodijhacoaa.Ev.tells_walk.
-/
import Derived.Test.YtbakhodijhacoaaLeZig
import Derived.Test.YtbakhodijhacoaaValueGet
import Derived.Test.YtbakhodijhacoaaValueRefMay
import Derived.Test.YtbakhodijhacoaaLeRefGet
import Derived.Test.YtbakhodijhacoaaEventGet
import Derived.Test.YtbakhodijhacoaaSchemaRefRead
import Derived.Test.YtbakhodijhacoaaBys
import Derived.Test.YtbakhodijhacoaaLeRefs
import Derived.Test.YtbakhodijhacoaaValuePut
import Derived.Test.YtbakhodijhacoaaRegAppend
import Derived.Test.YtbakhodijhacoaaEventPut
import Derived.Test.YtbakhodijhacoaaValueBox
import Derived.OpenShut
import Derived.Test.YtbakhodijhacoaaEventMath
import Derived.Test.YtbakhodijhacoaaValueRow
import Derived.BigQuiet
import Derived.Deep.QuietTactic
import Derived.Test.YtbakhodijhacoaaSchemaMay
import Derived.Test.YtbakhodijhacoaaEventValid
import Derived.Test.YtbakhodijhacoaaRows
import Derived.Test.YtbakhodijhacoaaEventMay
import Derived.Lib.SmallJoins
import Derived.Deep.Slices
import Derived.ShutString
import Derived.Test.YtbakhodijhacoaaSchemaRow
import Derived.Test.YtbakhodijhacoaaEventAwake
import Derived.Test.YtbakhodijhacoaaEventFew
import Derived.Test.YtbakhodijhacoaaSchemaFew
import Derived.Test.YtbakhodijhacoaaBMem
import Derived.ProofKit
import Derived.WalkKit
import Derived.ChangeOld
import Derived.Below
namespace Go.Proofs.Ytbakhodijhacoaa.LeZ
open Go.RowKit Go.Proofs.Ytbakhodijhacoaa.BM

theorem refZig_any (n : Int) (w : World) (h0 : -9223372036854775808 ≤ n) (h1 : n ≤ 9223372036854775807) :
    Calls Try.prog 48 #[.int .i64 n] w fun e w' => e = .returned (.int .u64 (zig n)) ∧ w = w' := by
  by_cases h : n < 0
  · go_enter Try.func48, Try.ntmps48
    go_wp2
    go_ret
    refine ⟨ret_int ?_, rfl⟩
    simp only [zig]
    rw [if_pos (by omega)]
    omega
  · go_enter Try.func48, Try.ntmps48
    go_wp2
    go_ret
    refine ⟨ret_int ?_, rfl⟩
    simp only [zig]
    rw [if_neg (by omega)]

theorem refZag_any (n : Int) (w : World) (h0 : 0 ≤ n) (h1 : n ≤ 18446744073709551615) :
    Calls Try.prog 51 #[.int .u64 n] w fun e w' => e = .returned (.int .i64 (zag n)) ∧ w = w' := by
  by_cases h : n % 2 = 1
  · have h2 : ¬ n % 2 = 0 := by omega
    go_enter Try.func51, Try.ntmps51
    go_wp2
    go_ret
    refine ⟨ret_int ?_, rfl⟩
    simp only [zag]
    rw [if_pos h]
  · have h2 : n % 2 = 0 := by omega
    go_enter Try.func51, Try.ntmps51
    go_wp2
    go_ret
    refine ⟨ret_int ?_, rfl⟩
    simp only [zag]
    rw [if_neg (by omega)]
end Go.Proofs.Ytbakhodijhacoaa.LeZ

namespace Go.Proofs.Ytbakhodijhacoaa.Va
open Go.RowKit Go.Proofs.Ytbakhodijhacoaa.BM Go.Proofs.Ytbakhodijhacoaa.LM Go.Proofs.Ytbakhodijhacoaa.LeM Go.Proofs.Ytbakhodijhacoaa.LeZ Go.Proofs.Ytbakhodijhacoaa.VaM

set_option maxRecDepth 100000 in
theorem refGet_nil (A : Option Addr) (c : Nat) (w : World) : Calls Try.prog 34 #[.slice A 0 c] w (Gots [] w) := by
  go_enter Try.func34, Try.ntmps34
  go_wp2_with fail
  obtain ⟨⟨r0, r1, r2⟩, _⟩ := bx_new w (.int .i64 0) (.int .i64 0) (.string ⟨#[]⟩)
  exact bodyPost_ret (v := .tuple #[.agg #[.int .i64 0, .int .i64 0, .string ⟨#[]⟩], .int .i64 0, .bool false]) (by simp [results, Try.results34, go_sem]) rfl ⟨rfl, (Below.refl _ _).alloc (Nat.le_refl _) _⟩

set_option maxRecDepth 100000 in
theorem refGet_no (A : Option Addr) (k : Int) (t : List Int) (c : Nat) (w : World) (h : SlB w A (k :: t) c) (hg : getS t = none) : Calls Try.prog 34 #[.slice A (k :: t).length c] w (Gots (k :: t) w) := by
  have hm := h.2.2.2
  have hc := h.2.1
  unfold maxLen at hm
  rw [List.length_cons] at hc ⊢
  have hB := (Below.refl w.heap.size w).alloc (Nat.le_refl _) (.cells #[.int .i64 0, .int .i64 0, .string ⟨#[]⟩] 44)
  have hr : gotP (getP (k :: t)) = (⟨0, 0, e0⟩, 0, false) := by
    rw [show getP (k :: t) = getB k t (getS t) from rfl, hg]
    rfl
  have hsl := fun W => slice_1 W A t.length c
  obtain ⟨D, hD⟩ : ∃ D, D = dropA A 1 c := ⟨_, rfl⟩
  have hd := (Cut.slB_drop h 1 (by simp)).kept hB
  rw [← hD] at hsl hd
  have hGet := LeG.refGet_any D t (c - 1) _ hd.2.1 (by omega) hd.1
  rw [hg] at hGet
  have HG := Lib.hid hGet
  have HR := Lib.hid hr
  have HX := Lib.hid (bx_new w (.int .i64 0) (.int .i64 0) (.string ⟨#[]⟩))
  obtain ⟨L, hL⟩ : ∃ L, L = t.length := ⟨_, rfl⟩
  rw [← hL] at hsl HG hc ⊢
  have HB := Lib.hid hB
  clear hB hr hD hd hGet hg hL h
  go_enter Try.func34, Try.ntmps34
  go_wp2_with fail
  refine HG.out.mono ?_
  rintro e w1 ⟨rfl, hb1⟩
  simp only [LeG.gotV]
  have hx := HX.out.kept hb1
  have hst := bx_store hx (.int .i64 0) (.int .i64 0) (.string ⟨#[]⟩)
  obtain ⟨⟨r0, r1, r2⟩, _⟩ := hst
  have R0 := Lib.hid r0
  have R1 := Lib.hid r1
  have R2 := Lib.hid r2
  have HF := Lib.hid (stored3 (bt HB.out hb1) (Nat.le_refl _) (.int .i64 0) (.int .i64 0) (.string ⟨#[]⟩))
  obtain ⟨⟨p0, p1, p2⟩, p3, p4, p5⟩ := hx
  clear r0 r1 r2 hb1
  go_wp2_with fail
  obtain ⟨W2, hW2⟩ : ∃ W2, W2 = ((w1.setCell ⟨w.heap.size, 0, none⟩ (.int .i64 0)).setCell ⟨w.heap.size, 1, none⟩ (.int .i64 0)).setCell ⟨w.heap.size, 2, none⟩ (.string ⟨#[]⟩) := ⟨_, rfl⟩
  rw [← hW2] at HF R0 R1 R2 ⊢
  have r0 := R0.out
  have r1 := R1.out
  have r2 := R2.out
  clear hW2 p0 p1 p2 p3 p4 p5
  exact bodyPost_ret (v := .tuple #[.agg #[.int .i64 0, .int .i64 0, .string ⟨#[]⟩], .int .i64 0, .bool false]) (by simp [results, Try.results34, go_sem, r0, r1, r2]) rfl ⟨ret_v (by rw [HR.out]; rfl), HF.out⟩

set_option maxRecDepth 100000 in
set_option maxHeartbeats 2000000 in
theorem refGet_yes (A : Option Addr) (b o : Nat) (hA : A = some ⟨b, o, none⟩) (k : Int) (t : List Int) (c : Nat) (w : World) (h : SlB w A (k :: t) c) (n u : Nat) (hg : getS t = some (n, u)) : Calls Try.prog 34 #[.slice A (k :: t).length c] w (Gots (k :: t) w) := by
  have hm := h.2.2.2
  have hc := h.2.1
  unfold maxLen at hm
  rw [List.length_cons] at hc ⊢
  have htb : ∀ x ∈ t, (0 : Int) ≤ x ∧ x < 256 := fun x hx => h.1.1 x (List.mem_cons_of_mem _ hx)
  have hk := h.1.1 k (by simp)
  obtain ⟨hn, hu, hpu⟩ := (getS_iff t htb n u).1 hg
  have hu10 : u ≤ 10 := by
    have h10 := putL_len64 hn
    rw [hpu, List.length_take] at h10
    omega
  clear hpu
  have hB := (Below.refl w.heap.size w).alloc (Nat.le_refl _) (.cells #[.int .i64 0, .int .i64 0, .string ⟨#[]⟩] 44)
  have hr := getP_read (k := k) hg hn
  have hsl := fun W => slice_1 W A t.length c
  have hd := (Cut.slB_drop h 1 (by simp)).kept hB
  have hcell : w.cell? ⟨b, o, none⟩ = some (.int .u8 k) := by
    rw [hA] at h
    have h0 := isB_cell h.1 0 (by simp)
    rw [Nat.add_zero, List.getD_cons_zero] at h0
    exact h0
  have hix : ∀ W, (Instr.indexAt 28 (.slice A (t.length + 1) c) (.int .i64 0)).run Try.prog W = .ok (.pointer (some ⟨b, o, none⟩)) W := fun W => by
    rw [hA]
    exact index_0 W b o _ c (by omega)
  obtain ⟨D, hD⟩ : ∃ D, D = dropA A 1 c := ⟨_, rfl⟩
  rw [← hD] at hsl hd
  have hGet := LeG.refGet_any D t (c - 1) _ hd.2.1 (by omega) hd.1
  rw [hg] at hGet
  have HG := Lib.hid hGet
  have HS := Lib.hid h
  obtain ⟨L, hL⟩ : ∃ L, L = t.length := ⟨_, rfl⟩
  have HL := Lib.hid hL
  rw [← hL] at hsl HG hc hu ⊢
  simp only [← hL] at hix
  have HR := Lib.hid hr
  have HC := Lib.hid hcell
  have HX := Lib.hid (bx_new w (.int .i64 0) (.int .i64 0) (.string ⟨#[]⟩))
  have HB := Lib.hid hB
  clear hA hB hr hD hd hGet hg hL h hcell htb
  go_enter Try.func34, Try.ntmps34
  go_wp2_with fail
  refine HG.out.mono ?_
  rintro e w1 ⟨rfl, hb1⟩
  simp only [LeG.gotV]
  have HB1 := Lib.hid (bt HB.out hb1)
  have HX1 := Lib.hid (HX.out.kept hb1)
  have hc1 : w1.cell? ⟨b, o, none⟩ = some (.int .u8 k) := by
    rw [HB1.out.cell (World.block_lt_of_cell? w _ HC.out)]
    exact HC.out
  clear HG hb1 HB HX HC
  by_cases k0 : k = 0
  · subst k0
    have HZ := Lib.hid (fun W => refZag_any (n : Int) W (by omega) (by omega))
    go_wp2_with fail
    refine (HZ.out _).mono ?_
    rintro e w2 ⟨rfl, rfl⟩
    go_wp2_with fail
    have HB5 := Lib.hid ((Below.refl w1.heap.size w1).alloc (Nat.le_refl _) (.cells #[.int .i64 0, .int .i64 (zag n), .string ⟨#[]⟩] 44))
    have HBk := Lib.hid (bx_new w1 (.int .i64 0) (.int .i64 (zag n)) (.string ⟨#[]⟩))
    obtain ⟨bk, hbk⟩ : ∃ bk, bk = w1.heap.size := ⟨_, rfl⟩
    obtain ⟨w5, hw5⟩ : ∃ w5, w5 = w1.alloc (.cells #[.int .i64 0, .int .i64 (zag n), .string ⟨#[]⟩] 44) := ⟨_, rfl⟩
    rw [← hw5] at HBk HB5 ⊢
    rw [← hbk] at HBk ⊢
    obtain ⟨⟨q0, q1, q2⟩, _⟩ := HBk.out
    clear hbk hw5 hc1
    go_wp2_with fail
    refine (refMay_any 0 (zag n) e0 _).mono ?_
    rintro e w6 ⟨rfl, hb6⟩
    have hx := HX1.out.kept (bt HB5.out hb6)
    have HBB := Lib.hid (bt HB5.out hb6)
    have HBk6 := Lib.hid (HBk.out.kept hb6)
    clear q0 q1 q2 hb6 HB5 HBk
    by_cases hmay : May ⟨0, (zag n), e0⟩
    · rw [decide_eq_true hmay]
      have HN := Lib.hid (show gotP (getP (0 :: t)) = (⟨0, (zag n), e0⟩, 1 + u + 0, true) from by rw [HR.out, if_pos ⟨by first | exact rfl | exact trivial, hmay⟩]; rfl)
      have hst := bx_store hx (.int .i64 0) (.int .i64 (zag n)) (.string ⟨#[]⟩)
      obtain ⟨⟨r0, r1, r2⟩, _⟩ := hst
      have R0 := Lib.hid r0
      have R1 := Lib.hid r1
      have R2 := Lib.hid r2
      have HF := Lib.hid (stored3 (bt HB1.out HBB.out) (Nat.le_refl _) (.int .i64 0) (.int .i64 (zag n)) (.string ⟨#[]⟩))
      obtain ⟨⟨p0, p1, p2⟩, p3, p4, p5⟩ := hx
      obtain ⟨⟨q0, q1, q2⟩, _⟩ := HBk6.out
      clear r0 r1 r2 hmay
      go_wp2_with fail
      obtain ⟨W2, hW2⟩ : ∃ W2, W2 = ((w6.setCell ⟨w.heap.size, 0, none⟩ (.int .i64 0)).setCell ⟨w.heap.size, 1, none⟩ (.int .i64 (zag n))).setCell ⟨w.heap.size, 2, none⟩ (.string ⟨#[]⟩) := ⟨_, rfl⟩
      rw [← hW2] at HF R0 R1 R2 ⊢
      have r0 := R0.out
      have r1 := R1.out
      have r2 := R2.out
      clear hW2 p0 p1 p2 p3 p4 p5 q0 q1 q2
      have hcast : ((1 + u + 0 : Nat) : Int) = 1 + (u : Int) := by omega
      exact bodyPost_ret (v := .tuple #[.agg #[.int .i64 0, .int .i64 (zag n), .string ⟨#[]⟩], .int .i64 (1 + (u : Int)), .bool true]) (by simp [results, Try.results34, go_sem, r0, r1, r2]) rfl ⟨ret_v (by rw [HN.out, got3]; simp only [hcast] <;> rfl), HF.out⟩
    · rw [decide_eq_false hmay]
      have HN := Lib.hid (show gotP (getP (0 :: t)) = (⟨0, 0, e0⟩, 0, false) from by rw [HR.out, if_neg (fun h => hmay h.2)]; rfl)
      clear hmay
      have hst := bx_store hx (.int .i64 0) (.int .i64 0) (.string ⟨#[]⟩)
      obtain ⟨⟨r0, r1, r2⟩, _⟩ := hst
      have R0 := Lib.hid r0
      have R1 := Lib.hid r1
      have R2 := Lib.hid r2
      have HF := Lib.hid (stored3 (bt HB1.out HBB.out) (Nat.le_refl _) (.int .i64 0) (.int .i64 0) (.string ⟨#[]⟩))
      obtain ⟨⟨p0, p1, p2⟩, p3, p4, p5⟩ := hx
      clear r0 r1 r2
      go_wp2_with fail
      obtain ⟨W2, hW2⟩ : ∃ W2, W2 = (((w6).setCell ⟨w.heap.size, 0, none⟩ (.int .i64 0)).setCell ⟨w.heap.size, 1, none⟩ (.int .i64 0)).setCell ⟨w.heap.size, 2, none⟩ (.string ⟨#[]⟩) := ⟨_, rfl⟩
      rw [← hW2] at HF R0 R1 R2 ⊢
      have r0 := R0.out
      have r1 := R1.out
      have r2 := R2.out
      clear hW2 p0 p1 p2 p3 p4 p5
      exact bodyPost_ret (v := .tuple #[.agg #[.int .i64 0, .int .i64 0, .string ⟨#[]⟩], .int .i64 0, .bool false]) (by simp [results, Try.results34, go_sem, r0, r1, r2]) rfl ⟨ret_v (by rw [HN.out]; rfl), HF.out⟩
  · by_cases k2 : k = 2
    · subst k2
      by_cases h40 : n ≤ 40
      · have hw : wrap64 (n : Int) = n := IntWalk.wrap64_in _ (by omega)
        by_cases hfit : n ≤ L - u
        · have hs2 := fun W => Cut.slice_2 W A (L + 1) c (1 + u) (1 + u + n) (by omega) (by omega)
          have hcut := ((Cut.slB_cut HS.out (1 + u) (1 + u + n) c (by omega) (by omega) (Nat.le_refl _) (by rw [List.length_cons, ← HL.out]; omega)).kept HB1.out).kept ((Below.refl w1.heap.size w1).alloc (Nat.le_refl _) (.cells #[.int .i64 2, .int .i64 0, .string ⟨#[]⟩] 44))
          have hcv := conv_any hcut.1 (c - (1 + u)) 9 Try.underlying9
          have hln : ((List.drop (1 + u) (2 :: t)).take (1 + u + n - (1 + u))).length = n := by rw [List.length_take, List.length_drop, List.length_cons, ← HL.out]; omega
          rw [hln] at hcv
          rw [show (List.drop (1 + u) (2 :: t)).take (1 + u + n - (1 + u)) = (t.drop u).take n from by rw [Nat.add_comm 1 u, List.drop_succ_cons]; congr 1; omega] at hcv
          simp only [show 1 + u + n - (1 + u) = n from by omega, show ((1 + u : Nat) : Int) = 1 + (u : Int) from by omega, show ((1 + u + n : Nat) : Int) = 1 + (u : Int) + (n : Int) from by omega] at hs2
          have hrd : rdV 2 n (t.drop u) = (⟨2, 0, strOfNums ((t.drop u).take n)⟩, n, true) := by rw [rdV, if_neg k0, if_pos rfl, if_pos ⟨h40, by rw [List.length_drop, ← HL.out]; exact hfit⟩]
          rw [hrd] at HR
          clear hrd
          obtain ⟨S, hS⟩ : ∃ S, S = strOfNums ((t.drop u).take n) := ⟨_, rfl⟩
          rw [← hS] at hcv HR
          obtain ⟨E, hE⟩ : ∃ E, E = dropA A (1 + u) c := ⟨_, rfl⟩
          rw [← hE] at hcv
          simp only [← hE] at hs2
          clear hS hE hcut hln
          go_wp2_with fail
          have HB5 := Lib.hid ((Below.refl w1.heap.size w1).alloc (Nat.le_refl _) (.cells #[.int .i64 2, .int .i64 0, .string S] 44))
          have HBk := Lib.hid (bx_new w1 (.int .i64 2) (.int .i64 0) (.string S))
          obtain ⟨bk, hbk⟩ : ∃ bk, bk = w1.heap.size := ⟨_, rfl⟩
          obtain ⟨w5, hw5⟩ : ∃ w5, w5 = w1.alloc (.cells #[.int .i64 2, .int .i64 0, .string S] 44) := ⟨_, rfl⟩
          rw [← hw5] at HBk HB5 ⊢
          rw [← hbk] at HBk ⊢
          obtain ⟨⟨q0, q1, q2⟩, _⟩ := HBk.out
          clear hbk hw5 hc1
          go_wp2_with fail
          refine (refMay_any 2 0 S _).mono ?_
          rintro e w6 ⟨rfl, hb6⟩
          have hx := HX1.out.kept (bt HB5.out hb6)
          have HBB := Lib.hid (bt HB5.out hb6)
          have HBk6 := Lib.hid (HBk.out.kept hb6)
          clear q0 q1 q2 hb6 HB5 HBk
          by_cases hmay : May ⟨2, 0, S⟩
          · rw [decide_eq_true hmay]
            have HN := Lib.hid (show gotP (getP (2 :: t)) = (⟨2, 0, S⟩, 1 + u + n, true) from by rw [HR.out, if_pos ⟨by first | exact rfl | exact trivial, hmay⟩]; rfl)
            have hst := bx_store hx (.int .i64 2) (.int .i64 0) (.string S)
            obtain ⟨⟨r0, r1, r2⟩, _⟩ := hst
            have R0 := Lib.hid r0
            have R1 := Lib.hid r1
            have R2 := Lib.hid r2
            have HF := Lib.hid (stored3 (bt HB1.out HBB.out) (Nat.le_refl _) (.int .i64 2) (.int .i64 0) (.string S))
            obtain ⟨⟨p0, p1, p2⟩, p3, p4, p5⟩ := hx
            obtain ⟨⟨q0, q1, q2⟩, _⟩ := HBk6.out
            clear r0 r1 r2 hmay
            go_wp2_with fail
            obtain ⟨W2, hW2⟩ : ∃ W2, W2 = ((w6.setCell ⟨w.heap.size, 0, none⟩ (.int .i64 2)).setCell ⟨w.heap.size, 1, none⟩ (.int .i64 0)).setCell ⟨w.heap.size, 2, none⟩ (.string S) := ⟨_, rfl⟩
            rw [← hW2] at HF R0 R1 R2 ⊢
            have r0 := R0.out
            have r1 := R1.out
            have r2 := R2.out
            clear hW2 p0 p1 p2 p3 p4 p5 q0 q1 q2
            have hcast : ((1 + u + n : Nat) : Int) = 1 + (u : Int) + (n : Int) := by omega
            exact bodyPost_ret (v := .tuple #[.agg #[.int .i64 2, .int .i64 0, .string S], .int .i64 (1 + (u : Int) + (n : Int)), .bool true]) (by simp [results, Try.results34, go_sem, r0, r1, r2]) rfl ⟨ret_v (by rw [HN.out, got3]; simp only [hcast] <;> rfl), HF.out⟩
          · rw [decide_eq_false hmay]
            have HN := Lib.hid (show gotP (getP (2 :: t)) = (⟨0, 0, e0⟩, 0, false) from by rw [HR.out, if_neg (fun h => hmay h.2)]; rfl)
            clear hmay
            have hst := bx_store hx (.int .i64 0) (.int .i64 0) (.string ⟨#[]⟩)
            obtain ⟨⟨r0, r1, r2⟩, _⟩ := hst
            have R0 := Lib.hid r0
            have R1 := Lib.hid r1
            have R2 := Lib.hid r2
            have HF := Lib.hid (stored3 (bt HB1.out HBB.out) (Nat.le_refl _) (.int .i64 0) (.int .i64 0) (.string ⟨#[]⟩))
            obtain ⟨⟨p0, p1, p2⟩, p3, p4, p5⟩ := hx
            clear r0 r1 r2
            go_wp2_with fail
            obtain ⟨W2, hW2⟩ : ∃ W2, W2 = (((w6).setCell ⟨w.heap.size, 0, none⟩ (.int .i64 0)).setCell ⟨w.heap.size, 1, none⟩ (.int .i64 0)).setCell ⟨w.heap.size, 2, none⟩ (.string ⟨#[]⟩) := ⟨_, rfl⟩
            rw [← hW2] at HF R0 R1 R2 ⊢
            have r0 := R0.out
            have r1 := R1.out
            have r2 := R2.out
            clear hW2 p0 p1 p2 p3 p4 p5
            exact bodyPost_ret (v := .tuple #[.agg #[.int .i64 0, .int .i64 0, .string ⟨#[]⟩], .int .i64 0, .bool false]) (by simp [results, Try.results34, go_sem, r0, r1, r2]) rfl ⟨ret_v (by rw [HN.out]; rfl), HF.out⟩
        · have hrd : rdV 2 n (t.drop u) = (⟨0, 0, e0⟩, 0, false) := by rw [rdV, if_neg k0, if_pos rfl, if_neg (fun h => hfit (by have := h.2; rw [List.length_drop, ← HL.out] at this; exact this))]
          rw [hrd] at HR
          have HN := Lib.hid (show gotP (getP (2 :: t)) = (⟨0, 0, e0⟩, 0, false) from by rw [HR.out, if_neg (fun h => by cases h.1)]; rfl)
          have HBB := Lib.hid ((Below.refl w1.heap.size w1).alloc (Nat.le_refl _) (.cells #[.int .i64 2, .int .i64 n, .string ⟨#[]⟩] 44))
          have hx := HX1.out.kept HBB.out
          have hst := bx_store hx (.int .i64 0) (.int .i64 0) (.string ⟨#[]⟩)
          obtain ⟨⟨r0, r1, r2⟩, _⟩ := hst
          have R0 := Lib.hid r0
          have R1 := Lib.hid r1
          have R2 := Lib.hid r2
          have HF := Lib.hid (stored3 (bt HB1.out HBB.out) (Nat.le_refl _) (.int .i64 0) (.int .i64 0) (.string ⟨#[]⟩))
          obtain ⟨⟨p0, p1, p2⟩, p3, p4, p5⟩ := hx
          clear r0 r1 r2
          go_wp2_with fail
          obtain ⟨W2, hW2⟩ : ∃ W2, W2 = (((w1.alloc (.cells #[.int .i64 2, .int .i64 n, .string ⟨#[]⟩] 44)).setCell ⟨w.heap.size, 0, none⟩ (.int .i64 0)).setCell ⟨w.heap.size, 1, none⟩ (.int .i64 0)).setCell ⟨w.heap.size, 2, none⟩ (.string ⟨#[]⟩) := ⟨_, rfl⟩
          rw [← hW2] at HF R0 R1 R2 ⊢
          have r0 := R0.out
          have r1 := R1.out
          have r2 := R2.out
          clear hW2 p0 p1 p2 p3 p4 p5
          exact bodyPost_ret (v := .tuple #[.agg #[.int .i64 0, .int .i64 0, .string ⟨#[]⟩], .int .i64 0, .bool false]) (by simp [results, Try.results34, go_sem, r0, r1, r2]) rfl ⟨ret_v (by rw [HN.out]; rfl), HF.out⟩
      · have hrd : rdV 2 n (t.drop u) = (⟨0, 0, e0⟩, 0, false) := by rw [rdV, if_neg k0, if_pos rfl, if_neg (fun h => h40 h.1)]
        rw [hrd] at HR
        have HN := Lib.hid (show gotP (getP (2 :: t)) = (⟨0, 0, e0⟩, 0, false) from by rw [HR.out, if_neg (fun h => by cases h.1)]; rfl)
        have HBB := Lib.hid ((Below.refl w1.heap.size w1).alloc (Nat.le_refl _) (.cells #[.int .i64 2, .int .i64 (wrap64 n), .string ⟨#[]⟩] 44))
        have hx := HX1.out.kept HBB.out
        have hst := bx_store hx (.int .i64 0) (.int .i64 0) (.string ⟨#[]⟩)
        obtain ⟨⟨r0, r1, r2⟩, _⟩ := hst
        have R0 := Lib.hid r0
        have R1 := Lib.hid r1
        have R2 := Lib.hid r2
        have HF := Lib.hid (stored3 (bt HB1.out HBB.out) (Nat.le_refl _) (.int .i64 0) (.int .i64 0) (.string ⟨#[]⟩))
        obtain ⟨⟨p0, p1, p2⟩, p3, p4, p5⟩ := hx
        clear r0 r1 r2
        go_wp2_with fail
        obtain ⟨W2, hW2⟩ : ∃ W2, W2 = (((w1.alloc (.cells #[.int .i64 2, .int .i64 (wrap64 n), .string ⟨#[]⟩] 44)).setCell ⟨w.heap.size, 0, none⟩ (.int .i64 0)).setCell ⟨w.heap.size, 1, none⟩ (.int .i64 0)).setCell ⟨w.heap.size, 2, none⟩ (.string ⟨#[]⟩) := ⟨_, rfl⟩
        rw [← hW2] at HF R0 R1 R2 ⊢
        have r0 := R0.out
        have r1 := R1.out
        have r2 := R2.out
        clear hW2 p0 p1 p2 p3 p4 p5
        exact bodyPost_ret (v := .tuple #[.agg #[.int .i64 0, .int .i64 0, .string ⟨#[]⟩], .int .i64 0, .bool false]) (by simp [results, Try.results34, go_sem, r0, r1, r2]) rfl ⟨ret_v (by rw [HN.out]; rfl), HF.out⟩
    · rw [show rdV k n (t.drop u) = (⟨k, wrap64 n, e0⟩, 0, true) from by rw [rdV, if_neg k0, if_neg k2]] at HR
      have b0 : (k == 0) = false := by simpa using k0
      have b2 : (k == 2) = false := by simpa using k2
      go_wp2_with fail
      have HB5 := Lib.hid ((Below.refl w1.heap.size w1).alloc (Nat.le_refl _) (.cells #[.int .i64 k, .int .i64 (wrap64 n), .string ⟨#[]⟩] 44))
      have HBk := Lib.hid (bx_new w1 (.int .i64 k) (.int .i64 (wrap64 n)) (.string ⟨#[]⟩))
      obtain ⟨bk, hbk⟩ : ∃ bk, bk = w1.heap.size := ⟨_, rfl⟩
      obtain ⟨w5, hw5⟩ : ∃ w5, w5 = w1.alloc (.cells #[.int .i64 k, .int .i64 (wrap64 n), .string ⟨#[]⟩] 44) := ⟨_, rfl⟩
      rw [← hw5] at HBk HB5 ⊢
      rw [← hbk] at HBk ⊢
      obtain ⟨⟨q0, q1, q2⟩, _⟩ := HBk.out
      clear hbk hw5 hc1
      go_wp2_with fail
      refine (refMay_any k (wrap64 n) e0 _).mono ?_
      rintro e w6 ⟨rfl, hb6⟩
      have hx := HX1.out.kept (bt HB5.out hb6)
      have HBB := Lib.hid (bt HB5.out hb6)
      have HBk6 := Lib.hid (HBk.out.kept hb6)
      clear q0 q1 q2 hb6 HB5 HBk
      by_cases hmay : May ⟨k, (wrap64 n), e0⟩
      · rw [decide_eq_true hmay]
        have HN := Lib.hid (show gotP (getP (k :: t)) = (⟨k, (wrap64 n), e0⟩, 1 + u + 0, true) from by rw [HR.out, if_pos ⟨by first | exact rfl | exact trivial, hmay⟩]; rfl)
        have hst := bx_store hx (.int .i64 k) (.int .i64 (wrap64 n)) (.string ⟨#[]⟩)
        obtain ⟨⟨r0, r1, r2⟩, _⟩ := hst
        have R0 := Lib.hid r0
        have R1 := Lib.hid r1
        have R2 := Lib.hid r2
        have HF := Lib.hid (stored3 (bt HB1.out HBB.out) (Nat.le_refl _) (.int .i64 k) (.int .i64 (wrap64 n)) (.string ⟨#[]⟩))
        obtain ⟨⟨p0, p1, p2⟩, p3, p4, p5⟩ := hx
        obtain ⟨⟨q0, q1, q2⟩, _⟩ := HBk6.out
        clear r0 r1 r2 hmay
        go_wp2_with fail
        obtain ⟨W2, hW2⟩ : ∃ W2, W2 = ((w6.setCell ⟨w.heap.size, 0, none⟩ (.int .i64 k)).setCell ⟨w.heap.size, 1, none⟩ (.int .i64 (wrap64 n))).setCell ⟨w.heap.size, 2, none⟩ (.string ⟨#[]⟩) := ⟨_, rfl⟩
        rw [← hW2] at HF R0 R1 R2 ⊢
        have r0 := R0.out
        have r1 := R1.out
        have r2 := R2.out
        clear hW2 p0 p1 p2 p3 p4 p5 q0 q1 q2
        have hcast : ((1 + u + 0 : Nat) : Int) = 1 + (u : Int) := by omega
        exact bodyPost_ret (v := .tuple #[.agg #[.int .i64 k, .int .i64 (wrap64 n), .string ⟨#[]⟩], .int .i64 (1 + (u : Int)), .bool true]) (by simp [results, Try.results34, go_sem, r0, r1, r2]) rfl ⟨ret_v (by rw [HN.out, got3]; simp only [hcast] <;> rfl), HF.out⟩
      · rw [decide_eq_false hmay]
        have HN := Lib.hid (show gotP (getP (k :: t)) = (⟨0, 0, e0⟩, 0, false) from by rw [HR.out, if_neg (fun h => hmay h.2)]; rfl)
        clear hmay
        have hst := bx_store hx (.int .i64 0) (.int .i64 0) (.string ⟨#[]⟩)
        obtain ⟨⟨r0, r1, r2⟩, _⟩ := hst
        have R0 := Lib.hid r0
        have R1 := Lib.hid r1
        have R2 := Lib.hid r2
        have HF := Lib.hid (stored3 (bt HB1.out HBB.out) (Nat.le_refl _) (.int .i64 0) (.int .i64 0) (.string ⟨#[]⟩))
        obtain ⟨⟨p0, p1, p2⟩, p3, p4, p5⟩ := hx
        clear r0 r1 r2
        go_wp2_with fail
        obtain ⟨W2, hW2⟩ : ∃ W2, W2 = (((w6).setCell ⟨w.heap.size, 0, none⟩ (.int .i64 0)).setCell ⟨w.heap.size, 1, none⟩ (.int .i64 0)).setCell ⟨w.heap.size, 2, none⟩ (.string ⟨#[]⟩) := ⟨_, rfl⟩
        rw [← hW2] at HF R0 R1 R2 ⊢
        have r0 := R0.out
        have r1 := R1.out
        have r2 := R2.out
        clear hW2 p0 p1 p2 p3 p4 p5
        exact bodyPost_ret (v := .tuple #[.agg #[.int .i64 0, .int .i64 0, .string ⟨#[]⟩], .int .i64 0, .bool false]) (by simp [results, Try.results34, go_sem, r0, r1, r2]) rfl ⟨ret_v (by rw [HN.out]; rfl), HF.out⟩

/-- Get of any bytes. -/
theorem refGet_any (A : Option Addr) (xs : List Int) (c : Nat) (w : World) (h : SlB w A xs c) : Calls Try.prog 34 #[.slice A xs.length c] w (Gots xs w) := by
  cases xs with
  | nil => exact refGet_nil A c w
  | cons k t =>
    cases hg : getS t with
    | none => exact refGet_no A k t c w h hg
    | some p =>
      obtain ⟨n, u⟩ := p
      obtain ⟨b, o, hA, _⟩ := h.1.2 (by simp)
      exact refGet_yes A b o hA k t c w h n u hg
end Go.Proofs.Ytbakhodijhacoaa.Va

namespace Go.Proofs.Ytbakhodijhacoaa.Ev
open Go.RowKit Go.Proofs.Ytbakhodijhacoaa.BM Go.Proofs.Ytbakhodijhacoaa.LM Go.Proofs.Ytbakhodijhacoaa.LeM Go.Proofs.Ytbakhodijhacoaa.EvM
open Go.Proofs.Ytbakhodijhacoaa.VaM (V Rng gotP getP getP_some may_size e0)
open Go.Proofs.Ytbakhodijhacoaa.Va (Bx bx_new_t bx_set2 ret_v bx_store stored3 SlV slV_none slV_len slV_grown own_slV encV one_new wp_append_v)
open Go.Proofs.Ytbakhodijhacoaa.RG (own_is)
open Go.Proofs.Ytbakhodijhacoaa.Sc (grown_set grown_trans gotN refRead_any)
open Go.Proofs.Ytbakhodijhacoaa.ScM (gN gN_some bytes_drop)

/-- What comes of values that are got, and of some more. -/
def fin (t : ByteArray) (v : Nat) (l : List V) (p : Nat) : Option (List V × Nat) → Option (Ev × Nat)
  | none => none
  | some (r, k) => if May ⟨t, v, l ++ r⟩ then some (⟨t, v, l ++ r⟩, p + k) else none

theorem fin_step {t : ByteArray} {v : Nat} {l : List V} {p k : Nat} {ys : List Int} {f : V} {m : Nat} (h : getP ys = some (f, m)) :
    fin t v l p (gVs (k + 1) ys) = fin t v (l ++ [f]) (p + m) (gVs k (ys.drop m)) := by
  simp only [gVs, h]
  cases gVs k (ys.drop m) with
  | none => rfl
  | some q =>
    obtain ⟨r, n⟩ := q
    simp only [fin, List.append_assoc, List.singleton_append, Nat.add_assoc]

theorem fin_no {t : ByteArray} {v : Nat} {l : List V} {p k : Nat} {ys : List Int} (h : getP ys = none) : fin t v l p (gVs (k + 1) ys) = none := by
  simp only [gVs, h]
  rfl

theorem gE_name {xs : List Int} (h : gN xs = none) : gE xs = none := by
  unfold gE gA
  rw [h]

theorem gE_ver {xs : List Int} {t : ByteArray} {a : Nat} (h : gN xs = some (t, a)) (h2 : getS (xs.drop a) = none) : gE xs = none := by
  unfold gE gA
  rw [h]
  simp only [h2]

theorem gE_many {xs : List Int} {t : ByteArray} {a v u : Nat} (h : gN xs = some (t, a)) (h2 : getS (xs.drop a) = some (v, u)) (h3 : getS (xs.drop (a + u)) = none) : gE xs = none := by
  unfold gE gA
  rw [h]
  simp only [h2, h3]
  split <;> first | rfl | (rename_i h4; cases h4) | skip
  all_goals (rename_i h5; split at h5 <;> cases h5)

theorem gE_great {xs : List Int} {t : ByteArray} {a v u n m : Nat} (h : gN xs = some (t, a)) (h2 : getS (xs.drop a) = some (v, u)) (h3 : getS (xs.drop (a + u)) = some (n, m)) (h4 : ¬ (v ≤ 1125899906842624 ∧ n ≤ 6)) : gE xs = none := by
  unfold gE gA
  rw [h]
  simp only [h2, h3]
  by_cases hv : v ≤ 1125899906842624
  · rw [if_pos hv, if_neg (fun hn => h4 ⟨hv, hn⟩)]
  · rw [if_neg hv]

theorem gE_fin {xs : List Int} {t : ByteArray} {a v u n m : Nat} (h : gN xs = some (t, a)) (h2 : getS (xs.drop a) = some (v, u)) (h3 : getS (xs.drop (a + u)) = some (n, m)) (hv : v ≤ 1125899906842624) (hn : n ≤ 6) :
    gE xs = fin t v [] (a + u + m) (gVs n (xs.drop (a + u + m))) := by
  unfold gE gA
  rw [h]
  simp only [h2, h3, if_pos hv, if_pos hn]
  cases gVs n (xs.drop (a + u + m)) with
  | none => rfl
  | some q => rfl

set_option maxRecDepth 112589990684262400 in
set_option maxHeartbeats 4000000 in
theorem refGet_any (A : Option Addr) (xs : List Int) (c : Nat) (w : World) (hx : SlB w A xs c) : Calls Try.prog 15 #[.slice A xs.length c] w (Gots xs w) := by
  have hxc := hx.2.1
  have hmx := hx.2.2.2
  unfold maxLen at hmx
  have HX := Lib.hid hx
  have ha0 := (Below.refl w.heap.size w).alloc (Nat.le_refl _) (.cells #[.string ⟨#[]⟩, .int .i64 0, .slice none 0 0] 27)
  have hk := (Below.refl (w.alloc (.cells #[.string ⟨#[]⟩, .int .i64 0, .slice none 0 0] 27)).heap.size (w.alloc (.cells #[.string ⟨#[]⟩, .int .i64 0, .slice none 0 0] 27))).alloc (Nat.le_refl _) (.cells #[.string ⟨#[]⟩, .int .i64 0, .slice none 0 0] 27)
  have hn2 := bx_new_t (w.alloc (.cells #[.string ⟨#[]⟩, .int .i64 0, .slice none 0 0] 27)) 27 (.string ⟨#[]⟩) (.int .i64 0) (.slice none 0 0)
  rw [show (w.alloc (.cells #[.string ⟨#[]⟩, .int .i64 0, .slice none 0 0] 27)).heap.size = w.heap.size + 1 from by simp] at hn2
  have HB1 := Lib.hid (bt ha0 hk)
  have HN1 := Lib.hid hn2
  have HZ1 := Lib.hid ((bx_new_t w 27 (.string ⟨#[]⟩) (.int .i64 0) (.slice none 0 0)).kept hk)
  have hread := fun W (hW : Below w.heap.size w W) => refRead_any A xs c W (hx.kept hW)
  have hval2 := fun W (hW : Below w.heap.size w W) (p : Nat) (hp : p ≤ xs.length) => Va.refGet_any (dropA A p c) (xs.drop p) (c - p) W (Cut.slB_drop (hx.kept hW) p hp)
  unfold Va.Gots at hval2
  have hget2 := fun W (hW : Below w.heap.size w W) (p : Nat) (hp : p ≤ xs.length) => LeG.refGet_any (dropA A p c) (xs.drop p) (c - p) W (Cut.slB_drop (hx.kept hW) p hp).2.1 (by rw [List.length_drop]; omega) (Cut.slB_drop (hx.kept hW) p hp).1
  have hbytes := hx.1.1
  simp only [List.length_drop] at hval2 hget2
  have hslo := fun W (p : Nat) (hp : p ≤ xs.length) => slice_lo W A xs.length c p hp
  obtain ⟨N, hN⟩ : ∃ N, N = xs.length := ⟨_, rfl⟩
  simp only [← hN] at hval2 hget2 hslo hread
  rw [← hN] at hxc ⊢
  have HLen := Lib.hid hN
  have HRead := Lib.hid hread
  have HVal2 := Lib.hid hval2
  have HGet2 := Lib.hid hget2
  have HSlo := Lib.hid hslo
  have HBy := Lib.hid hbytes
  clear hx ha0 hk hn2 hN hread hval2 hget2 hslo hbytes
  go_enter Try.func15, Try.ntmps15
  go_wp2_with fail
  obtain ⟨w1, hw1⟩ : ∃ w1, w1 = (w.alloc (.cells #[.string ⟨#[]⟩, .int .i64 0, .slice none 0 0] 27)).alloc (.cells #[.string ⟨#[]⟩, .int .i64 0, .slice none 0 0] 27) := ⟨_, rfl⟩
  rw [← hw1] at HB1 HN1 HZ1 ⊢
  clear hw1
  refine (HRead.out w1 HB1.out).mono ?_
  rintro e w2 ⟨rfl, hb2⟩
  have HB2 := Lib.hid (bt HB1.out hb2)
  have HN2 := Lib.hid (HN1.out.kept hb2)
  have HZ2 := Lib.hid (HZ1.out.kept hb2)
  clear hb2 HB1 HN1 HZ1 HRead
  cases h1 : gN xs with
  | none =>
    simp only [gotN]
    have hno : gotE (gE xs) = (⟨e0, 0, []⟩, 0, false) := by rw [gE_name h1]; rfl
    have HNo := Lib.hid hno
    clear hno
    have hst := bx_store HZ2.out (.string ⟨#[]⟩) (.int .i64 0) (.slice none 0 0)
    obtain ⟨⟨g0, g1, g2⟩, _⟩ := hst
    have G0 := Lib.hid g0
    have G1 := Lib.hid g1
    have G2 := Lib.hid g2
    have HF := Lib.hid (stored3 HB2.out (Nat.le_refl _) (.string ⟨#[]⟩) (.int .i64 0) (.slice none 0 0))
    obtain ⟨⟨p0, p1, p2⟩, p3, p4, p5⟩ := HZ2.out
    obtain ⟨⟨q0, q1, q2⟩, _⟩ := HN2.out
    clear g0 g1 g2
    go_wp2_with fail
    obtain ⟨W2, hW2⟩ : ∃ W2, W2 = ((w2.setCell ⟨w.heap.size, 0, none⟩ (.string ⟨#[]⟩)).setCell ⟨w.heap.size, 1, none⟩ (.int .i64 0)).setCell ⟨w.heap.size, 2, none⟩ (.slice none 0 0) := ⟨_, rfl⟩
    rw [← hW2] at HF G0 G1 G2 ⊢
    have g0 := G0.out
    have g1 := G1.out
    have g2 := G2.out
    clear hW2 p0 p1 p2 p3 p4 p5 q0 q1 q2
    exact bodyPost_ret (v := .tuple #[.agg #[.string ⟨#[]⟩, .int .i64 0, .slice none 0 0], .int .i64 0, .bool false]) (by simp [results, Try.results15, go_sem, g0, g1, g2]) rfl ⟨none, 0, ret_v (by rw [HNo.out]; rfl), (by rw [HNo.out]; exact slV_none _), (fun a ha => by cases ha), HF.out⟩
  | some q =>
    obtain ⟨t, a⟩ := q
    simp only [gotN]
    obtain ⟨hts, ha, _⟩ := gN_some HBy.out h1
    rw [← HLen.out] at ha
    have hsl1 := fun W => HSlo.out W a ha
    have HG1 := Lib.hid (HGet2.out w2 HB2.out a ha)
    obtain ⟨D1, hD1⟩ : ∃ D, D = dropA A a c := ⟨_, rfl⟩
    rw [← hD1] at HG1
    simp only [← hD1] at hsl1
    have H1 := Lib.hid h1
    clear hD1 h1
    go_wp2_with fail
    refine HG1.out.mono ?_
    rintro e w3 ⟨rfl, hb3⟩
    have HB3 := Lib.hid (bt HB2.out hb3)
    have HN3 := Lib.hid (HN2.out.kept hb3)
    have HZ3 := Lib.hid (HZ2.out.kept hb3)
    clear hb3 HB2 HN2 HZ2 HG1 hsl1
    cases h2 : getS (xs.drop a) with
    | none =>
      simp only [LeG.gotV]
      have hsl1 := fun W => HSlo.out W a ha
      have HG2 := Lib.hid (HGet2.out w3 HB3.out a ha)
      obtain ⟨D1, hD1⟩ : ∃ D, D = dropA A a c := ⟨_, rfl⟩
      rw [← hD1] at HG2
      simp only [← hD1] at hsl1
      rw [h2] at HG2
      clear hD1
      go_wp2_with fail
      refine HG2.out.mono ?_
      rintro e w4 ⟨rfl, hb4⟩
      have HB4 := Lib.hid (bt HB3.out hb4)
      have HN4 := Lib.hid (HN3.out.kept hb4)
      have HZ4 := Lib.hid (HZ3.out.kept hb4)
      simp only [LeG.gotV]
      have hno : gotE (gE xs) = (⟨e0, 0, []⟩, 0, false) := by rw [gE_ver H1.out h2]; rfl
      have HNo := Lib.hid hno
      clear hno
      clear hb4 h2
      have hst := bx_store HZ4.out (.string ⟨#[]⟩) (.int .i64 0) (.slice none 0 0)
      obtain ⟨⟨g0, g1, g2⟩, _⟩ := hst
      have G0 := Lib.hid g0
      have G1 := Lib.hid g1
      have G2 := Lib.hid g2
      have HF := Lib.hid (stored3 HB4.out (Nat.le_refl _) (.string ⟨#[]⟩) (.int .i64 0) (.slice none 0 0))
      obtain ⟨⟨p0, p1, p2⟩, p3, p4, p5⟩ := HZ4.out
      obtain ⟨⟨q0, q1, q2⟩, _⟩ := HN4.out
      clear g0 g1 g2
      go_wp2_with fail
      obtain ⟨W2, hW2⟩ : ∃ W2, W2 = ((w4.setCell ⟨w.heap.size, 0, none⟩ (.string ⟨#[]⟩)).setCell ⟨w.heap.size, 1, none⟩ (.int .i64 0)).setCell ⟨w.heap.size, 2, none⟩ (.slice none 0 0) := ⟨_, rfl⟩
      rw [← hW2] at HF G0 G1 G2 ⊢
      have g0 := G0.out
      have g1 := G1.out
      have g2 := G2.out
      clear hW2 p0 p1 p2 p3 p4 p5 q0 q1 q2
      exact bodyPost_ret (v := .tuple #[.agg #[.string ⟨#[]⟩, .int .i64 0, .slice none 0 0], .int .i64 0, .bool false]) (by simp [results, Try.results15, go_sem, g0, g1, g2]) rfl ⟨none, 0, ret_v (by rw [HNo.out]; rfl), (by rw [HNo.out]; exact slV_none _), (fun a ha => by cases ha), HF.out⟩
    | some q =>
      obtain ⟨v, u⟩ := q
      simp only [LeG.gotV]
      obtain ⟨hv64, hu, _⟩ := (getS_iff _ (bytes_drop HBy.out a) v u).1 h2
      rw [List.length_drop, ← HLen.out] at hu
      have hau : a + u ≤ N := by omega
      have hsl1 := fun W => HSlo.out W (a + u) hau
      rw [show ((a + u : Nat) : Int) = (a : Int) + (u : Int) from by omega] at hsl1
      have HG2 := Lib.hid (HGet2.out w3 HB3.out (a + u) hau)
      obtain ⟨D1, hD1⟩ : ∃ D, D = dropA A (a + u) c := ⟨_, rfl⟩
      rw [← hD1] at HG2
      simp only [← hD1] at hsl1
      have H2 := Lib.hid h2
      clear hD1 h2
      go_wp2_with fail
      refine HG2.out.mono ?_
      rintro e w4 ⟨rfl, hb4⟩
      have HB4 := Lib.hid (bt HB3.out hb4)
      have HN4 := Lib.hid (HN3.out.kept hb4)
      have HZ4 := Lib.hid (HZ3.out.kept hb4)
      clear hb4 HG2 hsl1 HB3 HN3 HZ3
      cases h3 : getS (xs.drop (a + u)) with
      | none =>
        simp only [LeG.gotV]
        have hno : gotE (gE xs) = (⟨e0, 0, []⟩, 0, false) := by rw [gE_many H1.out H2.out h3]; rfl
        have HNo := Lib.hid hno
        clear hno
        clear h3
        have hst := bx_store HZ4.out (.string ⟨#[]⟩) (.int .i64 0) (.slice none 0 0)
        obtain ⟨⟨g0, g1, g2⟩, _⟩ := hst
        have G0 := Lib.hid g0
        have G1 := Lib.hid g1
        have G2 := Lib.hid g2
        have HF := Lib.hid (stored3 HB4.out (Nat.le_refl _) (.string ⟨#[]⟩) (.int .i64 0) (.slice none 0 0))
        obtain ⟨⟨p0, p1, p2⟩, p3, p4, p5⟩ := HZ4.out
        obtain ⟨⟨q0, q1, q2⟩, _⟩ := HN4.out
        clear g0 g1 g2
        go_wp2_with fail
        obtain ⟨W2, hW2⟩ : ∃ W2, W2 = ((w4.setCell ⟨w.heap.size, 0, none⟩ (.string ⟨#[]⟩)).setCell ⟨w.heap.size, 1, none⟩ (.int .i64 0)).setCell ⟨w.heap.size, 2, none⟩ (.slice none 0 0) := ⟨_, rfl⟩
        rw [← hW2] at HF G0 G1 G2 ⊢
        have g0 := G0.out
        have g1 := G1.out
        have g2 := G2.out
        clear hW2 p0 p1 p2 p3 p4 p5 q0 q1 q2
        exact bodyPost_ret (v := .tuple #[.agg #[.string ⟨#[]⟩, .int .i64 0, .slice none 0 0], .int .i64 0, .bool false]) (by simp [results, Try.results15, go_sem, g0, g1, g2]) rfl ⟨none, 0, ret_v (by rw [HNo.out]; rfl), (by rw [HNo.out]; exact slV_none _), (fun a ha => by cases ha), HF.out⟩
      | some q =>
        obtain ⟨n, m⟩ := q
        simp only [LeG.gotV]
        obtain ⟨hn64, hm, _⟩ := (getS_iff _ (bytes_drop HBy.out (a + u)) n m).1 h3
        rw [List.length_drop, ← HLen.out] at hm
        have H3 := Lib.hid h3
        clear h3
        by_cases hv : v ≤ 1125899906842624
        · have hdv : decide ((1125899906842624 : Int) < (v : Int)) = false := by rw [decide_eq_false_iff_not]; omega
          by_cases hn : n ≤ 6
          · have hdn : decide ((6 : Int) < (n : Int)) = false := by rw [decide_eq_false_iff_not]; omega
            have hfin := gE_fin H1.out H2.out H3.out hv hn
            have HFin := Lib.hid hfin
            clear hfin H3
            have ha5 := (Below.refl w4.heap.size w4).alloc (Nat.le_refl _) (.cells #[.string t, .int .i64 (v : Int), .slice none 0 0] 27)
            have HB5 := Lib.hid (bt HB4.out ha5)
            have HN5 := Lib.hid (HN4.out.kept ha5)
            have HZ5 := Lib.hid (HZ4.out.kept ha5)
            have HX5 := Lib.hid (bx_new_t w4 27 (.string t) (.int .i64 (v : Int)) (.slice none 0 0))
            have hnb : w.heap.size + 1 < w4.heap.size := HN4.out.lt
            clear HB4 HN4 HZ4
            go_wp2_with fail
            obtain ⟨w5, hw5⟩ : ∃ w5, w5 = w4.alloc (.cells #[.string t, .int .i64 (v : Int), .slice none 0 0] 27) := ⟨_, rfl⟩
            rw [← hw5] at ha5 HB5 HN5 HZ5 HX5 ⊢
            obtain ⟨bs, hbs⟩ : ∃ bs, bs = w4.heap.size := ⟨_, rfl⟩
            rw [← hbs] at ha5 HX5 hnb ⊢
            have hbs5 := HX5.out.lt
            clear hw5 ha5 hbs
            go_loopw [7, 16] (fun at' i wr => ∃ (j p : Nat) (l : List V) (u' : Value), i = .int .i64 j ∧ at' = .int .i64 p ∧ j ≤ n ∧ p ≤ N ∧ l.length = j ∧ (∀ x ∈ l, Sm x) ∧ gE xs = fin t v l p (gVs (n - j) (xs.drop p)) ∧
              Bx wr bs (.string t) (.int .i64 (v : Int)) u' ∧ wr.ownsRow w5.heap.size 44 3 u' j (l.flatMap encV) ∧ Below w.heap.size w wr ∧ Bx wr w.heap.size (.string ⟨#[]⟩) (.int .i64 0) (.slice none 0 0) ∧ Bx wr (w.heap.size + 1) (.string ⟨#[]⟩) (.int .i64 0) (.slice none 0 0) ∧ w5.heap.size ≤ wr.heap.size) (fun _ i _ => n - (intOf i).toNat)
            case atStart =>
              exact ⟨0, a + u + m, [], .slice none 0 0, rfl, by go_num, Nat.zero_le _, by omega, rfl, (fun f hf => by cases hf), HFin.out, HX5.out, World.ownsRow_nil _ _ _ _, HB5.out, HZ5.out, HN5.out, Nat.le_refl _⟩
            case round =>
              obtain ⟨j, p, l, u', rfl, rfl, hj, hp, hlj, hl12, hgs, hxs, hown, hbel, hzz, hnn, hsz⟩ := hrel
              have HL := Lib.hid hlj
              have HL12 := Lib.hid hl12
              have HGs := Lib.hid hgs
              have HXs := Lib.hid hxs
              have HO := Lib.hid hown
              have HBl := Lib.hid hbel
              have HZz := Lib.hid hzz
              have HNn := Lib.hid hnn
              clear hlj hl12 hgs hxs hown hbel hzz hnn HX5 HB5 HZ5 HN5 HFin
              by_cases hjn : j < n
              · have hnj : n - j = (n - (j + 1)) + 1 := by omega
                have hgs := HGs.out
                rw [hnj] at hgs
                have HGs2 := Lib.hid hgs
                have hsl1 := fun W => HSlo.out W p hp
                have HR2 := Lib.hid (HVal2.out wr HBl.out p hp)
                obtain ⟨D1, hD1⟩ : ∃ D, D = dropA A p c := ⟨_, rfl⟩
                rw [← hD1] at HR2
                simp only [← hD1] at hsl1
                clear hgs hnj hD1
                go_wp2_with fail
                refine HR2.out.mono ?_
                rintro e w6 ⟨rfl, hb6⟩
                have HX6 := Lib.hid (HXs.out.kept hb6)
                have HO6 := Lib.hid (RegA.own_below HO.out hb6)
                have HB6 := Lib.hid (bt HBl.out hb6)
                have HZ6 := Lib.hid (HZz.out.kept hb6)
                have HN6 := Lib.hid (HNn.out.kept hb6)
                have hsz6 := Nat.le_trans hsz hb6.size
                clear hb6 HXs HO HBl HZz HNn hsz HR2 hsl1
                cases hg : getP (xs.drop p) with
                | none =>
                  have hno : gotE (gE xs) = (⟨e0, 0, []⟩, 0, false) := by rw [HGs2.out, fin_no hg]; rfl
                  have HNo := Lib.hid hno
                  simp only [gotP, Va.got3]
                  clear hno hg
                  have ha7 := (Below.refl w6.heap.size w6).alloc (Nat.le_refl _) (.cells #[.int .i64 0, .int .i64 0, .string e0] 44)
                  have HZ7 := Lib.hid (HZ6.out.kept ha7)
                  have HN7 := Lib.hid (HN6.out.kept ha7)
                  have HB7 := Lib.hid (bt HB6.out ha7)
                  clear HZ6 HN6 HB6 ha7
                  obtain ⟨w7, hw7⟩ : ∃ w7, w7 = w6.alloc (.cells #[.int .i64 0, .int .i64 0, .string e0] 44) := ⟨_, rfl⟩
                  obtain ⟨⟨p0, p1, p2⟩, p3, p4, p5⟩ := HZ7.out
                  obtain ⟨⟨q0, q1, q2⟩, _⟩ := HN7.out
                  rw [← hw7] at HZ7 HN7 HB7
                  have hst := bx_store HZ7.out (.string ⟨#[]⟩) (.int .i64 0) (.slice none 0 0)
                  obtain ⟨⟨g0, g1, g2⟩, _⟩ := hst
                  have G0 := Lib.hid g0
                  have G1 := Lib.hid g1
                  have G2 := Lib.hid g2
                  have HF := Lib.hid (stored3 HB7.out (Nat.le_refl _) (.string ⟨#[]⟩) (.int .i64 0) (.slice none 0 0))
                  have HW7 := Lib.hid hw7
                  clear g0 g1 g2 hw7
                  go_wp2_with fail
                  rw [← HW7.out]
                  obtain ⟨W2, hW2⟩ : ∃ W2, W2 = ((w7.setCell ⟨w.heap.size, 0, none⟩ (.string ⟨#[]⟩)).setCell ⟨w.heap.size, 1, none⟩ (.int .i64 0)).setCell ⟨w.heap.size, 2, none⟩ (.slice none 0 0) := ⟨_, rfl⟩
                  rw [← hW2] at HF G0 G1 G2 ⊢
                  have g0 := G0.out
                  have g1 := G1.out
                  have g2 := G2.out
                  clear hW2 p0 p1 p2 p3 p4 p5 q0 q1 q2
                  exact bodyPost_ret (v := .tuple #[.agg #[.string ⟨#[]⟩, .int .i64 0, .slice none 0 0], .int .i64 0, .bool false]) (by simp [results, Try.results15, go_sem, g0, g1, g2]) rfl ⟨none, 0, ret_v (by rw [HNo.out]; rfl), (by rw [HNo.out]; exact slV_none _), (fun a ha => by cases ha), HF.out⟩
                | some q =>
                  obtain ⟨⟨vk, vn, vs⟩, k⟩ := q
                  obtain ⟨hrg, hvm, hk, _⟩ := getP_some (bytes_drop HBy.out p) hg
                  rw [List.length_drop, ← HLen.out] at hk
                  have hsm : Sm ⟨vk, vn, vs⟩ := ⟨by have := may_size hvm; unfold maxLen; simp only at this ⊢; omega, hrg⟩
                  have hgs3 : gE xs = fin t v (l ++ [⟨vk, vn, vs⟩]) (p + k) (gVs (n - (j + 1)) (xs.drop (p + k))) := by
                    rw [HGs2.out, fin_step hg, List.drop_drop]
                  have HGs3 := Lib.hid hgs3
                  have HSm := Lib.hid hsm
                  simp only [gotP, Va.got3]
                  clear hg hgs3 hsm hrg hvm HGs2 HGs
                  have ha7 := (Below.refl w6.heap.size w6).alloc (Nat.le_refl _) (.cells #[.int .i64 vk, .int .i64 vn, .string vs] 44)
                  have hv7 := bx_new_t w6 44 (.int .i64 vk) (.int .i64 vn) (.string vs)
                  have ha8 := (Below.refl (w6.alloc (.cells #[.int .i64 vk, .int .i64 vn, .string vs] 44)).heap.size (w6.alloc (.cells #[.int .i64 vk, .int .i64 vn, .string vs] 44))).alloc (Nat.le_refl _) (.cells #[.int .i64 vk, .int .i64 vn, .string vs] 44)
                  have hone := one_new (w6.alloc (.cells #[.int .i64 vk, .int .i64 vn, .string vs] 44)) ⟨vk, vn, vs⟩
                  rw [show (w6.alloc (.cells #[.int .i64 vk, .int .i64 vn, .string vs] 44)).heap.size = w6.heap.size + 1 from by simp] at hone
                  simp only at hone
                  have hx7 := HX6.out.kept ha7
                  obtain ⟨⟨_, _, x2⟩, _⟩ := hx7
                  obtain ⟨⟨z0, z1, z2⟩, _⟩ := hv7
                  have h78 := bt ha7 ha8
                  have HX8 := Lib.hid (HX6.out.kept h78)
                  have HO8 := Lib.hid (RegA.own_below HO6.out h78)
                  have HB8 := Lib.hid (bt HB6.out h78)
                  have HZ8 := Lib.hid (HZ6.out.kept h78)
                  have HN8 := Lib.hid (HN6.out.kept h78)
                  have hsz8 := Nat.le_trans hsz6 h78.size
                  have HOne := Lib.hid hone
                  clear HX6 HO6 HB6 HZ6 HN6 hsz6 ha7 ha8 h78 hone
                  go_wp2_with (at_builtin; refine wp_append_v rfl (.tmp 90) (.tmp 92) rfl w5.heap.size u' j l rfl HO8.out (some ⟨w6.heap.size + 1, 0, none⟩) 1 1 [⟨vk, vn, vs⟩] rfl rfl HOne.out (by omega) hsz8 ?_; intro u4 v4 hown4 hg4; refine pause ?_)
                  obtain ⟨Aq, cq, hu4⟩ := own_is hown4
                  have hne : ∀ b, b < w5.heap.size → some b ≠ u'.ownBlock := fun b hb e => by have := (HO8.out.lt _ e.symm).1; omega
                  have HX4 := Lib.hid (HX8.out.grown hg4 (hne _ hbs5))
                  have HB4' := Lib.hid (HB8.out.grown hg4 HB8.out.size (fun q hq => by have := (HO8.out.lt q hq).1; omega))
                  have HZ4' := Lib.hid (HZ8.out.grown hg4 (hne _ (by omega)))
                  have HN4' := Lib.hid (HN8.out.grown hg4 (hne _ (by omega)))
                  have HO4' := Lib.hid hown4
                  have hsz4 := Nat.le_trans hsz8 hg4.size
                  clear hown4 hg4 hne HZ8 HN8 HO8 HX8 HB8 HOne hsz8 z0 z1 z2 x2
                  subst hu4
                  obtain ⟨u4, hu4⟩ : ∃ u4, u4 = Value.slice Aq (j + 1) cq := ⟨_, rfl⟩
                  rw [← hu4] at HO4'
                  have HXn := Lib.hid (bx_set2 HX4.out u4)
                  have HNn := Lib.hid (HN4'.out.off (p := ⟨bs, 2, none⟩) (by simp only; omega) u4)
                  have HZn := Lib.hid (HZ4'.out.off (p := ⟨bs, 2, none⟩) (by simp only; omega) u4)
                  have HBn := Lib.hid (HB4'.out.setCell (p := ⟨bs, 2, none⟩) (by simp only; omega) u4)
                  have HOn := Lib.hid (HO4'.out.kept (grown_set v4 bs 2 u4) (Or.inr (fun e => by have := (HO4'.out.lt _ e).1; omega)))
                  have hszn := Nat.le_trans hsz4 (grown_set v4 bs 2 u4).size
                  obtain ⟨⟨_, _, y2⟩, _, _, y5⟩ := HX4.out
                  have HU4 := Lib.hid hu4
                  clear HN4' HZ4' HB4' HO4' hsz4 hu4
                  unfold Pause
                  go_wp2_with fail
                  go_roundw
                  case rel =>
                    refine ⟨j + 1, p + k, l ++ [⟨vk, vn, vs⟩], u4, by go_num, by go_num, by omega, by omega, by rw [List.length_append, HL.out]; rfl, ?_, HGs3.out, ?_, ?_, ?_, ?_, ?_, ?_⟩
                    · intro f hf
                      rcases List.mem_append.1 hf with h | h
                      · exact HL12.out f h
                      · obtain rfl := List.mem_singleton.1 h
                        exact HSm.out
                    · rw [← HU4.out]
                      exact HXn.out
                    · rw [← HU4.out]
                      exact HOn.out
                    · rw [← HU4.out]
                      exact HBn.out
                    · rw [← HU4.out]
                      exact HZn.out
                    · rw [← HU4.out]
                      exact HNn.out
                    · rw [← HU4.out]
                      exact hszn
                  case measure => simp [intOf]; omega
              · obtain rfl : j = n := by omega
                obtain ⟨Af, cf, rfl, hjl, hslf, hfar⟩ := own_slV HO.out HL12.out
                have hgs : gE xs = if May ⟨t, v, l⟩ then some (⟨t, v, l⟩, p) else none := by
                  rw [HGs.out, Nat.sub_self]
                  simp only [gVs, fin, List.append_nil, Nat.add_zero]
                have HGs2 := Lib.hid hgs
                have hmy := fun W (hW : Below wr.heap.size wr W) => refMay_any ⟨t, v, l⟩ Af cf W (hslf.kept hW) ⟨by unfold maxLen; simp only; omega, by simp only; omega, by simp only; omega⟩
                rw [HL.out] at HXs
                simp only [HL.out] at hmy
                have HMy := Lib.hid hmy
                have HSlf := Lib.hid hslf
                have HFar := Lib.hid (fun a ha => (hfar a ha).1)
                obtain ⟨⟨x0, x1, x2⟩, _⟩ := HXs.out
                clear hmy hgs hslf hfar hjl
                go_wp2_with fail
                refine (HMy.out _ (Below.refl _ _)).mono ?_
                rintro e w6 ⟨rfl, hb6⟩
                clear x0 x1 x2
                have HB6 := Lib.hid (bt HBl.out hb6)
                have HX6 := Lib.hid (HXs.out.kept hb6)
                have HZ6 := Lib.hid (HZz.out.kept hb6)
                have HN6 := Lib.hid (HNn.out.kept hb6)
                have HSlf6 := Lib.hid (HSlf.out.kept hb6)
                clear hb6 HMy HBl HXs HZz HNn HSlf HO
                by_cases hmay : May ⟨t, v, l⟩
                · have hyes : gotE (gE xs) = (⟨t, v, l⟩, p, true) := by rw [HGs2.out, if_pos hmay]; rfl
                  rw [decide_eq_true hmay]
                  have HYes := Lib.hid hyes
                  clear hyes hmay
                  have hst := bx_store HZ6.out (.string t) (.int .i64 (v : Int)) (.slice Af j cf)
                  obtain ⟨⟨g0, g1, g2⟩, _⟩ := hst
                  have G0 := Lib.hid g0
                  have G1 := Lib.hid g1
                  have G2 := Lib.hid g2
                  have HF := Lib.hid (stored3 HB6.out (Nat.le_refl _) (.string t) (.int .i64 (v : Int)) (.slice Af j cf))
                  have hg0 := grown_set w6 w.heap.size 0 (.string t)
                  have hg1 := grown_set (w6.setCell ⟨w.heap.size, 0, none⟩ (.string t)) w.heap.size 1 (.int .i64 (v : Int))
                  have hg2 := grown_set ((w6.setCell ⟨w.heap.size, 0, none⟩ (.string t)).setCell ⟨w.heap.size, 1, none⟩ (.int .i64 (v : Int))) w.heap.size 2 (.slice Af j cf)
                  have HSlfN := Lib.hid (slV_grown HSlf6.out (grown_trans (grown_trans hg0 hg1) hg2) (fun a ha => by have := HFar.out a ha; omega))
                  obtain ⟨⟨p0, p1, p2⟩, p3, p4, p5⟩ := HZ6.out
                  obtain ⟨⟨x0, x1, x2⟩, _⟩ := HX6.out
                  clear g0 g1 g2 hg0 hg1 hg2
                  go_wp2_with fail
                  obtain ⟨W2, hW2⟩ : ∃ W2, W2 = ((w6.setCell ⟨w.heap.size, 0, none⟩ (.string t)).setCell ⟨w.heap.size, 1, none⟩ (.int .i64 (v : Int))).setCell ⟨w.heap.size, 2, none⟩ (.slice Af j cf) := ⟨_, rfl⟩
                  rw [← hW2] at HF G0 G1 G2 HSlfN ⊢
                  have g0 := G0.out
                  have g1 := G1.out
                  have g2 := G2.out
                  clear hW2 p0 p1 p2 p3 p4 p5 x0 x1 x2
                  have hval : got3 Af cf (gotE (gE xs)) = .tuple #[.agg #[.string t, .int .i64 (v : Int), .slice Af j cf], .int .i64 (p : Int), .bool true] := by
                    rw [HYes.out]
                    unfold got3
                    simp only [HL.out]
                  exact bodyPost_ret (v := .tuple #[.agg #[.string t, .int .i64 (v : Int), .slice Af j cf], .int .i64 (p : Int), .bool true]) (by simp [results, Try.results15, go_sem, g0, g1, g2]) rfl ⟨Af, cf, ret_v hval, (by rw [HYes.out]; exact HSlfN.out), (fun a ha => by have := HFar.out a ha; omega), HF.out⟩
                · have hno : gotE (gE xs) = (⟨e0, 0, []⟩, 0, false) := by rw [HGs2.out, if_neg hmay]; rfl
                  rw [decide_eq_false hmay]
                  have HNo := Lib.hid hno
                  clear hno hmay
                  have hst := bx_store HZ6.out (.string ⟨#[]⟩) (.int .i64 0) (.slice none 0 0)
                  obtain ⟨⟨g0, g1, g2⟩, _⟩ := hst
                  have G0 := Lib.hid g0
                  have G1 := Lib.hid g1
                  have G2 := Lib.hid g2
                  have HF := Lib.hid (stored3 HB6.out (Nat.le_refl _) (.string ⟨#[]⟩) (.int .i64 0) (.slice none 0 0))
                  obtain ⟨⟨p0, p1, p2⟩, p3, p4, p5⟩ := HZ6.out
                  obtain ⟨⟨q0, q1, q2⟩, _⟩ := HN6.out
                  clear g0 g1 g2
                  go_wp2_with fail
                  obtain ⟨W2, hW2⟩ : ∃ W2, W2 = ((w6.setCell ⟨w.heap.size, 0, none⟩ (.string ⟨#[]⟩)).setCell ⟨w.heap.size, 1, none⟩ (.int .i64 0)).setCell ⟨w.heap.size, 2, none⟩ (.slice none 0 0) := ⟨_, rfl⟩
                  rw [← hW2] at HF G0 G1 G2 ⊢
                  have g0 := G0.out
                  have g1 := G1.out
                  have g2 := G2.out
                  clear hW2 p0 p1 p2 p3 p4 p5 q0 q1 q2
                  exact bodyPost_ret (v := .tuple #[.agg #[.string ⟨#[]⟩, .int .i64 0, .slice none 0 0], .int .i64 0, .bool false]) (by simp [results, Try.results15, go_sem, g0, g1, g2]) rfl ⟨none, 0, ret_v (by rw [HNo.out]; rfl), (by rw [HNo.out]; exact slV_none _), (fun a ha => by cases ha), HF.out⟩
          · have hdn : decide ((6 : Int) < (n : Int)) = true := by rw [decide_eq_true_iff]; omega
            have hno : gotE (gE xs) = (⟨e0, 0, []⟩, 0, false) := by rw [gE_great H1.out H2.out H3.out (fun h => hn h.2)]; rfl
            have HNo := Lib.hid hno
            clear hno
            clear hn
            have hst := bx_store HZ4.out (.string ⟨#[]⟩) (.int .i64 0) (.slice none 0 0)
            obtain ⟨⟨g0, g1, g2⟩, _⟩ := hst
            have G0 := Lib.hid g0
            have G1 := Lib.hid g1
            have G2 := Lib.hid g2
            have HF := Lib.hid (stored3 HB4.out (Nat.le_refl _) (.string ⟨#[]⟩) (.int .i64 0) (.slice none 0 0))
            obtain ⟨⟨p0, p1, p2⟩, p3, p4, p5⟩ := HZ4.out
            obtain ⟨⟨q0, q1, q2⟩, _⟩ := HN4.out
            clear g0 g1 g2
            go_wp2_with fail
            obtain ⟨W2, hW2⟩ : ∃ W2, W2 = ((w4.setCell ⟨w.heap.size, 0, none⟩ (.string ⟨#[]⟩)).setCell ⟨w.heap.size, 1, none⟩ (.int .i64 0)).setCell ⟨w.heap.size, 2, none⟩ (.slice none 0 0) := ⟨_, rfl⟩
            rw [← hW2] at HF G0 G1 G2 ⊢
            have g0 := G0.out
            have g1 := G1.out
            have g2 := G2.out
            clear hW2 p0 p1 p2 p3 p4 p5 q0 q1 q2
            exact bodyPost_ret (v := .tuple #[.agg #[.string ⟨#[]⟩, .int .i64 0, .slice none 0 0], .int .i64 0, .bool false]) (by simp [results, Try.results15, go_sem, g0, g1, g2]) rfl ⟨none, 0, ret_v (by rw [HNo.out]; rfl), (by rw [HNo.out]; exact slV_none _), (fun a ha => by cases ha), HF.out⟩
        · have hdv : decide ((1125899906842624 : Int) < (v : Int)) = true := by rw [decide_eq_true_iff]; omega
          have hno : gotE (gE xs) = (⟨e0, 0, []⟩, 0, false) := by rw [gE_great H1.out H2.out H3.out (fun h => hv h.1)]; rfl
          have HNo := Lib.hid hno
          clear hno
          clear hv
          have hst := bx_store HZ4.out (.string ⟨#[]⟩) (.int .i64 0) (.slice none 0 0)
          obtain ⟨⟨g0, g1, g2⟩, _⟩ := hst
          have G0 := Lib.hid g0
          have G1 := Lib.hid g1
          have G2 := Lib.hid g2
          have HF := Lib.hid (stored3 HB4.out (Nat.le_refl _) (.string ⟨#[]⟩) (.int .i64 0) (.slice none 0 0))
          obtain ⟨⟨p0, p1, p2⟩, p3, p4, p5⟩ := HZ4.out
          obtain ⟨⟨q0, q1, q2⟩, _⟩ := HN4.out
          clear g0 g1 g2
          go_wp2_with fail
          obtain ⟨W2, hW2⟩ : ∃ W2, W2 = ((w4.setCell ⟨w.heap.size, 0, none⟩ (.string ⟨#[]⟩)).setCell ⟨w.heap.size, 1, none⟩ (.int .i64 0)).setCell ⟨w.heap.size, 2, none⟩ (.slice none 0 0) := ⟨_, rfl⟩
          rw [← hW2] at HF G0 G1 G2 ⊢
          have g0 := G0.out
          have g1 := G1.out
          have g2 := G2.out
          clear hW2 p0 p1 p2 p3 p4 p5 q0 q1 q2
          exact bodyPost_ret (v := .tuple #[.agg #[.string ⟨#[]⟩, .int .i64 0, .slice none 0 0], .int .i64 0, .bool false]) (by simp [results, Try.results15, go_sem, g0, g1, g2]) rfl ⟨none, 0, ret_v (by rw [HNo.out]; rfl), (by rw [HNo.out]; exact slV_none _), (fun a ha => by cases ha), HF.out⟩
end Go.Proofs.Ytbakhodijhacoaa.Ev

namespace Go.Proofs.Ytbakhodijhacoaa.Sc
open Go.RowKit Go.Proofs.Ytbakhodijhacoaa.BM Go.Proofs.Ytbakhodijhacoaa.LM Go.Proofs.Ytbakhodijhacoaa.LeM Go.Proofs.Ytbakhodijhacoaa.VaM Go.Proofs.Ytbakhodijhacoaa.Va Go.Proofs.Ytbakhodijhacoaa.ScM

theorem refPut_sl (n : Nat) (w : World) (hn : n < 18446744073709551616) : Calls Try.prog 27 #[.int .u64 n] w (PutSl n w) := (LeG.refPut_any n w hn).mono fun _ _ h => putSl_of h

set_option maxRecDepth 100000 in
theorem refText_any (s : ByteArray) (w : World) (hs : s.size ≤ 100000) : Calls Try.prog 26 #[.string s] w (Bys (pn s) w) := by
  have HP := Lib.hid (fun W => refPut_sl s.size W (by omega))
  have hl := putL_len64 (n := s.size) (by omega)
  obtain ⟨L, hL⟩ : ∃ L, L = (putL s.size).length := ⟨_, rfl⟩
  rw [← hL] at hl
  have HL := Lib.hid hL
  clear hL
  go_enter Try.func26, Try.ntmps26
  go_wp2_with fail
  refine (HP.out _).mono ?_
  rintro e w1 ⟨A, c, rfl, _, hown, hb⟩
  rw [← HL.out] at hown ⊢
  have HO := Lib.hid hown
  have HB := Lib.hid hb
  have hz := hb.size
  clear hown hb HP
  go_wp2_with (at_builtin; refine wp_append_s rfl (.tmp 6) (.tmp 7) 9 (by kernel_rfl) rfl w.heap.size _ L (putL s.size) rfl HO.out s rfl (by omega) (by omega) ?_; intro v1 w2 hown2 hgrow2; refine pause ?_)
  have hB2 : Below w.heap.size w w2 := HB.out.grown hgrow2 (by omega) (fun q hq => (HO.out.lt q hq).1)
  obtain ⟨A2, c2, rfl, hl2, h2, _⟩ := own_slB hown2 (pn_bytes s)
  have HO2 := Lib.hid hown2
  have HS := Lib.hid h2
  have HB2 := Lib.hid hB2
  have HL2 := Lib.hid hl2
  clear h2 hB2 hown2 hgrow2 hl2
  unfold Pause
  go_wp2_with fail
  go_ret
  refine ⟨A2, c2, rfl, HS.out, ?_, HB2.out⟩
  have h := HO2.out
  rw [HL2.out] at h
  exact h
end Go.Proofs.Ytbakhodijhacoaa.Sc

namespace Go.Proofs.Ytbakhodijhacoaa.Va
open Go.RowKit Go.Proofs.Ytbakhodijhacoaa.BM Go.Proofs.Ytbakhodijhacoaa.LM Go.Proofs.Ytbakhodijhacoaa.LeM Go.Proofs.Ytbakhodijhacoaa.LeZ Go.Proofs.Ytbakhodijhacoaa.VaM

theorem refPut_sl (n : Nat) (w : World) (hn : n < 18446744073709551616) : Calls Try.prog 27 #[.int .u64 n] w (PutSl n w) := (LeG.refPut_any n w hn).mono fun _ _ h => putSl_of h

set_option maxRecDepth 100000 in
set_option maxHeartbeats 2000000 in
theorem refPut_any (k n : Int) (s : ByteArray) (w : World) (hr : Rng ⟨k, n, s⟩) :
    Calls Try.prog 28 #[.agg #[.int .i64 k, .int .i64 n, .string s]] w (Putted ⟨k, n, s⟩ w) := by
  have HB := Lib.hid ((Below.refl w.heap.size w).alloc (Nat.le_refl _) (.cells #[.int .i64 k, .int .i64 n, .string s] 44))
  have HX := Lib.hid (bx_new w (.int .i64 k) (.int .i64 n) (.string s))
  have HR := Lib.hid hr
  clear hr
  go_enter Try.func28, Try.ntmps28
  go_wp2_with fail
  refine (refMay_any k n s _).mono ?_
  rintro e w1 ⟨rfl, hb1⟩
  have HB1 := Lib.hid (bt HB.out hb1)
  have HX1 := Lib.hid (HX.out.kept hb1)
  clear hb1 HB HX
  by_cases hm : May ⟨k, n, s⟩
  · rw [decide_eq_true hm]
    have hN : num ⟨k, n, s⟩ < 18446744073709551616 := num_lt hm HR.out
    have hP := fun W => refPut_sl (num ⟨k, n, s⟩) W hN
    have hpv : pv ⟨k, n, s⟩ = [k] ++ putL (num ⟨k, n, s⟩) ++ bl s := by rw [pv, if_pos hm]; rfl
    have hlen := putL_len64 hN
    have hpos := putL_pos (num ⟨k, n, s⟩)
    have hk := may_kind hm
    have hsz := may_size hm
    simp only at hk hsz
    have hz := zig_rng (n := n) HR.out.1 HR.out.2
    have HZ := Lib.hid (fun W => refZig_any n W HR.out.1 HR.out.2)
    have hk0 : k = 0 → zig n = ((num ⟨k, n, s⟩ : Nat) : Int) := fun h => by
      rw [num, if_pos h]
      show zig n = ((zig n).toNat : Int)
      omega
    have hk2 : k = 2 → (s.size : Int) = ((num ⟨k, n, s⟩ : Nat) : Int) := fun h => by rw [num, if_neg (show ¬ k = 0 by omega), if_pos h]
    have hk1 : k ≠ 0 → k ≠ 2 → 0 ≤ n ∧ n = ((num ⟨k, n, s⟩ : Nat) : Int) := fun h h' => by
      have e : num ⟨k, n, s⟩ = n.toNat := by rw [num, if_neg h, if_neg h']
      rw [e]
      rcases hm with ⟨h1, _, _⟩ | ⟨_, h1 | ⟨_, h1⟩ | ⟨_, h1, h2⟩⟩
      · exact absurd h1 h'
      · exact absurd h1 h
      · replace h1 : n = 0 ∨ n = 1 := h1
        omega
      · replace h1 : 0 ≤ n := h1
        omega
    obtain ⟨N, hNd⟩ : ∃ N, N = num ⟨k, n, s⟩ := ⟨_, rfl⟩
    rw [← hNd] at hN hpv hlen hpos hk0 hk2 hk1
    simp only [← hNd] at hP
    have HPut := Lib.hid hP
    have HPv := Lib.hid hpv
    have HMay := Lib.hid hm
    have HK0 := Lib.hid hk0
    have HK1 := Lib.hid hk1
    have HK2 := Lib.hid hk2
    obtain ⟨L, hL⟩ : ∃ L, L = (putL N).length := ⟨_, rfl⟩
    rw [← hL] at hlen hpos
    have HL := Lib.hid hL
    obtain ⟨⟨p0, p1, p2⟩, _⟩ := HX1.out
    clear hP hpv hm hk0 hk1 hk2 hNd hL
    by_cases k0 : k = 0
    · have hz' := HK0.out k0
      subst k0
      go_wp2_with fail
      refine (HZ.out _).mono ?_
      rintro e w2 ⟨rfl, rfl⟩
      rw [hz']
      clear hz'
      go_wp2_with fail
      refine RegB.GS_start (fun x => Bx x w.heap.size (.int .i64 0) (.int .i64 n) (.string s)) (by kernel_rfl) (by repeat (first | exact Reg.frameless_bodyPost | refine Reg.frameless_then ?_ | refine Reg.frameless_inBlock ?_)) (fun W hW => HX1.out.kept hW) (fun W hW => ?_)
      have HW := Lib.hid hW
      have x0 : ∀ x : RegB.At (fun x => Bx x w.heap.size (.int .i64 0) (.int .i64 n) (.string s)), x.world.cell? ⟨w.heap.size, 0, none⟩ = some (.int .i64 0) := fun x => x.ok.1.1
      haveI : Nonempty (RegB.At (fun x => Bx x w.heap.size (.int .i64 0) (.int .i64 n) (.string s))) := ⟨⟨W, HX1.out.kept hW⟩⟩
      clear hW p0 p1 p2
      first | (refine RegB.GS_step (i := 0) rfl (by kernel_rfl) (by rfl) (fun K hK => ?_); go_big_quiet_op; refine hK _ ?_; clear hK K)
      first | (refine RegB.GS_step (i := 1) rfl (by kernel_rfl) (by rfl) (fun K hK => ?_); go_big_quiet_op; refine hK _ ?_; clear hK K)
      first | (refine RegB.GS_step (i := 2) rfl (by kernel_rfl) (by rfl) (fun K hK => ?_); go_big_quiet_op; refine hK _ ?_; clear hK K)
      first | (refine RegB.GS_step (i := 4) rfl (by kernel_rfl) (by rfl) (fun K hK => ?_); go_big_quiet_op; refine hK _ ?_; clear hK K)
      refine RegB.GS_fork (i := 3) (j := 5) rfl rfl (by kernel_rfl) (by rfl) (by rfl) (fun K hK => ?_) (fun K hK => ?_)
      focus
        go_simp
        refine hK _ _ ((HX1.out.kept HW.out).kept ((Below.refl _ _).alloc (Nat.le_refl _) _)) ?_
        clear hK K
        refine RegB.GS_event (i := 5) rfl (by kernel_rfl) (by rfl) (fun K hK => ?_)
        go_simp
        refine (HPut.out _).mono ?_
        rintro e w4 ⟨A, c, rfl, h4, _, hB4⟩
        rw [← HL.out]
        refine hK _ _ (((HX1.out.kept HW.out).kept ((Below.refl _ _).alloc (Nat.le_refl _) _)).kept hB4) ?_
        clear hK K
        have hown := RegA.own_below (World.ownsRow_lit (base := w1.heap.size) (e := 5) (size := 1) W #[.int .u8 0] 1 HW.out.size (by decide) rfl) hB4
        have hbel : Below w1.heap.size w1 w4 := bt HW.out (bt ((Below.refl _ W).alloc (Nat.le_refl _) (.cells #[.int .u8 0] 5)) hB4)
        obtain ⟨g, hg⟩ : ∃ g, g = W.heap.size := ⟨_, rfl⟩
        rw [← hg] at hown ⊢
        have HO := Lib.hid hown
        have HBel := Lib.hid hbel
        have H4 := Lib.hid h4
        clear hown hbel h4 hB4 hg
      rotate_left
      focus
        go_simp
        refine (HPut.out _).mono ?_
        rintro e w3 ⟨A, c, rfl, h3, _, hB3⟩
        rw [← HL.out]
        refine hK _ _ ((HX1.out.kept HW.out).kept hB3) ?_
        clear hK K
        refine RegB.GS_event (i := 3) rfl (by kernel_rfl) (by rfl) (fun K hK => ?_)
        go_simp
        refine hK _ _ (((HX1.out.kept HW.out).kept hB3).kept ((Below.refl _ _).alloc (Nat.le_refl _) _)) ?_
        clear hK K
        have hown := World.ownsRow_lit (base := w1.heap.size) (e := 5) (size := 1) w3 #[.int .u8 0] 1 (bt HW.out hB3).size (by decide) rfl
        have hbel : Below w1.heap.size w1 (w3.alloc (.cells #[.int .u8 0] 5)) := bt HW.out (bt hB3 ((Below.refl _ w3).alloc (Nat.le_refl _) (.cells #[.int .u8 0] 5)))
        have h4 := h3.kept ((Below.refl _ w3).alloc (Nat.le_refl _) (.cells #[.int .u8 0] 5))
        obtain ⟨g, hg⟩ : ∃ g, g = w3.heap.size := ⟨_, rfl⟩
        obtain ⟨w4, hw4⟩ : ∃ w4, w4 = w3.alloc (.cells #[.int .u8 0] 5) := ⟨_, rfl⟩
        rw [← hw4] at hown hbel h4 ⊢
        rw [← hg] at hown ⊢
        have HO := Lib.hid hown
        have HBel := Lib.hid hbel
        have H4 := Lib.hid h4
        clear hown hbel h4 hB3 h3 hg hw4
      all_goals
        have hsz1 := HBel.out.size
        refine RegB.GS_event (i := 6) rfl (by kernel_rfl) (by rfl) (fun K hK => ?_)
        refine RegA.op_append_b (.tmp 30) (.tmp 32) rfl w1.heap.size _ 1 [0] rfl HO.out A L c (putL N) rfl HL.out.symm H4.out.1 hpos (by omega) hsz1 ?_
        intro v5 w5 hown5 hgrow5
        have hB5 : Below w1.heap.size w1 w5 := HBel.out.grown hgrow5 hsz1 (fun q hq => (HO.out.lt q hq).1)
        refine hK _ _ (HX1.out.kept hB5) ?_
        clear hK K
        simp only [Act.put, List.setIfInBounds_toArray, List.set_cons_zero, List.set_cons_succ]
        first | (refine RegB.GS_step (i := 7) rfl (by kernel_rfl) (by rfl) (fun K hK => ?_); go_big_quiet_op; refine hK _ ?_; clear hK K)
        refine RegB.GS_done (by kernel_rfl) ?_
        obtain ⟨⟨p0, p1, p2⟩, _⟩ := HX1.out.kept hB5
        have hsz5 := hB5.size
        have HO5 := Lib.hid hown5
        have HB5 := Lib.hid hB5
        clear hown5 hB5 hgrow5 x0 p0 p1
        go_wp2_with (at_builtin; refine wp_append_s rfl (.tmp 34) (.tmp 36) 9 Try.underlying9 rfl w1.heap.size v5 (1 + L) ([0] ++ putL N) rfl HO5.out s rfl (by omega) hsz5 ?_; intro v6 w6 hown6 hgrow6; refine pause ?_)
        have hB6 : Below w1.heap.size w1 w6 := HB5.out.grown hgrow6 hsz5 (fun q hq => (HO5.out.lt q hq).1)
        rw [← HPv.out] at hown6
        obtain ⟨A6, c6, rfl, hl6, h6, h7⟩ := own_slB hown6 (pv_bytes _)
        have hszw := HB1.out.size
        have H7 := Lib.hid (show ∀ a, A6 = some a → w.heap.size ≤ a.block from fun a ha => by have := (h7 a ha).2.1; omega)
        have H6 := Lib.hid h6
        have HB6 := Lib.hid (bt HB1.out hB6)
        clear h6 h7 hB6 hown6 hgrow6 p2 hl6
        unfold Pause
        go_wp2_with fail
        go_ret2
        exact ⟨A6, c6, ret_v (putted_v HMay.out rfl A6 c6), H6.out, H7.out, HB6.out⟩
    · by_cases k2 : k = 2
      · have hz' := HK2.out k2
        subst k2
        go_wp2_with fail
        refine RegB.GS_start (fun x => Bx x w.heap.size (.int .i64 2) (.int .i64 n) (.string s)) (by kernel_rfl) (by repeat (first | exact Reg.frameless_bodyPost | refine Reg.frameless_then ?_ | refine Reg.frameless_inBlock ?_)) (fun W hW => HX1.out.kept hW) (fun W hW => ?_)
        have HW := Lib.hid hW
        have x0 : ∀ x : RegB.At (fun x => Bx x w.heap.size (.int .i64 2) (.int .i64 n) (.string s)), x.world.cell? ⟨w.heap.size, 0, none⟩ = some (.int .i64 2) := fun x => x.ok.1.1
        haveI : Nonempty (RegB.At (fun x => Bx x w.heap.size (.int .i64 2) (.int .i64 n) (.string s))) := ⟨⟨W, HX1.out.kept hW⟩⟩
        clear hW p0 p1 p2
        first | (refine RegB.GS_step (i := 0) rfl (by kernel_rfl) (by rfl) (fun K hK => ?_); go_big_quiet_op; refine hK _ ?_; clear hK K)
        first | (refine RegB.GS_step (i := 1) rfl (by kernel_rfl) (by rfl) (fun K hK => ?_); go_big_quiet_op; refine hK _ ?_; clear hK K)
        first | (refine RegB.GS_step (i := 2) rfl (by kernel_rfl) (by rfl) (fun K hK => ?_); go_big_quiet_op; refine hK _ ?_; clear hK K)
        first | (refine RegB.GS_step (i := 4) rfl (by kernel_rfl) (by rfl) (fun K hK => ?_); go_big_quiet_op; refine hK _ ?_; clear hK K)
        refine RegB.GS_fork (i := 3) (j := 5) rfl rfl (by kernel_rfl) (by rfl) (by rfl) (fun K hK => ?_) (fun K hK => ?_)
        focus
          go_simp
          refine hK _ _ ((HX1.out.kept HW.out).kept ((Below.refl _ _).alloc (Nat.le_refl _) _)) ?_
          clear hK K
          refine RegB.GS_event (i := 5) rfl (by kernel_rfl) (by rfl) (fun K hK => ?_)
          go_simp
          refine (HPut.out _).mono ?_
          rintro e w4 ⟨A, c, rfl, h4, _, hB4⟩
          rw [← HL.out]
          refine hK _ _ (((HX1.out.kept HW.out).kept ((Below.refl _ _).alloc (Nat.le_refl _) _)).kept hB4) ?_
          clear hK K
          have hown := RegA.own_below (World.ownsRow_lit (base := w1.heap.size) (e := 5) (size := 1) W #[.int .u8 2] 1 HW.out.size (by decide) rfl) hB4
          have hbel : Below w1.heap.size w1 w4 := bt HW.out (bt ((Below.refl _ W).alloc (Nat.le_refl _) (.cells #[.int .u8 2] 5)) hB4)
          obtain ⟨g, hg⟩ : ∃ g, g = W.heap.size := ⟨_, rfl⟩
          rw [← hg] at hown ⊢
          have HO := Lib.hid hown
          have HBel := Lib.hid hbel
          have H4 := Lib.hid h4
          clear hown hbel h4 hB4 hg
        rotate_left
        focus
          go_simp
          refine (HPut.out _).mono ?_
          rintro e w3 ⟨A, c, rfl, h3, _, hB3⟩
          rw [← HL.out]
          refine hK _ _ ((HX1.out.kept HW.out).kept hB3) ?_
          clear hK K
          refine RegB.GS_event (i := 3) rfl (by kernel_rfl) (by rfl) (fun K hK => ?_)
          go_simp
          refine hK _ _ (((HX1.out.kept HW.out).kept hB3).kept ((Below.refl _ _).alloc (Nat.le_refl _) _)) ?_
          clear hK K
          have hown := World.ownsRow_lit (base := w1.heap.size) (e := 5) (size := 1) w3 #[.int .u8 2] 1 (bt HW.out hB3).size (by decide) rfl
          have hbel : Below w1.heap.size w1 (w3.alloc (.cells #[.int .u8 2] 5)) := bt HW.out (bt hB3 ((Below.refl _ w3).alloc (Nat.le_refl _) (.cells #[.int .u8 2] 5)))
          have h4 := h3.kept ((Below.refl _ w3).alloc (Nat.le_refl _) (.cells #[.int .u8 2] 5))
          obtain ⟨g, hg⟩ : ∃ g, g = w3.heap.size := ⟨_, rfl⟩
          obtain ⟨w4, hw4⟩ : ∃ w4, w4 = w3.alloc (.cells #[.int .u8 2] 5) := ⟨_, rfl⟩
          rw [← hw4] at hown hbel h4 ⊢
          rw [← hg] at hown ⊢
          have HO := Lib.hid hown
          have HBel := Lib.hid hbel
          have H4 := Lib.hid h4
          clear hown hbel h4 hB3 h3 hg hw4
        all_goals
          have hsz1 := HBel.out.size
          refine RegB.GS_event (i := 6) rfl (by kernel_rfl) (by rfl) (fun K hK => ?_)
          refine RegA.op_append_b (.tmp 30) (.tmp 32) rfl w1.heap.size _ 1 [2] rfl HO.out A L c (putL N) rfl HL.out.symm H4.out.1 hpos (by omega) hsz1 ?_
          intro v5 w5 hown5 hgrow5
          have hB5 : Below w1.heap.size w1 w5 := HBel.out.grown hgrow5 hsz1 (fun q hq => (HO.out.lt q hq).1)
          refine hK _ _ (HX1.out.kept hB5) ?_
          clear hK K
          simp only [Act.put, List.setIfInBounds_toArray, List.set_cons_zero, List.set_cons_succ]
          first | (refine RegB.GS_step (i := 7) rfl (by kernel_rfl) (by rfl) (fun K hK => ?_); go_big_quiet_op; refine hK _ ?_; clear hK K)
          refine RegB.GS_done (by kernel_rfl) ?_
          obtain ⟨⟨p0, p1, p2⟩, _⟩ := HX1.out.kept hB5
          have hsz5 := hB5.size
          have HO5 := Lib.hid hown5
          have HB5 := Lib.hid hB5
          clear hown5 hB5 hgrow5 x0 p0 p1
          go_wp2_with (at_builtin; refine wp_append_s rfl (.tmp 34) (.tmp 36) 9 Try.underlying9 rfl w1.heap.size v5 (1 + L) ([2] ++ putL N) rfl HO5.out s rfl (by omega) hsz5 ?_; intro v6 w6 hown6 hgrow6; refine pause ?_)
          have hB6 : Below w1.heap.size w1 w6 := HB5.out.grown hgrow6 hsz5 (fun q hq => (HO5.out.lt q hq).1)
          rw [← HPv.out] at hown6
          obtain ⟨A6, c6, rfl, hl6, h6, h7⟩ := own_slB hown6 (pv_bytes _)
          have hszw := HB1.out.size
          have H7 := Lib.hid (show ∀ a, A6 = some a → w.heap.size ≤ a.block from fun a ha => by have := (h7 a ha).2.1; omega)
          have H6 := Lib.hid h6
          have HB6 := Lib.hid (bt HB1.out hB6)
          clear h6 h7 hB6 hown6 hgrow6 p2 hl6
          unfold Pause
          go_wp2_with fail
          go_ret2
          exact ⟨A6, c6, ret_v (putted_v HMay.out rfl A6 c6), H6.out, H7.out, HB6.out⟩
      · obtain ⟨hn0, hn1⟩ := HK1.out k0 k2
        have hnb : n ≤ 9223372036854775807 := HR.out.2
        subst hn1
        have b0 : (k == 0) = false := by simpa using k0
        have b2 : (k == 2) = false := by simpa using k2
        go_wp2_with fail
        refine RegB.GS_start (fun x => Bx x w.heap.size (.int .i64 k) (.int .i64 (N : Int)) (.string s)) (by kernel_rfl) (by repeat (first | exact Reg.frameless_bodyPost | refine Reg.frameless_then ?_ | refine Reg.frameless_inBlock ?_)) (fun W hW => HX1.out.kept hW) (fun W hW => ?_)
        have HW := Lib.hid hW
        have x0 : ∀ x : RegB.At (fun x => Bx x w.heap.size (.int .i64 k) (.int .i64 (N : Int)) (.string s)), x.world.cell? ⟨w.heap.size, 0, none⟩ = some (.int .i64 k) := fun x => x.ok.1.1
        haveI : Nonempty (RegB.At (fun x => Bx x w.heap.size (.int .i64 k) (.int .i64 (N : Int)) (.string s))) := ⟨⟨W, HX1.out.kept hW⟩⟩
        clear hW p0 p1 p2
        first | (refine RegB.GS_step (i := 0) rfl (by kernel_rfl) (by rfl) (fun K hK => ?_); go_big_quiet_op; refine hK _ ?_; clear hK K)
        first | (refine RegB.GS_step (i := 1) rfl (by kernel_rfl) (by rfl) (fun K hK => ?_); go_big_quiet_op; refine hK _ ?_; clear hK K)
        first | (refine RegB.GS_step (i := 2) rfl (by kernel_rfl) (by rfl) (fun K hK => ?_); go_big_quiet_op; refine hK _ ?_; clear hK K)
        first | (refine RegB.GS_step (i := 4) rfl (by kernel_rfl) (by rfl) (fun K hK => ?_); go_big_quiet_op; refine hK _ ?_; clear hK K)
        refine RegB.GS_fork (i := 3) (j := 5) rfl rfl (by kernel_rfl) (by rfl) (by rfl) (fun K hK => ?_) (fun K hK => ?_)
        focus
          go_simp
          refine hK _ _ ((HX1.out.kept HW.out).kept ((Below.refl _ _).alloc (Nat.le_refl _) _)) ?_
          clear hK K
          refine RegB.GS_event (i := 5) rfl (by kernel_rfl) (by rfl) (fun K hK => ?_)
          go_simp
          refine (HPut.out _).mono ?_
          rintro e w4 ⟨A, c, rfl, h4, _, hB4⟩
          rw [← HL.out]
          refine hK _ _ (((HX1.out.kept HW.out).kept ((Below.refl _ _).alloc (Nat.le_refl _) _)).kept hB4) ?_
          clear hK K
          have hown := RegA.own_below (World.ownsRow_lit (base := w1.heap.size) (e := 5) (size := 1) W #[.int .u8 k] 1 HW.out.size (by decide) rfl) hB4
          have hbel : Below w1.heap.size w1 w4 := bt HW.out (bt ((Below.refl _ W).alloc (Nat.le_refl _) (.cells #[.int .u8 k] 5)) hB4)
          obtain ⟨g, hg⟩ : ∃ g, g = W.heap.size := ⟨_, rfl⟩
          rw [← hg] at hown ⊢
          have HO := Lib.hid hown
          have HBel := Lib.hid hbel
          have H4 := Lib.hid h4
          clear hown hbel h4 hB4 hg
        rotate_left
        focus
          go_simp
          refine (HPut.out _).mono ?_
          rintro e w3 ⟨A, c, rfl, h3, _, hB3⟩
          rw [← HL.out]
          refine hK _ _ ((HX1.out.kept HW.out).kept hB3) ?_
          clear hK K
          refine RegB.GS_event (i := 3) rfl (by kernel_rfl) (by rfl) (fun K hK => ?_)
          go_simp
          refine hK _ _ (((HX1.out.kept HW.out).kept hB3).kept ((Below.refl _ _).alloc (Nat.le_refl _) _)) ?_
          clear hK K
          have hown := World.ownsRow_lit (base := w1.heap.size) (e := 5) (size := 1) w3 #[.int .u8 k] 1 (bt HW.out hB3).size (by decide) rfl
          have hbel : Below w1.heap.size w1 (w3.alloc (.cells #[.int .u8 k] 5)) := bt HW.out (bt hB3 ((Below.refl _ w3).alloc (Nat.le_refl _) (.cells #[.int .u8 k] 5)))
          have h4 := h3.kept ((Below.refl _ w3).alloc (Nat.le_refl _) (.cells #[.int .u8 k] 5))
          obtain ⟨g, hg⟩ : ∃ g, g = w3.heap.size := ⟨_, rfl⟩
          obtain ⟨w4, hw4⟩ : ∃ w4, w4 = w3.alloc (.cells #[.int .u8 k] 5) := ⟨_, rfl⟩
          rw [← hw4] at hown hbel h4 ⊢
          rw [← hg] at hown ⊢
          have HO := Lib.hid hown
          have HBel := Lib.hid hbel
          have H4 := Lib.hid h4
          clear hown hbel h4 hB3 h3 hg hw4
        all_goals
          have hsz1 := HBel.out.size
          refine RegB.GS_event (i := 6) rfl (by kernel_rfl) (by rfl) (fun K hK => ?_)
          refine RegA.op_append_b (.tmp 30) (.tmp 32) rfl w1.heap.size _ 1 [k] rfl HO.out A L c (putL N) rfl HL.out.symm H4.out.1 hpos (by omega) hsz1 ?_
          intro v5 w5 hown5 hgrow5
          have hB5 : Below w1.heap.size w1 w5 := HBel.out.grown hgrow5 hsz1 (fun q hq => (HO.out.lt q hq).1)
          refine hK _ _ (HX1.out.kept hB5) ?_
          clear hK K
          simp only [Act.put, List.setIfInBounds_toArray, List.set_cons_zero, List.set_cons_succ]
          first | (refine RegB.GS_step (i := 7) rfl (by kernel_rfl) (by rfl) (fun K hK => ?_); go_big_quiet_op; refine hK _ ?_; clear hK K)
          refine RegB.GS_done (by kernel_rfl) ?_
          obtain ⟨⟨p0, p1, p2⟩, _⟩ := HX1.out.kept hB5
          have hsz5 := hB5.size
          have HO5 := Lib.hid hown5
          have HB5 := Lib.hid hB5
          clear hown5 hB5 hgrow5 x0 p0 p1
          go_wp2_with (at_builtin; refine wp_append_s rfl (.tmp 34) (.tmp 36) 9 Try.underlying9 rfl w1.heap.size v5 (1 + L) ([k] ++ putL N) rfl HO5.out s rfl (by omega) hsz5 ?_; intro v6 w6 hown6 hgrow6; refine pause ?_)
          have hB6 : Below w1.heap.size w1 w6 := HB5.out.grown hgrow6 hsz5 (fun q hq => (HO5.out.lt q hq).1)
          rw [← HPv.out] at hown6
          obtain ⟨A6, c6, rfl, hl6, h6, h7⟩ := own_slB hown6 (pv_bytes _)
          have hszw := HB1.out.size
          have H7 := Lib.hid (show ∀ a, A6 = some a → w.heap.size ≤ a.block from fun a ha => by have := (h7 a ha).2.1; omega)
          have H6 := Lib.hid h6
          have HB6 := Lib.hid (bt HB1.out hB6)
          clear h6 h7 hB6 hown6 hgrow6 p2 hl6
          unfold Pause
          go_wp2_with fail
          go_ret2
          exact ⟨A6, c6, ret_v (putted_v HMay.out rfl A6 c6), H6.out, H7.out, HB6.out⟩
  · rw [decide_eq_false hm]
    have HMay := Lib.hid hm
    have hp : pv ⟨k, n, s⟩ = [] := by rw [pv, if_neg hm]
    have HP := Lib.hid hp
    clear hm hp
    go_wp2_with fail
    go_ret2
    exact ⟨none, 0, ret_v (putted_n HMay.out), by rw [HP.out]; exact slB_none _, (fun a ha => by cases ha), HB1.out⟩
end Go.Proofs.Ytbakhodijhacoaa.Va

namespace Go.Proofs.Ytbakhodijhacoaa.Ev
open Go.RowKit Go.Proofs.Ytbakhodijhacoaa.BM Go.Proofs.Ytbakhodijhacoaa.LM Go.Proofs.Ytbakhodijhacoaa.LeM Go.Proofs.Ytbakhodijhacoaa.EvM
open Go.Proofs.Ytbakhodijhacoaa.VaM (V Rng bl bl_bytes bl_len putV putV_len putV_bytes)
open Go.Proofs.Ytbakhodijhacoaa.Va (SlV slV_len slV_none bx_new_t Bx CellV ret_v PutSl)
open Go.Proofs.Ytbakhodijhacoaa.Sc (own_low own_row refPut_sl refText_any)
open Go.Proofs.Ytbakhodijhacoaa.ScM (Nm nm_size pn pn_bytes pn_len)

set_option maxRecDepth 100000 in
set_option maxHeartbeats 4000000 in
theorem refPut_any (e : Ev) (A : Option Addr) (c : Nat) (w : World) (hS : SlV w A e.v c) (hz : Fine e) :
    Calls Try.prog 13 #[.agg #[.string e.s, .int .i64 e.t, .slice A e.v.length c]] w (Putted e w) := by
  have hm1 := fun W (hW : Below w.heap.size w W) => refMay_any e A c W (hS.kept hW) hz
  have hl := slV_len hS
  have hrng : Rngs e.v := fun x hx => (hS.2 x hx).2
  have HS := Lib.hid hS
  by_cases hmay : May e
  · have HMay := Lib.hid hmay
    have HRng := Lib.hid hrng
    have hpv : pv e = pE e := by rw [pv, if_pos hmay]
    have hnm := nm_size hmay.1
    have ht1 := hmay.2.1
    have ht2 := hmay.2.2.1
    have hl6 := hmay.2.2.2.1
    have hok : ∀ x ∈ e.v, VaM.May x := fun x hx => hmay.vok hx
    simp only [decide_eq_true hmay] at hm1
    have HPv := Lib.hid hpv
    have HOk := Lib.hid hok
    clear hz hpv hok hS
    obtain ⟨nm, t, l⟩ := e
    have hpS := fun j hj => head_len hmay hrng j hj
    simp only at hm1 HS hl hnm ht1 ht2 hl6 HOk hpS ⊢
    clear hmay hrng
    have HPn := Lib.hid (fun W => refText_any nm W (by omega))
    have HPt := Lib.hid (fun W => refPut_sl t.toNat W (by omega))
    have HPl := Lib.hid (fun W => refPut_sl l.length W (by omega))
    have htn : ((t.toNat : Nat) : Int) = t := by omega
    rw [htn] at HPt
    obtain ⟨P, hP⟩ : ∃ P, P = pn nm ++ (putL t.toNat ++ putL l.length) := ⟨_, rfl⟩
    rw [← hP] at hpS
    have hPlen : P.length ≤ 400 := by
      have h := (hpS 0 (Nat.zero_le _)).1
      rw [List.length_append] at h
      omega
    obtain ⟨_, hq1, hq2, hq3⟩ := hpS 0 (Nat.zero_le _)
    have HPre := Lib.hid hP
    have HpS := Lib.hid (fun j hj => (hpS j hj).1)
    obtain ⟨n, hn⟩ : ∃ n, n = l.length := ⟨_, rfl⟩
    rw [← hn] at HPre hq3
    simp only [← hn] at hm1 HPl
    rw [← hn] at hl hl6 HpS ⊢
    have HN := Lib.hid hn
    have HM1 := Lib.hid hm1
    have HX0 := Lib.hid (bx_new_t w 27 (.string nm) (.int .i64 t) (.slice A n c))
    have HB0 := Lib.hid ((Below.refl w.heap.size w).alloc (Nat.le_refl _) (.cells #[.string nm, .int .i64 t, .slice A n c] 27))
    obtain ⟨m1, hm1'⟩ : ∃ m, m = (pn nm).length := ⟨_, rfl⟩
    obtain ⟨m2, hm2⟩ : ∃ m, m = (putL t.toNat).length := ⟨_, rfl⟩
    obtain ⟨m3, hm3⟩ : ∃ m, m = (putL n).length := ⟨_, rfl⟩
    rw [← hm1'] at hq1
    rw [← hm2] at hq2
    rw [← hm3] at hq3
    have HQ1 := Lib.hid hm1'
    have HM2' := Lib.hid hm2
    have HM3' := Lib.hid hm3
    clear hn hm1 hpS hP htn hm1' hm2 hm3
    obtain ⟨⟨p0, p1, p2⟩, _⟩ := HX0.out
    go_enter Try.func13, Try.ntmps13
    go_wp2_with fail
    refine (HM1.out _ HB0.out).mono ?_
    rintro e w1 ⟨rfl, hb1⟩
    have HB1 := Lib.hid (bt HB0.out hb1)
    have HX1 := Lib.hid (HX0.out.kept hb1)
    clear hb1 HB0 HX0 p0 p1 p2 HM1
    have hsz0 := HB1.out.size
    obtain ⟨⟨p0, p1, p2⟩, _⟩ := HX1.out
    go_wp2_with fail
    refine (HPn.out _).mono ?_
    rintro e w3 ⟨A1, c1, rfl, _, hown, hb3⟩
    rw [← HQ1.out] at hown ⊢
    have HO3 := Lib.hid hown
    have HB3 := Lib.hid hb3
    have hz3 := hb3.size
    clear hown hb3 HPn p0 p1 p2
    obtain ⟨⟨p0, p1, p2⟩, _⟩ := HX1.out.kept HB3.out
    go_wp2_with fail
    refine (HPt.out _).mono ?_
    rintro e w4 ⟨A2, c2, rfl, hs4, _, hb4⟩
    rw [← HM2'.out]
    have HO4 := Lib.hid (RegA.own_below HO3.out hb4)
    have HB4 := Lib.hid (bt HB3.out hb4)
    have HS4 := Lib.hid hs4
    have hz4 := HB4.out.size
    clear hs4 hb4 HB3 HO3 p0 p1 p2 HPt
    go_wp2_with (at_builtin; refine wp_append_b rfl (.tmp 16) (.tmp 20) rfl w1.heap.size _ (m1) _ rfl HO4.out A2 m2 c2 (putL t.toNat) rfl HM2'.out.symm HS4.out.1 HS4.out.2.2.1 (by omega) hz4 ?_; intro u5 w5 hown5 hgrow5; refine pause ?_)
    have hB5 : Below w1.heap.size w1 w5 := HB4.out.grown hgrow5 hz4 (fun q hq => (HO4.out.lt q hq).1)
    have HO5 := Lib.hid hown5
    have HB5 := Lib.hid hB5
    clear hown5 hgrow5 hB5 HO4 HS4
    unfold Pause
    obtain ⟨⟨p0, p1, p2⟩, _⟩ := HX1.out.kept HB5.out
    go_wp2_with fail
    refine (HPl.out _).mono ?_
    rintro e w6 ⟨A3, c3, rfl, hs6, _, hb6⟩
    rw [← HM3'.out]
    have HO6 := Lib.hid (RegA.own_below HO5.out hb6)
    have HB6 := Lib.hid (bt HB5.out hb6)
    have HS6 := Lib.hid hs6
    have hz6 := HB6.out.size
    clear hs6 hb6 HB5 HO5 p0 p1 p2 HPl
    go_wp2_with (at_builtin; refine wp_append_b rfl (.tmp 22) (.tmp 27) rfl w1.heap.size u5 (m1 + m2) _ rfl HO6.out A3 m3 c3 (putL n) rfl HM3'.out.symm HS6.out.1 HS6.out.2.2.1 (by omega) hz6 ?_; intro u7 w7 hown7 hgrow7; refine pause ?_)
    have hB7 : Below w1.heap.size w1 w7 := HB6.out.grown hgrow7 hz6 (fun q hq => (HO6.out.lt q hq).1)
    have he7 : pn nm ++ putL t.toNat ++ putL n = P := by rw [HPre.out, List.append_assoc]
    rw [he7] at hown7
    have hk7 : m1 + m2 + m3 = P.length := by rw [← he7, List.length_append, List.length_append, ← HQ1.out, ← HM2'.out, ← HM3'.out]
    have HO7 := Lib.hid hown7
    have HB7 := Lib.hid hB7
    have HK7 := Lib.hid hk7
    clear hown7 hgrow7 hB7 HO6 HS6 he7 hk7
    unfold Pause
    go_wp2_with fail
    go_loopw [5, 6] (fun u i wr => ∃ (j k : Nat), i = .int .i64 j ∧ j ≤ n ∧ k = (P ++ pvs (l.take j)).length ∧ wr.ownsRow w1.heap.size 5 1 u k (cs (P ++ pvs (l.take j))) ∧ Below w1.heap.size w1 wr) (fun _ i _ => n - (intOf i).toNat)
    case atStart => exact ⟨0, m1 + m2 + m3, rfl, Nat.zero_le _, by simpa [pvs] using HK7.out, by simpa [pvs] using HO7.out, HB7.out⟩
    case round =>
      obtain ⟨j, k, rfl, hj, hk, hown, hbel⟩ := hrel
      have hk2 := HpS.out j hj
      rw [← hk] at hk2
      have HO := Lib.hid hown
      have HK := Lib.hid hk
      have HBl2 := Lib.hid hbel
      clear hown hk hbel HO7 HB7
      obtain ⟨⟨_, _, p2⟩, _⟩ := HX1.out.kept HBl2.out
      by_cases hjn : j < n
      · obtain ⟨b, q, hix, hc, _, hrg⟩ := HS.out.at v0 j (by rw [← HN.out]; exact hjn)
        have hfok := HOk.out _ (getD_mem (l := l) (i := j) (by rw [← HN.out]; exact hjn))
        have hsn := take_snocV (l := l) (j := j) (by rw [← HN.out]; exact hjn)
        obtain ⟨⟨fk, fn, fs⟩, hf⟩ : ∃ f, f = l.getD j v0 := ⟨_, rfl⟩
        rw [← hf] at hc hfok hsn hrg
        obtain ⟨c0, c1', c2'⟩ := hc wr (bt HB1.out HBl2.out)
        simp only at c0 c1' c2'
        have hpl := (putV_len hfok hrg).2
        have hi := fun W => hix W n c hjn
        have hput := fun W => Va.refPut_any fk fn fs W hrg
        have hpp := pvV hfok
        unfold Va.Putted at hput
        rw [hpp, decide_eq_true hfok] at hput
        have HPu := Lib.hid hput
        have HSn := Lib.hid hsn
        obtain ⟨m, hm⟩ : ∃ m, m = (putV ⟨fk, fn, fs⟩).length := ⟨_, rfl⟩
        rw [← hm] at hpl
        have HM := Lib.hid hm
        clear hc hix hf hfok hsn hput hpp hm
        go_wp2_with fail
        refine (HPu.out _).mono ?_
        rintro e w2 ⟨A1, c1, rfl, hs2, _, hb2⟩
        rw [← HM.out]
        have HO2 := Lib.hid (RegA.own_below HO.out hb2)
        have HB3 := Lib.hid (bt HBl2.out hb2)
        have HS2 := Lib.hid hs2
        have hz3 := HB3.out.size
        clear hs2 hb2 c0 c1' c2' HPu HO p2
        go_wp2_with (at_builtin; refine wp_append_b rfl (.tmp 45) (.tmp 46) rfl w1.heap.size _ k _ rfl HO2.out A1 m c1 (putV ⟨fk, fn, fs⟩) rfl HM.out.symm HS2.out.1 HS2.out.2.2.1 (by omega) hz3 ?_; intro u4 w4 hown4 hgrow4; refine pause ?_)
        have hB4 : Below w1.heap.size w1 w4 := HB3.out.grown hgrow4 hz3 (fun q hq => (HO2.out.lt q hq).1)
        have he4 : (P ++ pvs (l.take j)) ++ putV ⟨fk, fn, fs⟩ = P ++ pvs (l.take (j + 1)) := by
          rw [HSn.out, pvs_snoc, List.append_assoc]
        rw [he4] at hown4
        have HO4 := Lib.hid hown4
        have HB4 := Lib.hid hB4
        have hk4 : k + m = (P ++ pvs (l.take (j + 1))).length := by
          rw [← he4, List.length_append, ← HM.out, ← HK.out]
        have HK4 := Lib.hid hk4
        clear hown4 hgrow4 hB4 he4 hk4
        unfold Pause
        go_wp2_with fail
        go_roundw
        case rel => exact ⟨j + 1, k + m, by go_num, by omega, HK4.out, HO4.out, HB4.out⟩
        case measure => simp [intOf]; omega
      · obtain rfl : j = n := by omega
        have hall : P ++ pvs (l.take j) = pv ⟨nm, t, l⟩ := by
          rw [HPv.out, HN.out, List.take_length, HPre.out, HN.out]
          rfl
        have hown := HO.out
        rw [hall] at hown
        obtain ⟨A5, c5, rfl, hl5, h5, h6⟩ := own_slB hown (pv_bytes _)
        have HS5 := Lib.hid h5
        have H6 := Lib.hid (fun a ha => Nat.le_trans hsz0 (h6 a ha).2.1)
        have HD := Lib.hid (decide_eq_true HMay.out)
        clear hall hown h5 h6 hl5
        go_wp2_with fail
        go_ret2
        exact ⟨A5, c5, ret_v (x := .tuple #[.slice A5 (pv ⟨nm, t, l⟩).length c5, .bool true]) (by rw [HD.out]), HS5.out, H6.out, bt HB1.out HBl2.out⟩
  · have hpv : pv e = [] := by rw [pv, if_neg hmay]
    simp only [decide_eq_false hmay] at hm1
    have HPv := Lib.hid hpv
    have HD := Lib.hid (decide_eq_false hmay)
    obtain ⟨n, hn⟩ : ∃ n, n = e.v.length := ⟨_, rfl⟩
    simp only [← hn] at hm1
    rw [← hn]
    have HM1 := Lib.hid hm1
    have hX0 := bx_new_t w 27 (.string e.s) (.int .i64 e.t) (.slice A n c)
    have HB0 := Lib.hid ((Below.refl w.heap.size w).alloc (Nat.le_refl _) (.cells #[.string e.s, .int .i64 e.t, .slice A n c] 27))
    clear hn hm1 hpv hmay hz hS hl hrng
    obtain ⟨⟨p0, p1, p2⟩, _⟩ := hX0
    go_enter Try.func13, Try.ntmps13
    go_wp2_with fail
    refine (HM1.out _ HB0.out).mono ?_
    rintro e w1 ⟨rfl, hb1⟩
    have HB1 := Lib.hid (bt HB0.out hb1)
    clear hb1 HB0 p0 p1 p2 HM1
    go_wp2_with fail
    go_ret2
    exact ⟨none, 0, ret_v (by rw [HD.out, HPv.out]; rfl), by rw [HPv.out]; exact slB_none _, (fun a ha => by cases ha), HB1.out⟩
end Go.Proofs.Ytbakhodijhacoaa.Ev

namespace Go.Proofs.Ytbakhodijhacoaa.Va
open Go.RowKit Go.Proofs.Ytbakhodijhacoaa.BM Go.Proofs.Ytbakhodijhacoaa.LM Go.Proofs.Ytbakhodijhacoaa.VaM

/-- Are two values the same? -/
def same (a b : V) : Bool := decide (a.k = b.k ∧ a.n = b.n ∧ a.s = b.s)

theorem same_iff {a b : V} : same a b = true ↔ a = b := by
  unfold same
  rw [decide_eq_true_iff]
  constructor
  · rintro ⟨h1, h2, h3⟩
    exact V.same h1 h2 h3
  · rintro rfl
    exact ⟨rfl, rfl, rfl⟩

theorem rng_of {n : Int} {k : Int} {s : ByteArray} (h : (Lit.int .i64 n).wf = true) : Rng ⟨k, n, s⟩ := by
  have hb := bounds_i64 h
  exact ⟨by simp only; omega, by simp only; omega⟩

/-- ==, of two values. -/
theorem eql_v (k n j m : Int) (s t : ByteArray) (w : World) :
    (binOp .eql 44 (.agg #[.int .i64 k, .int .i64 n, .string s]) (.agg #[.int .i64 j, .int .i64 m, .string t])).run Try.prog w = .ok (.bool (same ⟨k, n, s⟩ ⟨j, m, t⟩)) w := by
  have hs : same ⟨k, n, s⟩ ⟨j, m, t⟩ = ((k == j) && ((n == m) && (s.toList == t.toList))) := by
    rw [toList_beq, same, Bool.eq_iff_iff]
    simp
  rw [hs]
  simp only [run_eql_struct]
  go_simp
  by_cases h1 : k = j
  · by_cases h2 : n = m
    · by_cases h3 : s.toList = t.toList
      · simp [h1, h2, h3]
      · simp [h1, h2, h3]
    · simp [h1, h2]
  · simp [h1]

/-- !=, of two values. -/
theorem neq_v (k n j m : Int) (s t : ByteArray) (w : World) :
    (binOp .neq 44 (.agg #[.int .i64 k, .int .i64 n, .string s]) (.agg #[.int .i64 j, .int .i64 m, .string t])).run Try.prog w = .ok (.bool (!same ⟨k, n, s⟩ ⟨j, m, t⟩)) w := by
  have h := eql_v k n j m s t w
  rw [run_eql_struct] at h
  rw [run_neq_struct]
  cases hr : (Op.equalIn 10000 44 (.agg #[.int .i64 k, .int .i64 n, .string s]) (.agg #[.int .i64 j, .int .i64 m, .string t])).run Try.prog w with
  | ok b w' =>
    rw [hr] at h
    simp only [Result.andThen_ok] at h ⊢
    injection h with h1 h2
    injection h1 with h1
    rw [h1, h2]
  | halt x w' =>
    rw [hr] at h
    cases h
end Go.Proofs.Ytbakhodijhacoaa.Va

namespace Go.Proofs.Ytbakhodijhacoaa.Ev
open Go.RowKit Go.Proofs.Ytbakhodijhacoaa.BM Go.Proofs.Ytbakhodijhacoaa.EvM
open Go.Proofs.Ytbakhodijhacoaa.VaM (V)
open Go.Proofs.Ytbakhodijhacoaa.Va (SlV slV_len bx_new_t Bx CellV neq_v same same_iff ret_v)

theorem vals_iff {l m : List V} (h : l.length = m.length) : l = m ↔ ∀ j, j < l.length → l.getD j v0 = m.getD j v0 := by
  constructor
  · rintro rfl j _
    rfl
  · intro hh
    apply List.ext_getElem h
    intro i h1 h2
    have h3 := hh i h1
    rw [List.getD_eq_getElem?_getD, List.getD_eq_getElem?_getD, List.getElem?_eq_getElem h1, List.getElem?_eq_getElem h2] at h3
    exact h3

set_option maxRecDepth 100000 in
set_option maxHeartbeats 2000000 in
theorem equal_any (A : Option Addr) (l : List V) (c : Nat) (B : Option Addr) (m : List V) (d : Nat) (w : World) (h : SlV w A l c) (k : SlV w B m d) :
    Calls Try.prog 39 #[.slice A l.length c, .slice B m.length d] w fun e w' => e = .returned (.bool (decide (l = m))) ∧ Below w.heap.size w w' := by
  have hl := slV_len h
  have hm := slV_len k
  have hbi := fun hh => vals_iff (l := l) (m := m) hh
  have hno : l.length ≠ m.length → ¬ l = m := fun h1 h2 => h1 (by rw [h2])
  obtain ⟨n, hn⟩ : ∃ n, n = l.length := ⟨_, rfl⟩
  obtain ⟨r, hr⟩ : ∃ r, r = m.length := ⟨_, rfl⟩
  rw [← hn, ← hr] at hbi hno ⊢
  rw [← hn] at hl
  rw [← hr] at hm
  have HN := Lib.hid hn
  have HR := Lib.hid hr
  have HS := Lib.hid h
  have HT := Lib.hid k
  have HBi := Lib.hid hbi
  have HNo := Lib.hid hno
  clear hbi hno hn hr h k
  by_cases hlt : n = r
  · subst hlt
    have HB := Lib.hid (HBi.out rfl)
    clear HBi HNo
    go_enter Try.func39, Try.ntmps39
    go_wp2_with fail
    go_loopw [13] (fun i wr => ∃ j : Nat, i = .int .i64 j ∧ j ≤ n ∧ (∀ x, x < j → l.getD x v0 = m.getD x v0) ∧ Below w.heap.size w wr) (fun i _ => n - (intOf i).toNat)
    case atStart => exact ⟨0, rfl, Nat.zero_le _, fun x hx => absurd hx (Nat.not_lt_zero x), Below.refl _ _⟩
    case round =>
      obtain ⟨j, rfl, hj, hsame, hbel⟩ := hrel
      have HSm := Lib.hid hsame
      have HBl := Lib.hid hbel
      clear hsame hbel
      by_cases hjr : j < n
      · obtain ⟨b1, q1, hix1, hc1, _⟩ := HS.out.at v0 j (by rw [← HN.out]; omega)
        obtain ⟨b2, q2, hix2, hc2, _⟩ := HT.out.at v0 j (by rw [← HR.out]; omega)
        obtain ⟨⟨k1, n1, s1⟩, hf1⟩ : ∃ f, f = l.getD j v0 := ⟨_, rfl⟩
        obtain ⟨⟨k2, n2, s2⟩, hf2⟩ : ∃ f, f = m.getD j v0 := ⟨_, rfl⟩
        rw [← hf1] at hc1
        rw [← hf2] at hc2
        obtain ⟨c0, c1, c2⟩ := hc2 wr HBl.out
        obtain ⟨e0, e1, e2⟩ := hc1 wr HBl.out
        simp only at c0 c1 c2 e0 e1 e2
        have hi1 := fun W => hix1 W n c (by omega)
        have hi2 := fun W => hix2 W n d hjr
        have hne := fun W => neq_v k1 n1 k2 n2 s1 s2 W
        have HF1 := Lib.hid hf1
        have HF2 := Lib.hid hf2
        clear hc1 hc2 hix1 hix2 hf1 hf2
        by_cases he : (⟨k1, n1, s1⟩ : V) = ⟨k2, n2, s2⟩
        · have hsucc : ∀ x, x < j + 1 → l.getD x v0 = m.getD x v0 := fun x hx => by
            by_cases e : x = j
            · rw [e, ← HF1.out, ← HF2.out, he]
            · exact HSm.out x (by omega)
          simp only [same_iff.2 he, Bool.not_true] at hne
          have HSu := Lib.hid hsucc
          clear he hsucc
          go_wp2_with fail
          go_quiet (fail)
          go_wp2_with fail
          go_roundw
          case rel => exact ⟨j + 1, by go_num, by omega, HSu.out, below_drewN HBl.out _⟩
          case measure => simp [intOf]; omega
        · have hs : same ⟨k1, n1, s1⟩ ⟨k2, n2, s2⟩ = false := by
            cases hx : same ⟨k1, n1, s1⟩ ⟨k2, n2, s2⟩
            · rfl
            · exact absurd (same_iff.1 hx) he
          simp only [hs, Bool.not_false] at hne
          have HNo := Lib.hid (show ¬ l = m from fun h => he (by rw [HF1.out, HF2.out]; exact HB.out.1 h j hjr))
          clear he hs
          go_wp2_with fail
          go_quiet (fail)
          go_wp2_with fail
          go_ret
          exact ⟨ret_v (x := .bool false) (by rw [decide_eq_false HNo.out]), below_drewN HBl.out _⟩
      · obtain rfl : j = n := by omega
        have HYes := Lib.hid (HB.out.2 HSm.out)
        go_wp2_with fail
        go_ret
        exact ⟨ret_v (x := .bool true) (by rw [decide_eq_true HYes.out]), HBl.out⟩
  · have HNo' := Lib.hid (HNo.out hlt)
    have hd1 : ((n : Int) == r) = false := by rw [beq_eq_false_iff_ne]; omega
    go_enter Try.func39, Try.ntmps39
    go_wp2_with fail
    go_ret
    exact ⟨ret_v (x := .bool false) (by rw [decide_eq_false HNo'.out]), Below.refl _ _⟩

theorem ev_ne {a b : Ev} : (a.s ≠ b.s → ¬ a = b) ∧ (a.t ≠ b.t → ¬ a = b) ∧ (a.v.length ≠ b.v.length → ¬ a = b) ∧ (a.s = b.s → a.t = b.t → (a = b ↔ a.v = b.v)) :=
  ⟨fun h e => h (by rw [e]), fun h e => h (by rw [e]), fun h e => h (by rw [e]), fun h1 h2 => ⟨fun e => by rw [e], fun h3 => Ev.same h1 h2 h3⟩⟩

set_option maxRecDepth 100000 in
set_option maxHeartbeats 2000000 in
theorem Same_any (a b : Ev) (A : Option Addr) (c : Nat) (B : Option Addr) (d : Nat) (w : World) (h : SlV w A a.v c) (k : SlV w B b.v d) :
    Calls Try.prog 19 #[.agg #[.string a.s, .int .i64 a.t, .slice A a.v.length c], .agg #[.string b.s, .int .i64 b.t, .slice B b.v.length d]] w fun e w' => e = .returned (.bool (decide (a = b))) ∧ Below w.heap.size w w' := by
  obtain ⟨hs1, hs2, _, hs4⟩ := @ev_ne a b
  have heq := fun W (hW : Below w.heap.size w W) => equal_any A a.v c B b.v d W (h.kept hW) (k.kept hW)
  obtain ⟨E, hE⟩ : ∃ E, E = decide (a = b) := ⟨_, rfl⟩
  rw [← hE]
  have H1 := Lib.hid hs1
  have H2 := Lib.hid hs2
  have H4 := Lib.hid hs4
  have HE := Lib.hid hE
  clear hs1 hs2 hs4 hE h k
  obtain ⟨s1, v1, l1⟩ := a
  obtain ⟨s2, v2, l2⟩ := b
  simp only at H1 H2 H4 heq ⊢
  obtain ⟨n, hn⟩ : ∃ n, n = l1.length := ⟨_, rfl⟩
  obtain ⟨r, hr⟩ : ∃ r, r = l2.length := ⟨_, rfl⟩
  rw [← hn, ← hr]
  simp only [← hn, ← hr] at heq
  have HEq := Lib.hid heq
  clear heq hn hr
  have hb1 := (Below.refl w.heap.size w).alloc (Nat.le_refl _) (.cells #[.string s1, .int .i64 v1, .slice A n c] 27)
  have hk := (Below.refl (w.alloc (.cells #[.string s1, .int .i64 v1, .slice A n c] 27)).heap.size (w.alloc (.cells #[.string s1, .int .i64 v1, .slice A n c] 27))).alloc (Nat.le_refl _) (.cells #[.string s2, .int .i64 v2, .slice B r d] 27)
  have hx2 := bx_new_t (w.alloc (.cells #[.string s1, .int .i64 v1, .slice A n c] 27)) 27 (.string s2) (.int .i64 v2) (.slice B r d)
  rw [show (w.alloc (.cells #[.string s1, .int .i64 v1, .slice A n c] 27)).heap.size = w.heap.size + 1 from by simp] at hx2
  obtain ⟨⟨p0, p1, p2⟩, _⟩ := (bx_new_t w 27 (.string s1) (.int .i64 v1) (.slice A n c)).kept hk
  obtain ⟨⟨q0, q1, q2⟩, _⟩ := hx2
  have HB := Lib.hid (bt hb1 hk)
  clear hb1 hk
  by_cases g1 : s1 = s2
  · subst g1
    have ee : (s1.toList == s1.toList) = true := by simp
    by_cases g2 : v1 = v2
    · subst g2
      have HV := Lib.hid (show decide (l1 = l2) = E from by rw [HE.out, decide_eq_decide]; exact (H4.out rfl rfl).symm)
      go_enter Try.func19, Try.ntmps19
      go_wp2_with fail
      refine (HEq.out _ HB.out).mono ?_
      rintro e w1 ⟨rfl, hb2⟩
      rw [HV.out]
      have HB2 := Lib.hid (bt HB.out hb2)
      clear hb2 p0 p1 p2 q0 q1 q2
      go_wp2_with fail
      go_ret
      exact ⟨rfl, HB2.out⟩
    · have hd : (v1 == v2) = false := by rw [beq_eq_false_iff_ne]; exact g2
      have HV := Lib.hid (show E = false from by rw [HE.out, decide_eq_false (H2.out g2)])
      clear g2
      go_enter Try.func19, Try.ntmps19
      go_wp2_with fail
      go_ret
      exact ⟨ret_v (x := .bool false) (by rw [HV.out]), HB.out⟩
  · have ee := str_ne g1
    have HV := Lib.hid (show E = false from by rw [HE.out, decide_eq_false (H1.out g1)])
    clear g1
    go_enter Try.func19, Try.ntmps19
    go_wp2_with fail
    go_ret
    exact ⟨ret_v (x := .bool false) (by rw [HV.out]), HB.out⟩
end Go.Proofs.Ytbakhodijhacoaa.Ev

namespace Go.Proofs.Ytbakhodijhacoaa.Ev
open Go.RowKit Go.Proofs.Ytbakhodijhacoaa.BM Go.Proofs.Ytbakhodijhacoaa.EvM
open Go.Proofs.Ytbakhodijhacoaa.VaM (V)
open Go.Proofs.Ytbakhodijhacoaa.Va (SlV slV_len bx_new_t Bx CellV neq_v same same_iff ret_v)

set_option maxRecDepth 100000 in
set_option maxHeartbeats 2000000 in
theorem refSame_any (a b : Ev) (A : Option Addr) (c : Nat) (B : Option Addr) (d : Nat) (w : World) (h : SlV w A a.v c) (k : SlV w B b.v d) :
    Calls Try.prog 16 #[.agg #[.string a.s, .int .i64 a.t, .slice A a.v.length c], .agg #[.string b.s, .int .i64 b.t, .slice B b.v.length d]] w fun e w' => e = .returned (.bool (decide (a = b))) ∧ Below w.heap.size w w' := by
  obtain ⟨hs1, hs2, hs3, hs4⟩ := @ev_ne a b
  obtain ⟨E, hE⟩ : ∃ E, E = decide (a = b) := ⟨_, rfl⟩
  rw [← hE]
  have hl := slV_len h
  have hm := slV_len k
  have hbi := fun hh => vals_iff (l := a.v) (m := b.v) hh
  have H1 := Lib.hid hs1
  have H2 := Lib.hid hs2
  have H3 := Lib.hid hs3
  have H4 := Lib.hid hs4
  have HE := Lib.hid hE
  have HBi := Lib.hid hbi
  have HS := Lib.hid h
  have HT := Lib.hid k
  clear hs1 hs2 hs3 hs4 hE h k hbi
  obtain ⟨s1, v1, l⟩ := a
  obtain ⟨s2, v2, m⟩ := b
  simp only at H1 H2 H3 H4 HBi HS HT hl hm ⊢
  obtain ⟨n, hn⟩ : ∃ n, n = l.length := ⟨_, rfl⟩
  obtain ⟨r, hr⟩ : ∃ r, r = m.length := ⟨_, rfl⟩
  rw [← hn, ← hr] at H3 HBi ⊢
  rw [← hn] at hl
  rw [← hr] at hm
  have HN := Lib.hid hn
  have HR := Lib.hid hr
  clear hn hr
  have hb1 := (Below.refl w.heap.size w).alloc (Nat.le_refl _) (.cells #[.string s1, .int .i64 v1, .slice A n c] 27)
  have hk := (Below.refl (w.alloc (.cells #[.string s1, .int .i64 v1, .slice A n c] 27)).heap.size (w.alloc (.cells #[.string s1, .int .i64 v1, .slice A n c] 27))).alloc (Nat.le_refl _) (.cells #[.string s2, .int .i64 v2, .slice B r d] 27)
  have hx2 := bx_new_t (w.alloc (.cells #[.string s1, .int .i64 v1, .slice A n c] 27)) 27 (.string s2) (.int .i64 v2) (.slice B r d)
  rw [show (w.alloc (.cells #[.string s1, .int .i64 v1, .slice A n c] 27)).heap.size = w.heap.size + 1 from by simp] at hx2
  have HX1 := Lib.hid ((bx_new_t w 27 (.string s1) (.int .i64 v1) (.slice A n c)).kept hk)
  have HX2 := Lib.hid hx2
  obtain ⟨⟨p0, p1, p2⟩, _⟩ := HX1.out
  obtain ⟨⟨q0, q1, q2⟩, _⟩ := hx2
  have HB := Lib.hid (bt hb1 hk)
  clear hb1 hk
  by_cases g1 : s1 = s2
  · subst g1
    have ee : (s1.toList == s1.toList) = true := by simp
    by_cases g2 : v1 = v2
    · subst g2
      by_cases g3 : n = r
      · subst g3
        have HL := Lib.hid (HBi.out rfl)
        have H5 := Lib.hid (H4.out rfl rfl)
        clear H1 H2 H3 HBi H4
        go_enter Try.func16, Try.ntmps16
        go_wp2_with fail
        obtain ⟨w1, hw1⟩ : ∃ w1, w1 = (w.alloc (.cells #[.string s1, .int .i64 v1, .slice A n c] 27)).alloc (.cells #[.string s1, .int .i64 v1, .slice B n d] 27) := ⟨_, rfl⟩
        rw [← hw1] at HX1 HX2 HB ⊢
        clear hw1 p0 p1 p2 q0 q1 q2
        go_loopw [5] (fun i wr => ∃ j : Nat, i = .int .i64 j ∧ j ≤ n ∧ (∀ x, x < j → l.getD x v0 = m.getD x v0) ∧ Below w1.heap.size w1 wr) (fun i _ => n - (intOf i).toNat)
        case atStart => exact ⟨0, rfl, Nat.zero_le _, fun x hx => absurd hx (Nat.not_lt_zero x), Below.refl _ _⟩
        case round =>
          obtain ⟨j, rfl, hj, hsame, hbel⟩ := hrel
          have HSm := Lib.hid hsame
          have HBl := Lib.hid hbel
          obtain ⟨⟨_, _, x2⟩, _⟩ := HX1.out.kept hbel
          obtain ⟨⟨_, _, y2⟩, _⟩ := HX2.out.kept hbel
          clear hsame hbel
          by_cases hjr : j < n
          · obtain ⟨b1, t1, hix1, hc1, _⟩ := HS.out.at v0 j (by rw [← HN.out]; omega)
            obtain ⟨b2, t2, hix2, hc2, _⟩ := HT.out.at v0 j (by rw [← HR.out]; omega)
            obtain ⟨⟨k1, n1, z1⟩, hf1⟩ : ∃ f, f = l.getD j v0 := ⟨_, rfl⟩
            obtain ⟨⟨k2, n2, z2⟩, hf2⟩ : ∃ f, f = m.getD j v0 := ⟨_, rfl⟩
            rw [← hf1] at hc1
            rw [← hf2] at hc2
            obtain ⟨c0, c1, c2⟩ := hc2 wr (bt HB.out HBl.out)
            obtain ⟨e0, e1, e2⟩ := hc1 wr (bt HB.out HBl.out)
            simp only at c0 c1 c2 e0 e1 e2
            have hi1 := fun W => hix1 W n c (by omega)
            have hi2 := fun W => hix2 W n d hjr
            have hne := fun W => neq_v k1 n1 k2 n2 z1 z2 W
            have HF1 := Lib.hid hf1
            have HF2 := Lib.hid hf2
            clear hc1 hc2 hix1 hix2 hf1 hf2
            by_cases he : (⟨k1, n1, z1⟩ : V) = ⟨k2, n2, z2⟩
            · have hsucc : ∀ x, x < j + 1 → l.getD x v0 = m.getD x v0 := fun x hx => by
                by_cases e : x = j
                · rw [e, ← HF1.out, ← HF2.out, he]
                · exact HSm.out x (by omega)
              simp only [same_iff.2 he, Bool.not_true] at hne
              have HSu := Lib.hid hsucc
              clear he hsucc
              go_wp2_with fail
              go_quiet (fail)
              go_wp2_with fail
              go_roundw
              case rel => exact ⟨j + 1, by go_num, by omega, HSu.out, below_drewN HBl.out _⟩
              case measure => simp [intOf]; omega
            · have hs : same ⟨k1, n1, z1⟩ ⟨k2, n2, z2⟩ = false := by
                cases hx : same ⟨k1, n1, z1⟩ ⟨k2, n2, z2⟩
                · rfl
                · exact absurd (same_iff.1 hx) he
              simp only [hs, Bool.not_false] at hne
              have HNo := Lib.hid (show E = false from by rw [HE.out, decide_eq_false (fun h => he (by rw [HF1.out, HF2.out]; exact HL.out.1 (H5.out.1 h) j hjr))])
              clear he hs
              go_wp2_with fail
              go_quiet (fail)
              go_wp2_with fail
              go_ret
              exact ⟨ret_v (x := .bool false) (by rw [HNo.out]), below_drewN (bt HB.out HBl.out) _⟩
          · obtain rfl : j = n := by omega
            have HYes := Lib.hid (show E = true from by rw [HE.out, decide_eq_true (H5.out.2 (HL.out.2 HSm.out))])
            go_wp2_with fail
            go_ret
            exact ⟨ret_v (x := .bool true) (by rw [HYes.out]), bt HB.out HBl.out⟩
      · have hd : ((n : Int) == r) = false := by rw [beq_eq_false_iff_ne]; omega
        have HV := Lib.hid (show E = false from by rw [HE.out, decide_eq_false (H3.out g3)])
        clear g3
        go_enter Try.func16, Try.ntmps16
        go_wp2_with fail
        go_ret
        exact ⟨ret_v (x := .bool false) (by rw [HV.out]), HB.out⟩
    · have hd : (v1 == v2) = false := by rw [beq_eq_false_iff_ne]; exact g2
      have HV := Lib.hid (show E = false from by rw [HE.out, decide_eq_false (H2.out g2)])
      clear g2
      go_enter Try.func16, Try.ntmps16
      go_wp2_with fail
      go_ret
      exact ⟨ret_v (x := .bool false) (by rw [HV.out]), HB.out⟩
  · have ee := str_ne g1
    have HV := Lib.hid (show E = false from by rw [HE.out, decide_eq_false (H1.out g1)])
    clear g1
    go_enter Try.func16, Try.ntmps16
    go_wp2_with fail
    go_ret
    exact ⟨ret_v (x := .bool false) (by rw [HV.out]), HB.out⟩
end Go.Proofs.Ytbakhodijhacoaa.Ev

namespace Go.Proofs.Ytbakhodijhacoaa.Sc
open Go.RowKit Go.Proofs.Ytbakhodijhacoaa.BM Go.Proofs.Ytbakhodijhacoaa.VaM Go.Proofs.Ytbakhodijhacoaa.Va Go.Proofs.Ytbakhodijhacoaa.ScM

set_option maxRecDepth 100000 in
set_option maxHeartbeats 4000000 in
theorem refMay_any (s : Sc) (A : Option Addr) (c : Nat) (w : World) (hS : SlF w A s.f c) (hz : Fine s) :
    Calls Try.prog 41 #[.agg #[.string s.s, .int .i64 s.v, .slice A s.f.length c]] w fun e w' => e = .returned (.bool (decide (May s))) ∧ Below w.heap.size w w' := by
  obtain ⟨nm, v, l⟩ := s
  simp only at hS ⊢
  have hl := slF_len hS
  have HN := Lib.hid (fun W => refName_any nm W hz.1)
  have hmay : May ⟨nm, v, l⟩ ↔ Nm nm ∧ 1 ≤ v ∧ v ≤ 1000 ∧ l.length ≤ 6 ∧ Gd l l.length := Iff.rfl
  obtain ⟨n, hn⟩ : ∃ n, n = l.length := ⟨_, rfl⟩
  rw [← hn] at hl hmay ⊢
  have HLen := Lib.hid hn
  have HS := Lib.hid hS
  have HMay := Lib.hid hmay
  have HX0 := Lib.hid (bx_new_t w 24 (.string nm) (.int .i64 v) (.slice A n c))
  have HB0 := Lib.hid ((Below.refl w.heap.size w).alloc (Nat.le_refl _) (.cells #[.string nm, .int .i64 v, .slice A n c] 24))
  clear hn hS hmay hz
  obtain ⟨⟨p0, p1, p2⟩, _⟩ := HX0.out
  go_enter Try.func41, Try.ntmps41
  go_wp2_with fail
  refine (HN.out _).mono ?_
  rintro e w1 ⟨rfl, rfl⟩
  obtain ⟨w1, hw1⟩ : ∃ w1, w1 = w.alloc (.cells #[.string nm, .int .i64 v, .slice A n c] 24) := ⟨_, rfl⟩
  rw [← hw1] at HB0 HX0 p0 p1 p2 ⊢
  clear HN hw1
  have hways : ¬ Nm nm ∨ (Nm nm ∧ v < 1) ∨ (Nm nm ∧ 1 ≤ v ∧ 1000 < v) ∨ (Nm nm ∧ 1 ≤ v ∧ v ≤ 1000 ∧ 6 < n) ∨ (Nm nm ∧ 1 ≤ v ∧ v ≤ 1000 ∧ n ≤ 6) := by
    by_cases h : Nm nm
    · simp only [h, true_and, not_true, false_or]
      omega
    · exact Or.inl h
  rcases hways with m1 | ⟨m1, m2⟩ | ⟨m1, m2, m3⟩ | ⟨m1, m2, m3, m4⟩ | ⟨m1, m2, m3, m4⟩
  · rw [decide_eq_false m1]
    have HM := Lib.hid (show ¬ May ⟨nm, v, l⟩ from fun h => m1 (HMay.out.1 h).1)
    clear m1
    go_wp2_with fail
    go_ret
    exact ⟨ret_v (x := .bool false) (by rw [decide_eq_false HM.out]), HB0.out⟩
  · rw [decide_eq_true m1]
    have HM := Lib.hid (show ¬ May ⟨nm, v, l⟩ from fun h => by have := (HMay.out.1 h).2.1; omega)
    clear m1
    go_wp2_with fail
    go_ret
    exact ⟨ret_v (x := .bool false) (by rw [decide_eq_false HM.out]), HB0.out⟩
  · rw [decide_eq_true m1]
    have HM := Lib.hid (show ¬ May ⟨nm, v, l⟩ from fun h => by have := (HMay.out.1 h).2.2.1; omega)
    clear m1
    go_wp2_with fail
    go_ret
    exact ⟨ret_v (x := .bool false) (by rw [decide_eq_false HM.out]), HB0.out⟩
  · rw [decide_eq_true m1]
    have HM := Lib.hid (show ¬ May ⟨nm, v, l⟩ from fun h => by have := (HMay.out.1 h).2.2.2.1; omega)
    clear m1
    go_wp2_with fail
    go_ret
    exact ⟨ret_v (x := .bool false) (by rw [decide_eq_false HM.out]), HB0.out⟩
  · rw [decide_eq_true m1]
    have HM := Lib.hid (show May ⟨nm, v, l⟩ ↔ Gd l n from ⟨fun h => (HMay.out.1 h).2.2.2.2, fun h => HMay.out.2 ⟨m1, m2, m3, m4, h⟩⟩)
    clear m1 HMay
    go_wp2_with fail
    clear p0 p1 p2
    go_loopw [4] (fun i wr => ∃ j : Nat, i = .int .i64 j ∧ j ≤ n ∧ Gd l j ∧ Below w1.heap.size w1 wr) (fun i _ => n - (intOf i).toNat)
    case atStart => exact ⟨0, rfl, Nat.zero_le _, fun r hr => absurd hr (Nat.not_lt_zero r), Below.refl _ _⟩
    case round =>
      obtain ⟨j, rfl, hj, hgood, hbel⟩ := hrel
      have HG := Lib.hid hgood
      have HBl := Lib.hid hbel
      clear hgood hbel
      obtain ⟨⟨_, _, x2⟩, _⟩ := HX0.out.kept HBl.out
      by_cases hjn : j < n
      · obtain ⟨b, q, hix, hc, hsz⟩ := HS.out.at j (by rw [← HLen.out]; exact hjn)
        have hiff : GdAt l j ↔ FOk (l.getD j d0) ∧ ¬ Has (l.take j) (l.getD j d0).s := Iff.rfl
        obtain ⟨⟨fs, fk⟩, hf⟩ : ∃ f, f = l.getD j d0 := ⟨_, rfl⟩
        rw [← hf] at hc hsz hiff
        obtain ⟨c0, c1⟩ := hc wr (bt HB0.out HBl.out)
        simp only at c0 c1 hsz hiff
        rw [has_take (by rw [← HLen.out]; exact hj)] at hiff
        have hi := fun W => hix W n c hjn
        have HIff := Lib.hid hiff
        have HC := Lib.hid hc
        have HNf := Lib.hid (fun W => refName_any fs W hsz)
        clear hc hix hf hiff
        go_wp2_with fail
        refine (HNf.out _).mono ?_
        rintro e w2 ⟨rfl, rfl⟩
        have hfw : ¬ Nm fs ∨ (Nm fs ∧ fk < 0) ∨ (Nm fs ∧ 0 ≤ fk ∧ 4 ≤ fk) ∨ (Nm fs ∧ 0 ≤ fk ∧ fk < 4) := by
          by_cases h : Nm fs
          · simp only [h, true_and, not_true, false_or]
            omega
          · exact Or.inl h
        rcases hfw with k1 | ⟨k1, k2⟩ | ⟨k1, k2, k3⟩ | ⟨k1, k2, k3⟩
        · rw [decide_eq_false k1]
          have HNo := Lib.hid (show ¬ May ⟨nm, v, l⟩ from fun h => k1 (HIff.out.1 (HM.out.1 h j hjn)).1.1)
          clear k1
          go_wp2_with fail
          go_ret
          exact ⟨ret_v (x := .bool false) (by rw [decide_eq_false HNo.out]), bt HB0.out HBl.out⟩
        · rw [decide_eq_true k1]
          have HNo := Lib.hid (show ¬ May ⟨nm, v, l⟩ from fun h => by have := (HIff.out.1 (HM.out.1 h j hjn)).1.2.1; simp only at this; omega)
          clear k1
          go_wp2_with fail
          go_ret
          exact ⟨ret_v (x := .bool false) (by rw [decide_eq_false HNo.out]), bt HB0.out HBl.out⟩
        · rw [decide_eq_true k1]
          have HNo := Lib.hid (show ¬ May ⟨nm, v, l⟩ from fun h => by have := (HIff.out.1 (HM.out.1 h j hjn)).1.2.2; simp only at this; omega)
          clear k1
          go_wp2_with fail
          go_ret
          exact ⟨ret_v (x := .bool false) (by rw [decide_eq_false HNo.out]), bt HB0.out HBl.out⟩
        · have HOk := Lib.hid (show FOk ⟨fs, fk⟩ from ⟨k1, k2, k3⟩)
          rw [decide_eq_true k1]
          clear k1
          go_wp2_with fail
          clear c0 c1 x2
          go_loopw [6] (fun i wt => ∃ r : Nat, i = .int .i64 r ∧ r ≤ j ∧ (∀ x, x < r → (l.getD x d0).s ≠ fs) ∧ Below w1.heap.size w1 wt) (fun i _ => j - (intOf i).toNat)
          case atStart => exact ⟨0, rfl, Nat.zero_le _, fun r hr => absurd hr (Nat.not_lt_zero r), HBl.out⟩
          case round =>
            obtain ⟨r, rfl, hr, hne, hbel⟩ := hrel
            have HNe := Lib.hid hne
            have HBt := Lib.hid hbel
            clear hne hbel
            by_cases hrj : r < j
            · obtain ⟨b', q', hix', hc', _⟩ := HS.out.at r (by rw [← HLen.out]; omega)
              obtain ⟨⟨gs, gk⟩, hg⟩ : ∃ f, f = l.getD r d0 := ⟨_, rfl⟩
              rw [← hg] at hc'
              have HGs := Lib.hid hg
              have hi' := fun W => hix' W n c (by omega)
              obtain ⟨⟨_, _, x2⟩, _⟩ := HX0.out.kept HBt.out
              obtain ⟨c0, _⟩ := HC.out wr (bt HB0.out HBt.out)
              obtain ⟨g0, _⟩ := hc' wr (bt HB0.out HBt.out)
              simp only at c0 g0
              clear hc' hix' hg
              by_cases he : gs = fs
              · have hee : (gs.toList == fs.toList) = true := by rw [he]; simp
                have HNo := Lib.hid (show ¬ May ⟨nm, v, l⟩ from fun h => (HIff.out.1 (HM.out.1 h j hjn)).2 r hrj (by rw [← HGs.out]; exact he))
                clear he
                go_wp2_with fail
                go_quiet (fail)
                go_wp2_with fail
                go_ret
                exact ⟨ret_v (x := .bool false) (by rw [decide_eq_false HNo.out]), below_drewN (bt HB0.out HBt.out) _⟩
              · have hee := str_ne he
                have HE := Lib.hid he
                clear he
                go_wp2_with fail
                go_quiet (fail)
                go_wp2_with fail
                go_roundw
                case rel =>
                  refine ⟨r + 1, by go_num, by omega, fun x hx => ?_, below_drewN HBt.out _⟩
                  by_cases e : x = r
                  · rw [e, ← HGs.out]
                    exact HE.out
                  · exact HNe.out x (by omega)
                case measure => simp [intOf]; omega
            · obtain rfl : r = j := by omega
              have HGo := Lib.hid (HG.out.succ (HIff.out.2 ⟨HOk.out, HNe.out⟩))
              go_wp2_with fail
              go_roundw
              case rel => exact ⟨r + 1, by go_num, by omega, HGo.out, HBt.out⟩
              case measure => simp [intOf]; omega
      · obtain rfl : j = n := by omega
        have HYes := Lib.hid (HM.out.2 HG.out)
        go_wp2_with fail
        go_ret
        exact ⟨ret_v (x := .bool true) (by rw [decide_eq_true HYes.out]), bt HB0.out HBl.out⟩
end Go.Proofs.Ytbakhodijhacoaa.Sc

namespace Go.Proofs.Ytbakhodijhacoaa.Ev
open Go.RowKit Go.Proofs.Ytbakhodijhacoaa.BM Go.Proofs.Ytbakhodijhacoaa.EvM
open Go.Proofs.Ytbakhodijhacoaa.VaM (V)
open Go.Proofs.Ytbakhodijhacoaa.Va (SlV slV_len bx_new_t Bx ret_v)
open Go.Proofs.Ytbakhodijhacoaa.Sc (SlF slF_len)
open Go.Proofs.Ytbakhodijhacoaa.Va (CellV)
open Go.Proofs.Ytbakhodijhacoaa.ScM (d0 Sc)

set_option maxRecDepth 100000 in
set_option maxHeartbeats 2000000 in
theorem refValid_any (a : Sc) (b : Ev) (A : Option Addr) (c : Nat) (B : Option Addr) (d : Nat) (w : World) (h : SlF w A a.f c) (k : SlV w B b.v d) (ha : Sc.Fine a) (hb : Fine b) :
    Calls Try.prog 21 #[.agg #[.string a.s, .int .i64 a.v, .slice A a.f.length c], .agg #[.string b.s, .int .i64 b.t, .slice B b.v.length d]] w fun e w' => e = .returned (.int .i64 (valid a b)) ∧ Below w.heap.size w w' := by
  have hv1 := fun h => @valid_1 a b h
  have hv3 := fun h h2 => @valid_3 a b h h2
  have hvl := fun h h2 h3 => @valid_l a b h h2 h3
  have hvk := fun h h2 h3 => @valid_k a b h h2 h3
  obtain ⟨E, hE⟩ : ∃ E, E = valid a b := ⟨_, rfl⟩
  rw [← hE] at hv1 hv3 hvl hvk ⊢
  have hm1 := fun W (hW : Below w.heap.size w W) => Sc.refMay_any a A c W (h.kept hW) ha
  have hm2 := fun W (hW : Below w.heap.size w W) => refMay_any b B d W (k.kept hW) hb
  have HS := Lib.hid h
  have HT := Lib.hid k
  have hl := slF_len h
  have hm := slV_len k
  clear hE h k ha hb
  obtain ⟨s1, v1, l⟩ := a
  obtain ⟨s2, v2, m⟩ := b
  simp only at hv1 hv3 hvl hvk hm1 hm2 HS HT hl hm ⊢
  obtain ⟨M1, hM1⟩ : ∃ M, M = ScM.May ⟨s1, v1, l⟩ := ⟨_, rfl⟩
  obtain ⟨M2, hM2⟩ : ∃ M, M = May ⟨s2, v2, m⟩ := ⟨_, rfl⟩
  obtain ⟨B1, hB1⟩ : ∃ x, x = decide (ScM.May ⟨s1, v1, l⟩) := ⟨_, rfl⟩
  obtain ⟨B2, hB2⟩ : ∃ x, x = decide (May ⟨s2, v2, m⟩) := ⟨_, rfl⟩
  have b1 : B1 = true ↔ M1 := by rw [hB1, hM1, decide_eq_true_iff]
  have b2 : B2 = true ↔ M2 := by rw [hB2, hM2, decide_eq_true_iff]
  simp only [← hB1] at hm1
  simp only [← hB2] at hm2
  rw [← hM1, ← hM2, ← b1, ← b2] at hv1 hv3 hvl hvk
  clear b1 b2 hB1 hB2 hM1 hM2
  obtain ⟨n, hn⟩ : ∃ n, n = l.length := ⟨_, rfl⟩
  obtain ⟨r, hr⟩ : ∃ r, r = m.length := ⟨_, rfl⟩
  simp only [← hn] at hm1
  simp only [← hr] at hm2
  rw [← hn, ← hr] at hvl hvk ⊢
  rw [← hn] at hl
  rw [← hr] at hm
  obtain ⟨KB, hKB⟩ : ∃ x, x = decide (Kinds l m) := ⟨_, rfl⟩
  have kb : (if Kinds l m then (0 : Int) else 5) = if KB = true then 0 else 5 := by
    rw [hKB]
    simp only [decide_eq_true_iff]
  rw [kb] at hvk
  have HM1 := Lib.hid hm1
  have HM2 := Lib.hid hm2
  have HN := Lib.hid hn
  have HR := Lib.hid hr
  have HKB := Lib.hid hKB
  have HV1 := Lib.hid hv1
  have HV3 := Lib.hid hv3
  have HVl := Lib.hid hvl
  have HVk := Lib.hid hvk
  clear hn hr hm1 hm2 hv1 hv3 hvl hvk kb hKB
  have hb1 := (Below.refl w.heap.size w).alloc (Nat.le_refl _) (.cells #[.string s1, .int .i64 v1, .slice A n c] 24)
  have hk := (Below.refl (w.alloc (.cells #[.string s1, .int .i64 v1, .slice A n c] 24)).heap.size (w.alloc (.cells #[.string s1, .int .i64 v1, .slice A n c] 24))).alloc (Nat.le_refl _) (.cells #[.string s2, .int .i64 v2, .slice B r d] 27)
  have hx2 := bx_new_t (w.alloc (.cells #[.string s1, .int .i64 v1, .slice A n c] 24)) 27 (.string s2) (.int .i64 v2) (.slice B r d)
  rw [show (w.alloc (.cells #[.string s1, .int .i64 v1, .slice A n c] 24)).heap.size = w.heap.size + 1 from by simp] at hx2
  have HX1 := Lib.hid ((bx_new_t w 24 (.string s1) (.int .i64 v1) (.slice A n c)).kept hk)
  have HX2 := Lib.hid hx2
  obtain ⟨⟨p0, p1, p2⟩, _⟩ := HX1.out
  have HB := Lib.hid (bt hb1 hk)
  clear hb1 hk hx2
  go_enter Try.func21, Try.ntmps21
  go_wp2_with fail
  refine (HM1.out _ HB.out).mono ?_
  rintro e w1 ⟨rfl, hb1⟩
  have HX11 := Lib.hid (HX1.out.kept hb1)
  have HX21 := Lib.hid (HX2.out.kept hb1)
  have HB1 := Lib.hid (bt HB.out hb1)
  clear hb1 HB HX1 HX2 p0 p1 p2 HM1
  obtain ⟨⟨q0, q1, q2⟩, _⟩ := HX21.out
  go_wp2_with fail
  refine (HM2.out _ HB1.out).mono ?_
  rintro e w2 ⟨rfl, hb2⟩
  have HX1 := Lib.hid (HX11.out.kept hb2)
  have HX2 := Lib.hid (HX21.out.kept hb2)
  have HB2 := Lib.hid (bt HB1.out hb2)
  clear hb2 HB1 HX11 HX21 q0 q1 q2 HM2
  obtain ⟨⟨p0, p1, p2⟩, _⟩ := HX1.out
  obtain ⟨⟨q0, q1, q2⟩, _⟩ := HX2.out
  cases B1
  · have HE := Lib.hid (HV1.out (fun h => by cases h.1))
    go_wp2_with fail
    go_ret
    exact ⟨ret_v (x := .int .i64 1) (by rw [HE.out]), HB2.out⟩
  cases B2
  · have HE := Lib.hid (HV1.out (fun h => by cases h.2))
    go_wp2_with fail
    go_ret
    exact ⟨ret_v (x := .int .i64 1) (by rw [HE.out]), HB2.out⟩
  by_cases g1 : s1 = s2
  · subst g1
    have ee : (s1.toList == s1.toList) = true := by simp
    by_cases g3 : n = r
    · subst g3
      have HVv := Lib.hid (HVk.out (by simp) rfl rfl)
      clear HV1 HV3 HVl HVk
      go_wp2_with fail
      clear p0 p1 p2 q0 q1 q2
      go_loopw [7] (fun i wr => ∃ j : Nat, i = .int .i64 j ∧ j ≤ n ∧ (∀ x, x < j → (l.getD x d0).k = (m.getD x v0).k) ∧ Below w2.heap.size w2 wr) (fun i _ => n - (intOf i).toNat)
      case atStart => exact ⟨0, rfl, Nat.zero_le _, fun x hx => absurd hx (Nat.not_lt_zero x), Below.refl _ _⟩
      case round =>
        obtain ⟨j, rfl, hj, hsame, hbel⟩ := hrel
        have HSm := Lib.hid hsame
        have HBl := Lib.hid hbel
        obtain ⟨⟨_, _, x2⟩, _⟩ := HX1.out.kept hbel
        obtain ⟨⟨_, _, y2⟩, _⟩ := HX2.out.kept hbel
        clear hsame hbel
        by_cases hjr : j < n
        · obtain ⟨b1, t1, hix1, hc1, _⟩ := HS.out.at j (by rw [← HN.out]; omega)
          obtain ⟨b2, t2, hix2, hc2, _⟩ := HT.out.at v0 j (by rw [← HR.out]; omega)
          obtain ⟨⟨z1, k1⟩, hf1⟩ : ∃ f, f = l.getD j d0 := ⟨_, rfl⟩
          obtain ⟨⟨k2, n2, z2⟩, hf2⟩ : ∃ f, f = m.getD j v0 := ⟨_, rfl⟩
          rw [← hf1] at hc1
          rw [← hf2] at hc2
          obtain ⟨c0, c1, c2⟩ := hc2 wr (bt HB2.out HBl.out)
          obtain ⟨e0, e1⟩ := hc1 wr (bt HB2.out HBl.out)
          simp only at c0 c1 c2 e0 e1
          have hi1 := fun W => hix1 W n c (by omega)
          have hi2 := fun W => hix2 W n d hjr
          have HF1 := Lib.hid hf1
          have HF2 := Lib.hid hf2
          clear hc1 hc2 hix1 hix2 hf1 hf2
          by_cases he : k1 = k2
          · have hsucc : ∀ x, x < j + 1 → (l.getD x d0).k = (m.getD x v0).k := fun x hx => by
              by_cases e : x = j
              · rw [e, ← HF1.out, ← HF2.out]
                exact he
              · exact HSm.out x (by omega)
            have HSu := Lib.hid hsucc
            have hd : (k1 == k2) = true := by rw [beq_iff_eq]; exact he
            clear he hsucc
            go_wp2_with fail
            go_quiet (fail)
            go_wp2_with fail
            go_roundw
            case rel => exact ⟨j + 1, by go_num, by omega, HSu.out, below_drewN HBl.out _⟩
            case measure => simp [intOf]; omega
          · have hd : (k1 == k2) = false := by rw [beq_eq_false_iff_ne]; exact he
            have hno : KB = false := by
              rw [HKB.out, decide_eq_false (fun h => he (by have := h j (by rw [← HN.out, ← HR.out]; omega); rw [← HF1.out, ← HF2.out] at this; exact this))]
            have HE := Lib.hid (show E = 5 from by rw [HVv.out, hno]; rfl)
            clear he hno
            go_wp2_with fail
            go_quiet (fail)
            go_wp2_with fail
            go_ret
            exact ⟨ret_v (x := .int .i64 5) (by rw [HE.out]), below_drewN (bt HB2.out HBl.out) _⟩
        · obtain rfl : j = n := by omega
          have hyes : KB = true := by
            rw [HKB.out, decide_eq_true (show Kinds l m from fun i hi => HSm.out i (by rw [← HN.out, ← HR.out] at hi; omega))]
          have HE := Lib.hid (show E = 0 from by rw [HVv.out, hyes]; rfl)
          clear hyes
          go_wp2_with fail
          go_ret
          exact ⟨ret_v (x := .int .i64 0) (by rw [HE.out]), bt HB2.out HBl.out⟩
    · have hd : ¬ ((n : Int) = r) := by omega
      have HE := Lib.hid (HVl.out (by simp) rfl g3)
      clear g3
      go_wp2_with fail
      go_ret
      exact ⟨ret_v (x := .int .i64 5) (by rw [HE.out]), HB2.out⟩
  · have ee := str_ne g1
    have HE := Lib.hid (HV3.out (by simp) g1)
    clear g1
    go_wp2_with fail
    go_ret
    exact ⟨ret_v (x := .int .i64 3) (by rw [HE.out]), HB2.out⟩
end Go.Proofs.Ytbakhodijhacoaa.Ev

namespace Go.Proofs.Ytbakhodijhacoaa.Op
open Go.RowKit Go.ChangeShapes Go.WideShapes Go.Proofs.Ytbakhodijhacoaa.Va Go.Proofs.Ytbakhodijhacoaa.VaM Go.Proofs.Ytbakhodijhacoaa.EvM

/-- An event that came in: its values lie where its slice says. -/
def ArgE (W : World) (s : ByteArray) (t : Int) (a : Option Addr) (len cap : Nat) : Prop := ∃ l : List V, l.length = len ∧ SlV W a l cap ∧ Ev.Fine ⟨s, t, l⟩

theorem flat_cells {w : World} {b : Nat} : ∀ (l : List V) (o : Nat), (∀ i, i < l.length → CellV w b (o + i * 3) (l.getD i v0)) → ∀ (j : Nat) (u : Value), (l.flatMap encV)[j]? = some u → w.cell? ⟨b, o + j, none⟩ = some u
  | [], _, _, j, u, h => by simp at h
  | x :: l, o, hc, j, u, h => by
    rw [List.flatMap_cons] at h
    have h0 := hc 0 (by simp)
    rw [Nat.zero_mul, Nat.add_zero, List.getD_cons_zero] at h0
    obtain ⟨c0, c1, c2⟩ := h0
    by_cases hj : j < 3
    · rw [List.getElem?_append_left (by simpa [encV] using hj)] at h
      have hw : j = 0 ∨ j = 1 ∨ j = 2 := by omega
      rcases hw with rfl | rfl | rfl
      · obtain rfl : _ = u := by simpa [encV] using h
        exact c0
      · obtain rfl : _ = u := by simpa [encV] using h
        exact c1
      · obtain rfl : _ = u := by simpa [encV] using h
        exact c2
    · rw [List.getElem?_append_right (by simp only [encV, List.length_cons, List.length_nil]; omega)] at h
      have h2 := flat_cells l (o + 3) (fun i hi => by
        have h3 := hc (i + 1) (by simpa using hi)
        rw [List.getD_cons_succ] at h3
        rw [show o + 3 + i * 3 = o + (i + 1) * 3 from by omega]
        exact h3) (j - 3) u h
      rw [show o + 3 + (j - 3) = o + j from by omega] at h2
      exact h2

theorem elems_flat {w : World} {p : Nat → Prop} : ∀ l : List V, RG.Elems KV p w l (l.flatMap encV)
  | [] => rfl
  | x :: l => ⟨encV x, l.flatMap encV, rfl, rfl, elems_flat l⟩

theorem open_event {H : Type} {enc : TypeId × Value → H} {W : World} {r : Reach} {b0 : Nat} {v : Value} {d : DataW H} {p : List MemPlace} (hv : Value.okWide Try.prog W r b0 27 v)
    (h : DataW.Trod enc Try.prog W 0 (fun _ => true) true 27 v d p) : ∃ s n a len cap, v = .agg #[.string s, .int .i64 n, .slice a len cap] ∧ ArgE W s n a len cap := by
  obtain ⟨v0, v1, v2, y0, y1, y2, fuel, rfl, _, _, h0, h1, h2⟩ := Joins.open_agg3 Try.underlying27 (by kernel_rfl) (by kernel_rfl) hv h
  obtain ⟨s, hs, _, ws⟩ := DataW.trod_string Try.underlying9 h0
  obtain ⟨n, hn, _, wn⟩ := DataW.trod_int Try.underlying3 h1
  simp only [List.cons.injEq, and_true] at hs hn
  subst hs hn
  have hb := bounds_i64 wn
  rcases Deep.open_slice Try.underlying25 h2 with ⟨hcs, _⟩ | ⟨x, l, c, m, k, D, Pl, hcs, _, hl, hm, hmm, _, hr⟩
  · simp only [List.cons.injEq, and_true] at hcs
    subst hcs
    exact ⟨s, n, none, 0, 0, rfl, [], rfl, slV_none W, ws, by simp only; omega, by simp only; omega⟩
  · simp only [List.cons.injEq, and_true] at hcs
    subst hcs
    simp only [if_true] at hmm
    rw [hmm] at hr
    have each : ∀ i, i < l → ∃ x' : V, (x'.s.size ≤ maxLen ∧ Rng x') ∧ W.cell? (x.add (i * 3)) = some (.int .i64 x'.k) ∧ W.cell? (x.add (i * 3 + 1)) = some (.int .i64 x'.n) ∧ W.cell? (x.add (i * 3 + 2)) = some (.string x'.s) := by
      intro i hi
      obtain ⟨cs', hc, ht⟩ := hr i (by omega)
      rw [show Try.prog.cellsOf 44 = 3 from by kernel_rfl] at hc
      obtain ⟨_, hlen, hcell⟩ := World.cells?_some hc
      match cs', hlen with
      | [v0, v1, v2], _ =>
        obtain ⟨y0, y1, y2, k, _, _, t0, t1, t2⟩ := Deep.trod_struct3 Try.underlying44 ht
        have c1 : Try.prog.cellsOf 3 = 1 := by kernel_rfl
        have c2 : Try.prog.cellsOf 9 = 1 := by kernel_rfl
        simp only [c1] at t0 t1
        simp only [c2] at t2
        obtain ⟨n0, e0', _, _⟩ := DataW.trod_int Try.underlying3 t0
        obtain ⟨n1, e1', _, w1⟩ := DataW.trod_int Try.underlying3 t1
        obtain ⟨s, e2', _, w2⟩ := DataW.trod_string Try.underlying9 t2
        simp only [List.drop_zero, List.drop_succ_cons, List.take_succ_cons, List.take_zero, List.cons.injEq, and_true] at e0' e1' e2'
        subst e0' e1' e2'
        have g0 := hcell 0 (by decide)
        have g1 := hcell 1 (by decide)
        have g2 := hcell 2 (by decide)
        have hb := bounds_i64 w1
        refine ⟨⟨n0, n1, s⟩, ⟨w2, by simp only; omega, by simp only; omega⟩, ?_, ?_, ?_⟩
        · rw [Deep.add_add, Nat.add_zero] at g0
          exact g0
        · rw [Deep.add_add] at g1
          exact g1
        · rw [Deep.add_add] at g2
          exact g2
    let g : Nat → V := fun i => if h : i < l then Classical.choose (each i h) else EvM.v0
    have hg : ∀ i, i < l → ((g i).s.size ≤ maxLen ∧ Rng (g i)) ∧ W.cell? (x.add (i * 3)) = some (.int .i64 (g i).k) ∧ W.cell? (x.add (i * 3 + 1)) = some (.int .i64 (g i).n) ∧ W.cell? (x.add (i * 3 + 2)) = some (.string (g i).s) := by
      intro i hi
      have e : g i = Classical.choose (each i hi) := dif_pos hi
      rw [e]
      exact Classical.choose_spec (each i hi)
    have hgl : ((List.range l).map g).length = l := by simp
    have hgd : ∀ i, i < l → ((List.range l).map g).getD i EvM.v0 = g i := fun i hi => by simp [List.getD_eq_getElem?_getD, hi]
    refine ⟨s, n, some x, l, c, rfl, (List.range l).map g, hgl, ⟨⟨⟨((List.range l).map g).flatMap encV, fun h0 => ?_, elems_flat _⟩, by rw [hgl]; exact hl, (fun e => by cases e), hm⟩, fun f hf => ?_⟩, ws, by simp only; omega, by simp only; omega⟩
    · have hl0 : 0 < l := by
        rcases Nat.eq_zero_or_pos l with e | e
        · subst e
          simp at h0
        · exact e
      obtain ⟨b, o, sp⟩ := x
      have hsp : sp = none := by simpa [Addr.add] using World.cell?_spot (hg 0 hl0).2.1
      subst hsp
      refine ⟨b, o, rfl, flat_cells _ o fun i hi => ?_⟩
      rw [hgl] at hi
      rw [hgd i hi]
      obtain ⟨_, g1, g2, g3⟩ := hg i hi
      rw [Addr.add_lit] at g1 g2 g3
      exact ⟨g1, g2, g3⟩
    · obtain ⟨i, hi, rfl⟩ := List.mem_map.1 hf
      exact (hg i (List.mem_range.1 hi)).1
end Go.Proofs.Ytbakhodijhacoaa.Op

namespace Go.Proofs.Ytbakhodijhacoaa.Op
open Go.RowKit Go.ChangeShapes Go.WideShapes Go.Proofs.Ytbakhodijhacoaa.Sc Go.Proofs.Ytbakhodijhacoaa.ScM Go.Proofs.Ytbakhodijhacoaa.VaM

/-- A schema that came in: its fields lie where its slice says. -/
def ArgS (W : World) (s : ByteArray) (v : Int) (a : Option Addr) (len cap : Nat) : Prop := ∃ l : List F, l.length = len ∧ SlF W a l cap ∧ Fine ⟨s, v, l⟩

theorem two {H : Type} {enc : TypeId × Value → H} {P : Program} {w : World} {base : Nat} {spare : Nat → Bool} {held : Bool} {t : TypeId} {g0 g1 : Field} {fuel : Nat} {u0 u1 : Value} {x : DataW H × List MemPlace}
    (ht : P.underlying t = some (.struct #[g0, g1])) (h : DataW.trod enc P w base spare held fuel t [u0, u1] = some x) :
    ∃ y0 y1 n, DataW.trod enc P w base spare held n g0.type (([u0, u1].drop g0.offset).take (P.cellsOf g0.type)) = some y0 ∧ DataW.trod enc P w base spare held n g1.type (([u0, u1].drop g1.offset).take (P.cellsOf g1.type)) = some y1 := by
  obtain ⟨ys, n, _, _, _, hn, hat⟩ := DataW.trod_struct ht h
  obtain ⟨a, b, rfl⟩ : ∃ a b, ys = [a, b] := by
    match ys, hn with
    | [a, b], _ => exact ⟨a, b, rfl⟩
  exact ⟨a, b, n, by simpa using hat 0 g0 rfl, by simpa using hat 1 g1 rfl⟩

theorem open_schema {H : Type} {enc : TypeId × Value → H} {W : World} {r : Reach} {b0 : Nat} {v : Value} {d : DataW H} {p : List MemPlace} (hv : Value.okWide Try.prog W r b0 24 v)
    (h : DataW.Trod enc Try.prog W 0 (fun _ => true) true 24 v d p) : ∃ s n a len cap, v = .agg #[.string s, .int .i64 n, .slice a len cap] ∧ ArgS W s n a len cap := by
  obtain ⟨v0, v1, v2, y0, y1, y2, fuel, rfl, _, _, h0, h1, h2⟩ := Joins.open_agg3 Try.underlying24 (by kernel_rfl) (by kernel_rfl) hv h
  obtain ⟨s, hs, _, ws⟩ := DataW.trod_string Try.underlying9 h0
  obtain ⟨n, hn, _, wn⟩ := DataW.trod_int Try.underlying3 h1
  simp only [List.cons.injEq, and_true] at hs hn
  subst hs hn
  have hb := bounds_i64 wn
  rcases Deep.open_slice Try.underlying22 h2 with ⟨hcs, _⟩ | ⟨x, l, c, m, k, D, Pl, hcs, _, hl, hm, hmm, _, hr⟩
  · simp only [List.cons.injEq, and_true] at hcs
    subst hcs
    exact ⟨s, n, none, 0, 0, rfl, [], rfl, slF_none W, ws, by simp only; omega, by simp only; omega⟩
  · simp only [List.cons.injEq, and_true] at hcs
    subst hcs
    simp only [if_true] at hmm
    rw [hmm] at hr
    have each : ∀ i, i < l → ∃ f : F, f.s.size ≤ maxLen ∧ W.cell? (x.add (i * 2)) = some (.string f.s) ∧ W.cell? (x.add (i * 2 + 1)) = some (.int .i64 f.k) := by
      intro i hi
      obtain ⟨cs', hc, ht⟩ := hr i (by omega)
      rw [show Try.prog.cellsOf 42 = 2 from by kernel_rfl] at hc
      obtain ⟨_, hlen, hcell⟩ := World.cells?_some hc
      match cs', hlen with
      | [v0, v1], _ =>
        obtain ⟨y0, y1, k, t0, t1⟩ := two Try.underlying42 ht
        have c1 : Try.prog.cellsOf 3 = 1 := by kernel_rfl
        have c2 : Try.prog.cellsOf 9 = 1 := by kernel_rfl
        simp only [c1, c2] at t0 t1
        obtain ⟨f0, e0', _, w0⟩ := DataW.trod_string Try.underlying9 t0
        obtain ⟨f1, e1', _, _⟩ := DataW.trod_int Try.underlying3 t1
        simp only [List.drop_zero, List.drop_succ_cons, List.take_succ_cons, List.take_zero, List.cons.injEq, and_true] at e0' e1'
        subst e0' e1'
        have g0 := hcell 0 (by decide)
        have g1 := hcell 1 (by decide)
        refine ⟨⟨f0, f1⟩, w0, ?_, ?_⟩
        · rw [Deep.add_add, Nat.add_zero] at g0
          exact g0
        · rw [Deep.add_add] at g1
          exact g1
    let g : Nat → F := fun i => if h : i < l then Classical.choose (each i h) else d0
    have hg : ∀ i, i < l → (g i).s.size ≤ maxLen ∧ W.cell? (x.add (i * 2)) = some (.string (g i).s) ∧ W.cell? (x.add (i * 2 + 1)) = some (.int .i64 (g i).k) := by
      intro i hi
      have e : g i = Classical.choose (each i hi) := dif_pos hi
      rw [e]
      exact Classical.choose_spec (each i hi)
    have hgl : ((List.range l).map g).length = l := by simp
    have hgd : ∀ i, i < l → ((List.range l).map g).getD i d0 = g i := fun i hi => by simp [List.getD_eq_getElem?_getD, hi]
    refine ⟨s, n, some x, l, c, rfl, (List.range l).map g, hgl, ⟨fun h0 => ?_, by rw [hgl]; exact hl, (fun e => by cases e), hm, fun f hf => ?_⟩, ws, by simp only; omega, by simp only; omega⟩
    · rw [hgl] at h0
      obtain ⟨b, o, sp⟩ := x
      have hsp : sp = none := by simpa [Addr.add] using World.cell?_spot (hg 0 h0).2.1
      subst hsp
      refine ⟨b, o, rfl, fun i hi => ?_⟩
      rw [hgl] at hi
      rw [hgd i hi]
      obtain ⟨_, g1, g2⟩ := hg i hi
      rw [Addr.add_lit] at g1 g2
      exact ⟨g1, g2⟩
    · obtain ⟨i, hi, rfl⟩ := List.mem_map.1 hf
      exact (hg i (List.mem_range.1 hi)).1

theorem open_field {H : Type} {enc : TypeId × Value → H} {W : World} {r : Reach} {b0 : Nat} {v : Value} {d : DataW H} {p : List MemPlace} (hv : Value.okWide Try.prog W r b0 42 v)
    (h : DataW.Trod enc Try.prog W 0 (fun _ => true) true 42 v d p) : ∃ s n, v = .agg #[.string s, .int .i64 n] ∧ s.size ≤ maxLen := by
  obtain ⟨v0, v1, y0, y1, fuel, rfl, _, _, h0, h1⟩ := Joins.open_agg2 Try.underlying42 (by kernel_rfl) (by kernel_rfl) hv h
  obtain ⟨s, hs, _, ws⟩ := DataW.trod_string Try.underlying9 h0
  obtain ⟨n, hn, _, _⟩ := DataW.trod_int Try.underlying3 h1
  simp only [List.cons.injEq, and_true] at hs hn
  subst hs hn
  exact ⟨s, n, rfl, ws⟩
end Go.Proofs.Ytbakhodijhacoaa.Op

namespace Go.Proofs.Ytbakhodijhacoaa.Ev
open Go.RowKit Go.Proofs.Ytbakhodijhacoaa.BM Go.Proofs.Ytbakhodijhacoaa.LM Go.Proofs.Ytbakhodijhacoaa.EvM
open Go.Proofs.Ytbakhodijhacoaa.VaM (V e0)
open Go.Proofs.Ytbakhodijhacoaa.Va (SlV slV_len bx_new_t Bx ret_v)
open Go.Proofs.Ytbakhodijhacoaa.Sc (SlF slF_len)
open Go.Proofs.Ytbakhodijhacoaa.ScM (Sc)

/-- What came in, as the walk meets it. -/
structure Four (w : World) (s1 s2 s3 : ByteArray) (v1 t2 t3 : Int) (a1 a2 a3 : Option Addr) (n1 n2 n3 c1 c2 c3 : Nat) (l1 : List ScM.F) (m2 m3 : List V) (x : Option Addr) (len xcap : Nat) (xs : List Int) : Prop where
  e1 : l1.length = n1
  e2 : m2.length = n2
  e3 : m3.length = n3
  h1 : SlF w a1 l1 c1
  h2 : SlV w a2 m2 c2
  h3 : SlV w a3 m3 c3
  f1 : Sc.Fine ⟨s1, v1, l1⟩
  f2 : Fine ⟨s2, t2, m2⟩
  f3 : Fine ⟨s3, t3, m3⟩
  ex : xs.length = len
  hx : SlB w x xs xcap

set_option maxRecDepth 100000 in
set_option maxHeartbeats 8000000 in
theorem tells_walk' (s1 s2 s3 : ByteArray) (v1 t2 t3 : Int) (a1 a2 a3 : Option Addr) (n1 n2 n3 c1 c2 c3 : Nat) (l1 : List ScM.F) (m2 m3 : List V) (x : Option Addr) (len xcap : Nat) (xs : List Int) (w : World)
    (h : Four w s1 s2 s3 v1 t2 t3 a1 a2 a3 n1 n2 n3 c1 c2 c3 l1 m2 m3 x len xcap xs) :
    Calls Try.prog 3 #[.agg #[.string s1, .int .i64 v1, .slice a1 n1 c1], .agg #[.string s2, .int .i64 t2, .slice a2 n2 c2], .agg #[.string s3, .int .i64 t3, .slice a3 n3 c3], .slice x len xcap] w fun e w' => e = .returned (.bool true) ∧ Below w.heap.size w w' := by
  have hlm : len ≤ 9223372036854775807 := by
    have h1 := h.hx.2.1
    have h2 := h.hx.2.2.2
    unfold maxLen at h2
    rw [h.ex] at h1
    omega
  have hF1 := fun W (hW : Below w.heap.size w W) => Sc.Few_any ⟨s1, v1, l1⟩ a1 c1 W (h.h1.kept hW) h.f1.1
  have hF2 := fun W (hW : Below w.heap.size w W) => Few_any ⟨s2, t2, m2⟩ a2 c2 W (h.h2.kept hW) h.f2.1
  have hF3 := fun W (hW : Below w.heap.size w W) => Few_any ⟨s3, t3, m3⟩ a3 c3 W (h.h3.kept hW) h.f3.1
  have hP1 := fun W (hW : Below w.heap.size w W) => Put_any ⟨s2, t2, m2⟩ a2 c2 W (h.h2.kept hW) h.f2
  have hP2 := fun W (hW : Below w.heap.size w W) => refPut_any ⟨s2, t2, m2⟩ a2 c2 W (h.h2.kept hW) h.f2
  have hG1 := fun W (hW : Below w.heap.size w W) => Get_any x xs xcap W (h.hx.kept hW)
  have hG2 := fun W (hW : Below w.heap.size w W) => refGet_any x xs xcap W (h.hx.kept hW)
  have hM1 := fun W (hW : Below w.heap.size w W) => May_any ⟨s2, t2, m2⟩ a2 c2 W (h.h2.kept hW) h.f2
  have hM2 := fun W (hW : Below w.heap.size w W) => refMay_any ⟨s2, t2, m2⟩ a2 c2 W (h.h2.kept hW) h.f2
  have hS1 := fun W (hW : Below w.heap.size w W) => Same_any ⟨s2, t2, m2⟩ ⟨s3, t3, m3⟩ a2 c2 a3 c3 W (h.h2.kept hW) (h.h3.kept hW)
  have hS2 := fun W (hW : Below w.heap.size w W) => refSame_any ⟨s2, t2, m2⟩ ⟨s3, t3, m3⟩ a2 c2 a3 c3 W (h.h2.kept hW) (h.h3.kept hW)
  have hV1 := fun W (hW : Below w.heap.size w W) => Valid_any ⟨s1, v1, l1⟩ ⟨s2, t2, m2⟩ a1 c1 a2 c2 W (h.h1.kept hW) (h.h2.kept hW) h.f1 h.f2
  have hV2 := fun W (hW : Below w.heap.size w W) => refValid_any ⟨s1, v1, l1⟩ ⟨s2, t2, m2⟩ a1 c1 a2 c2 W (h.h1.kept hW) (h.h2.kept hW) h.f1 h.f2
  unfold Gots at hG1 hG2
  unfold Putted at hP1 hP2
  obtain ⟨⟨⟨gs, gv, gl⟩, gm, gc⟩, hgot⟩ : ∃ r, r = gotE (gE xs) := ⟨_, rfl⟩
  obtain ⟨I, hI⟩ : ∃ I, I = decide (May ⟨s2, t2, m2⟩) := ⟨_, rfl⟩
  obtain ⟨Vl, hVl⟩ : ∃ I, I = valid ⟨s1, v1, l1⟩ ⟨s2, t2, m2⟩ := ⟨_, rfl⟩
  obtain ⟨E, hE⟩ : ∃ I, I = decide ((⟨s2, t2, m2⟩ : Ev) = ⟨s3, t3, m3⟩) := ⟨_, rfl⟩
  obtain ⟨P, hPd⟩ : ∃ I, I = decide (Few ⟨s2, t2, m2⟩) := ⟨_, rfl⟩
  obtain ⟨Q, hQd⟩ : ∃ I, I = decide (Few ⟨s3, t3, m3⟩) := ⟨_, rfl⟩
  obtain ⟨R, hRd⟩ : ∃ I, I = decide (Sc.Few ⟨s1, v1, l1⟩) := ⟨_, rfl⟩
  obtain ⟨bs, hbs⟩ : ∃ b, b = pv ⟨s2, t2, m2⟩ := ⟨_, rfl⟩
  obtain ⟨L, hL⟩ : ∃ L, L = bs.length := ⟨_, rfl⟩
  simp only [h.e1, h.e2, h.e3, ← hI, ← hVl, ← hE, ← hPd, ← hQd, ← hRd, ← hbs, ← hL, ← hgot, got3] at hF1 hF2 hF3 hP1 hP2 hG1 hG2 hM1 hM2 hS1 hS2 hV1 hV2
  simp only [h.ex] at hG1 hG2
  have hgS := fun W (A B : Option Addr) (c d : Nat) (hA : SlV W A gl c) (hB : SlV W B gl d) => refSame_any ⟨gs, gv, gl⟩ ⟨gs, gv, gl⟩ A c B d W hA hB
  simp only [decide_true] at hgS
  obtain ⟨ng, hng⟩ : ∃ n, n = gl.length := ⟨_, rfl⟩
  simp only [← hng] at hG1 hG2 hgS
  have HF1 := Lib.hid hF1
  have HF2 := Lib.hid hF2
  have HF3 := Lib.hid hF3
  have HP1 := Lib.hid hP1
  have HP2 := Lib.hid hP2
  have HG1 := Lib.hid hG1
  have HG2 := Lib.hid hG2
  have HM1 := Lib.hid hM1
  have HM2 := Lib.hid hM2
  have HS1 := Lib.hid hS1
  have HS2 := Lib.hid hS2
  have HV1 := Lib.hid hV1
  have HV2 := Lib.hid hV2
  have HGs := Lib.hid hgS
  have HLn := Lib.hid hL
  have ha1 := (Below.refl w.heap.size w).alloc (Nat.le_refl _) (.cells #[.string s1, .int .i64 v1, .slice a1 n1 c1] 24)
  obtain ⟨u1, hu1⟩ : ∃ u, u = w.alloc (.cells #[.string s1, .int .i64 v1, .slice a1 n1 c1] 24) := ⟨_, rfl⟩
  have hs1 : u1.heap.size = w.heap.size + 1 := by rw [hu1]; simp
  have hx1 := bx_new_t w 24 (.string s1) (.int .i64 v1) (.slice a1 n1 c1)
  rw [← hu1] at ha1 hx1
  have ha2 := (Below.refl u1.heap.size u1).alloc (Nat.le_refl _) (.cells #[.string s2, .int .i64 t2, .slice a2 n2 c2] 27)
  have hx2 := bx_new_t u1 27 (.string s2) (.int .i64 t2) (.slice a2 n2 c2)
  obtain ⟨u2, hu2⟩ : ∃ u, u = u1.alloc (.cells #[.string s2, .int .i64 t2, .slice a2 n2 c2] 27) := ⟨_, rfl⟩
  have hs2 : u2.heap.size = w.heap.size + 2 := by rw [hu2]; simp [hs1]
  rw [← hu2] at ha2 hx2
  have ha3 := (Below.refl u2.heap.size u2).alloc (Nat.le_refl _) (.cells #[.string s3, .int .i64 t3, .slice a3 n3 c3] 27)
  have hx3 := bx_new_t u2 27 (.string s3) (.int .i64 t3) (.slice a3 n3 c3)
  have hx1' := (hx1.kept ha2).kept ha3
  have hx2' := hx2.kept ha3
  have hb := bt ha1 (bt ha2 ha3)
  rw [hs1] at hx2'
  rw [hs2] at hx3
  rw [hu2, hu1] at hx1' hx2' hx3 hb
  have HX := Lib.hid hx1'
  have HY := Lib.hid hx2'
  have HZ := Lib.hid hx3
  have HB := Lib.hid hb
  clear ha1 ha2 ha3 hx1 hx2 hx3 hx1' hx2' hb hu1 hu2 hs1 hs2 hF1 hF2 hF3 hP1 hP2 hG1 hG2 hM1 hM2 hS1 hS2 hV1 hV2 hgS hI hVl hE hPd hQd hRd hbs hL hgot hng h u1 u2
  go_enter Try.func3, Try.ntmps3
  go_wp2_with fail
  refine (awake_any _).mono ?_
  rintro e w1 ⟨rfl, hb⟩
  have HB1 := Lib.hid (bt HB.out hb)
  have HX1 := Lib.hid (HX.out.kept hb)
  have HY1 := Lib.hid (HY.out.kept hb)
  have HZ1 := Lib.hid (HZ.out.kept hb)
  clear hb HB HX HY HZ
  obtain ⟨⟨p0, p1, p2⟩, _⟩ := HY1.out
  go_wp2_with fail
  refine (HF2.out _ HB1.out).mono ?_
  rintro e w2 ⟨rfl, hb⟩
  have HB2 := Lib.hid (bt HB1.out hb)
  have HX2 := Lib.hid (HX1.out.kept hb)
  have HY2 := Lib.hid (HY1.out.kept hb)
  have HZ2 := Lib.hid (HZ1.out.kept hb)
  clear hb HB1 HX1 HY1 HZ1 p0 p1 p2 HF2
  obtain ⟨⟨p0, p1, p2⟩, _⟩ := HZ2.out
  go_wp2_with fail
  refine (HF3.out _ HB2.out).mono ?_
  rintro e w3 ⟨rfl, hb⟩
  have HB3 := Lib.hid (bt HB2.out hb)
  have HX3 := Lib.hid (HX2.out.kept hb)
  have HY3 := Lib.hid (HY2.out.kept hb)
  have HZ3 := Lib.hid (HZ2.out.kept hb)
  clear hb HB2 HX2 HY2 HZ2 p0 p1 p2 HF3
  obtain ⟨⟨p0, p1, p2⟩, _⟩ := HX3.out
  go_wp2_with fail
  refine (HF1.out _ HB3.out).mono ?_
  rintro e w4 ⟨rfl, hb⟩
  have HB4 := Lib.hid (bt HB3.out hb)
  have HX4 := Lib.hid (HX3.out.kept hb)
  have HY4 := Lib.hid (HY3.out.kept hb)
  have HZ4 := Lib.hid (HZ3.out.kept hb)
  clear hb HB3 HX3 HY3 HZ3 p0 p1 p2 HF1
  by_cases hpq : P = true ∧ Q = true ∧ R = true ∧ len ≤ 400
  · obtain ⟨rfl, rfl, rfl, q1⟩ := hpq
    have hd1 : decide ((400 : Int) < (len : Int)) = false := by rw [decide_eq_false_iff_not]; omega
    obtain ⟨⟨p0, p1, p2⟩, _⟩ := HY4.out
    go_wp2_with fail
    refine (HP1.out _ HB4.out).mono ?_
    rintro e w5 ⟨A1, d1, rfl, ht1, _, hb⟩
    have HB5 := Lib.hid (bt HB4.out hb)
    have HX5 := Lib.hid (HX4.out.kept hb)
    have HY5 := Lib.hid (HY4.out.kept hb)
    have HZ5 := Lib.hid (HZ4.out.kept hb)
    have HU5 := Lib.hid ht1
    clear hb HB4 HX4 HY4 HZ4 p0 p1 p2 ht1 HP1
    obtain ⟨⟨p0, p1, p2⟩, _⟩ := HY5.out
    go_wp2_with fail
    refine (HP2.out _ HB5.out).mono ?_
    rintro e w6 ⟨A2, d2, rfl, ht2, _, hb⟩
    have HB6 := Lib.hid (bt HB5.out hb)
    have HX6 := Lib.hid (HX5.out.kept hb)
    have HY6 := Lib.hid (HY5.out.kept hb)
    have HZ6 := Lib.hid (HZ5.out.kept hb)
    have HU6 := Lib.hid (HU5.out.kept hb)
    have HV6 := Lib.hid ht2
    clear hb HB5 HX5 HY5 HZ5 HU5 p0 p1 p2 ht2 HP2
    go_wp2_with fail
    refine (HG1.out _ HB6.out).mono ?_
    rintro e w7 ⟨A3, d3, rfl, hs3, _, hb⟩
    have ha := (Below.refl w7.heap.size w7).alloc (Nat.le_refl _) (.cells #[.string gs, .int .i64 gv, .slice A3 ng d3] 27)
    have HC8 := Lib.hid (bx_new_t w7 27 (.string gs) (.int .i64 gv) (.slice A3 ng d3))
    have HB8 := Lib.hid (bt HB6.out (bt hb ha))
    have HX8 := Lib.hid (HX6.out.kept (bt hb ha))
    have HY8 := Lib.hid (HY6.out.kept (bt hb ha))
    have HZ8 := Lib.hid (HZ6.out.kept (bt hb ha))
    have HU8 := Lib.hid (HU6.out.kept (bt hb ha))
    have HV8 := Lib.hid (HV6.out.kept (bt hb ha))
    have HS8 := Lib.hid (hs3.kept ha)
    clear hb HB6 HX6 HY6 HZ6 HU6 HV6 hs3 ha HG1
    go_wp2_with fail
    obtain ⟨w8, hw8⟩ : ∃ w8, w8 = w7.alloc (.cells #[.string gs, .int .i64 gv, .slice A3 ng d3] 27) := ⟨_, rfl⟩
    obtain ⟨b8, hb8⟩ : ∃ b, b = w7.heap.size := ⟨_, rfl⟩
    rw [← hw8] at HC8 HB8 HX8 HY8 HZ8 HU8 HV8 HS8 ⊢
    rw [← hb8] at HC8 ⊢
    clear hw8 hb8
    refine (HG2.out _ HB8.out).mono ?_
    rintro e w9 ⟨A4, d4, rfl, hs4, _, hb⟩
    have ha := (Below.refl w9.heap.size w9).alloc (Nat.le_refl _) (.cells #[.string gs, .int .i64 gv, .slice A4 ng d4] 27)
    have HD10 := Lib.hid (bx_new_t w9 27 (.string gs) (.int .i64 gv) (.slice A4 ng d4))
    have HC10 := Lib.hid (HC8.out.kept (bt hb ha))
    have HB10 := Lib.hid (bt HB8.out (bt hb ha))
    have HX10 := Lib.hid (HX8.out.kept (bt hb ha))
    have HY10 := Lib.hid (HY8.out.kept (bt hb ha))
    have HZ10 := Lib.hid (HZ8.out.kept (bt hb ha))
    have HU10 := Lib.hid (HU8.out.kept (bt hb ha))
    have HV10 := Lib.hid (HV8.out.kept (bt hb ha))
    have HS10 := Lib.hid (HS8.out.kept (bt hb ha))
    have HR10 := Lib.hid (hs4.kept ha)
    have hlt := HC8.out.kept hb
    have hblt := hlt.lt
    clear hb hlt HB8 HX8 HY8 HZ8 HU8 HV8 HS8 HC8 hs4 ha HG2
    obtain ⟨⟨p0, p1, p2⟩, _⟩ := HC10.out
    obtain ⟨⟨q0, q1', q2'⟩, _⟩ := HD10.out
    have HGs10 := Lib.hid (HGs.out _ A3 A4 d3 d4 HS10.out HR10.out)
    clear HGs HS10 HR10
    go_wp2_with fail
    obtain ⟨w10, hw10⟩ : ∃ w10, w10 = w9.alloc (.cells #[.string gs, .int .i64 gv, .slice A4 ng d4] 27) := ⟨_, rfl⟩
    rw [← hw10] at HB10 HX10 HY10 HZ10 HU10 HV10 HGs10 ⊢
    clear hw10 p0 p1 p2 q0 q1' q2' HC10 HD10
    refine HGs10.out.mono ?_
    rintro e w11 ⟨rfl, hb⟩
    have HB11 := Lib.hid (bt HB10.out hb)
    have HX11 := Lib.hid (HX10.out.kept hb)
    have HY11 := Lib.hid (HY10.out.kept hb)
    have HZ11 := Lib.hid (HZ10.out.kept hb)
    have HU11 := Lib.hid (HU10.out.kept hb)
    have HV11 := Lib.hid (HV10.out.kept hb)
    clear hb HB10 HX10 HY10 HZ10 HU10 HV10 HGs10
    obtain ⟨⟨p0, p1, p2⟩, _⟩ := HY11.out
    go_wp2_with fail
    refine (HM2.out _ HB11.out).mono ?_
    rintro e w12 ⟨rfl, hb⟩
    have HB12 := Lib.hid (bt HB11.out hb)
    have HX12 := Lib.hid (HX11.out.kept hb)
    have HY12 := Lib.hid (HY11.out.kept hb)
    have HZ12 := Lib.hid (HZ11.out.kept hb)
    have HU12 := Lib.hid (HU11.out.kept hb)
    have HV12 := Lib.hid (HV11.out.kept hb)
    clear hb HB11 HX11 HY11 HZ11 HU11 HV11 p0 p1 p2 HM2
    obtain ⟨⟨p0, p1, p2⟩, _⟩ := HY12.out
    obtain ⟨⟨q0, q1', q2'⟩, _⟩ := HZ12.out
    go_wp2_with fail
    refine (HS2.out _ HB12.out).mono ?_
    rintro e w13 ⟨rfl, hb⟩
    have HB13 := Lib.hid (bt HB12.out hb)
    have HX13 := Lib.hid (HX12.out.kept hb)
    have HY13 := Lib.hid (HY12.out.kept hb)
    have HZ13 := Lib.hid (HZ12.out.kept hb)
    have HU13 := Lib.hid (HU12.out.kept hb)
    have HV13 := Lib.hid (HV12.out.kept hb)
    clear hb HB12 HX12 HY12 HZ12 HU12 HV12 p0 p1 p2 q0 q1' q2' HS2
    go_wp2_with fail
    obtain ⟨S, hS⟩ : ∃ S, S = strOfNums bs := ⟨_, rfl⟩
    have HSs := Lib.hid hS
    have hee : (S.toList == S.toList) = true := by simp
    clear hS
    refine Reg.G_start (by kernel_rfl) (by repeat (first | exact Reg.frameless_bodyPost | refine Reg.frameless_then ?_ | refine Reg.frameless_inBlock ?_)) (fun W hW => ?_)
    have hcx := fun x : Reg.Later W => conv_any (HU13.out.kept (bt hW x.ext)).1 d1 9 Try.underlying9
    have hcy := fun x : Reg.Later W => conv_any (HV13.out.kept (bt hW x.ext)).1 d2 9 Try.underlying9
    rw [← HSs.out, ← HLn.out] at hcx hcy
    have hBW := bt HB13.out hW
    obtain ⟨⟨p0, p1, p2⟩, _⟩ := HY13.out.kept hW
    have x0 := Reg.later_cell (Below.refl _ W) p0
    have x1 := Reg.later_cell (Below.refl _ W) p1
    have x2 := Reg.later_cell (Below.refl _ W) p2
    clear p0 p1 p2
    first | (refine Reg.G_step (i := 0) rfl (by kernel_rfl) (by rfl) (fun K hK => ?_); go_big_quiet_op; refine hK _ ?_; clear hK K) | (refine Reg.G_skip (i := 0) rfl (by kernel_rfl) (by rfl) ?_; simp only [Act.put, List.setIfInBounds_toArray, List.set_cons_zero, List.set_cons_succ])
    first | (refine Reg.G_step (i := 1) rfl (by kernel_rfl) (by rfl) (fun K hK => ?_); go_big_quiet_op; refine hK _ ?_; clear hK K) | (refine Reg.G_skip (i := 1) rfl (by kernel_rfl) (by rfl) ?_; simp only [Act.put, List.setIfInBounds_toArray, List.set_cons_zero, List.set_cons_succ])
    first | (refine Reg.G_step (i := 2) rfl (by kernel_rfl) (by rfl) (fun K hK => ?_); go_big_quiet_op; refine hK _ ?_; clear hK K) | (refine Reg.G_skip (i := 2) rfl (by kernel_rfl) (by rfl) ?_; simp only [Act.put, List.setIfInBounds_toArray, List.set_cons_zero, List.set_cons_succ])
    first | (refine Reg.G_step (i := 3) rfl (by kernel_rfl) (by rfl) (fun K hK => ?_); go_big_quiet_op; refine hK _ ?_; clear hK K) | (refine Reg.G_skip (i := 3) rfl (by kernel_rfl) (by rfl) ?_; simp only [Act.put, List.setIfInBounds_toArray, List.set_cons_zero, List.set_cons_succ])
    first | (refine Reg.G_step (i := 4) rfl (by kernel_rfl) (by rfl) (fun K hK => ?_); go_big_quiet_op; refine hK _ ?_; clear hK K) | (refine Reg.G_skip (i := 4) rfl (by kernel_rfl) (by rfl) ?_; simp only [Act.put, List.setIfInBounds_toArray, List.set_cons_zero, List.set_cons_succ])
    first | (refine Reg.G_step (i := 5) rfl (by kernel_rfl) (by rfl) (fun K hK => ?_); go_big_quiet_op; refine hK _ ?_; clear hK K) | (refine Reg.G_skip (i := 5) rfl (by kernel_rfl) (by rfl) ?_; simp only [Act.put, List.setIfInBounds_toArray, List.set_cons_zero, List.set_cons_succ])
    first | (refine Reg.G_step (i := 6) rfl (by kernel_rfl) (by rfl) (fun K hK => ?_); go_big_quiet_op; refine hK _ ?_; clear hK K) | (refine Reg.G_skip (i := 6) rfl (by kernel_rfl) (by rfl) ?_; simp only [Act.put, List.setIfInBounds_toArray, List.set_cons_zero, List.set_cons_succ])
    first | (refine Reg.G_step (i := 7) rfl (by kernel_rfl) (by rfl) (fun K hK => ?_); go_big_quiet_op; refine hK _ ?_; clear hK K) | (refine Reg.G_skip (i := 7) rfl (by kernel_rfl) (by rfl) ?_; simp only [Act.put, List.setIfInBounds_toArray, List.set_cons_zero, List.set_cons_succ])
    first | (refine Reg.G_step (i := 8) rfl (by kernel_rfl) (by rfl) (fun K hK => ?_); go_big_quiet_op; refine hK _ ?_; clear hK K) | (refine Reg.G_skip (i := 8) rfl (by kernel_rfl) (by rfl) ?_; simp only [Act.put, List.setIfInBounds_toArray, List.set_cons_zero, List.set_cons_succ])
    first | (refine Reg.G_step (i := 9) rfl (by kernel_rfl) (by rfl) (fun K hK => ?_); go_big_quiet_op; refine hK _ ?_; clear hK K) | (refine Reg.G_skip (i := 9) rfl (by kernel_rfl) (by rfl) ?_; simp only [Act.put, List.setIfInBounds_toArray, List.set_cons_zero, List.set_cons_succ])
    first | (refine Reg.G_step (i := 10) rfl (by kernel_rfl) (by rfl) (fun K hK => ?_); go_big_quiet_op; refine hK _ ?_; clear hK K) | (refine Reg.G_skip (i := 10) rfl (by kernel_rfl) (by rfl) ?_; simp only [Act.put, List.setIfInBounds_toArray, List.set_cons_zero, List.set_cons_succ])
    first | (refine Reg.G_step (i := 11) rfl (by kernel_rfl) (by rfl) (fun K hK => ?_); go_big_quiet_op; refine hK _ ?_; clear hK K) | (refine Reg.G_skip (i := 11) rfl (by kernel_rfl) (by rfl) ?_; simp only [Act.put, List.setIfInBounds_toArray, List.set_cons_zero, List.set_cons_succ])
    first | (refine Reg.G_step (i := 12) rfl (by kernel_rfl) (by rfl) (fun K hK => ?_); go_big_quiet_op; refine hK _ ?_; clear hK K) | (refine Reg.G_skip (i := 12) rfl (by kernel_rfl) (by rfl) ?_; simp only [Act.put, List.setIfInBounds_toArray, List.set_cons_zero, List.set_cons_succ])
    first | (refine Reg.G_step (i := 13) rfl (by kernel_rfl) (by rfl) (fun K hK => ?_); go_big_quiet_op; refine hK _ ?_; clear hK K) | (refine Reg.G_skip (i := 13) rfl (by kernel_rfl) (by rfl) ?_; simp only [Act.put, List.setIfInBounds_toArray, List.set_cons_zero, List.set_cons_succ])
    first | (refine Reg.G_step (i := 14) rfl (by kernel_rfl) (by rfl) (fun K hK => ?_); go_big_quiet_op; refine hK _ ?_; clear hK K) | (refine Reg.G_skip (i := 14) rfl (by kernel_rfl) (by rfl) ?_; simp only [Act.put, List.setIfInBounds_toArray, List.set_cons_zero, List.set_cons_succ])
    first | (refine Reg.G_step (i := 15) rfl (by kernel_rfl) (by rfl) (fun K hK => ?_); go_big_quiet_op; refine hK _ ?_; clear hK K) | (refine Reg.G_skip (i := 15) rfl (by kernel_rfl) (by rfl) ?_; simp only [Act.put, List.setIfInBounds_toArray, List.set_cons_zero, List.set_cons_succ])
    first | (refine Reg.G_step (i := 16) rfl (by kernel_rfl) (by rfl) (fun K hK => ?_); go_big_quiet_op; refine hK _ ?_; clear hK K) | (refine Reg.G_skip (i := 16) rfl (by kernel_rfl) (by rfl) ?_; simp only [Act.put, List.setIfInBounds_toArray, List.set_cons_zero, List.set_cons_succ])
    first | (refine Reg.G_step (i := 17) rfl (by kernel_rfl) (by rfl) (fun K hK => ?_); go_big_quiet_op; refine hK _ ?_; clear hK K) | (refine Reg.G_skip (i := 17) rfl (by kernel_rfl) (by rfl) ?_; simp only [Act.put, List.setIfInBounds_toArray, List.set_cons_zero, List.set_cons_succ])
    first | (refine Reg.G_step (i := 18) rfl (by kernel_rfl) (by rfl) (fun K hK => ?_); go_big_quiet_op; refine hK _ ?_; clear hK K) | (refine Reg.G_skip (i := 18) rfl (by kernel_rfl) (by rfl) ?_; simp only [Act.put, List.setIfInBounds_toArray, List.set_cons_zero, List.set_cons_succ])
    first | (refine Reg.G_step (i := 19) rfl (by kernel_rfl) (by rfl) (fun K hK => ?_); go_big_quiet_op; refine hK _ ?_; clear hK K) | (refine Reg.G_skip (i := 19) rfl (by kernel_rfl) (by rfl) ?_; simp only [Act.put, List.setIfInBounds_toArray, List.set_cons_zero, List.set_cons_succ])
    first | (refine Reg.G_step (i := 20) rfl (by kernel_rfl) (by rfl) (fun K hK => ?_); go_big_quiet_op; refine hK _ ?_; clear hK K) | (refine Reg.G_skip (i := 20) rfl (by kernel_rfl) (by rfl) ?_; simp only [Act.put, List.setIfInBounds_toArray, List.set_cons_zero, List.set_cons_succ])
    first | (refine Reg.G_step (i := 21) rfl (by kernel_rfl) (by rfl) (fun K hK => ?_); go_big_quiet_op; refine hK _ ?_; clear hK K) | (refine Reg.G_skip (i := 21) rfl (by kernel_rfl) (by rfl) ?_; simp only [Act.put, List.setIfInBounds_toArray, List.set_cons_zero, List.set_cons_succ])
    first | (refine Reg.G_step (i := 22) rfl (by kernel_rfl) (by rfl) (fun K hK => ?_); go_big_quiet_op; refine hK _ ?_; clear hK K) | (refine Reg.G_skip (i := 22) rfl (by kernel_rfl) (by rfl) ?_; simp only [Act.put, List.setIfInBounds_toArray, List.set_cons_zero, List.set_cons_succ])
    first | (refine Reg.G_step (i := 23) rfl (by kernel_rfl) (by rfl) (fun K hK => ?_); go_big_quiet_op; refine hK _ ?_; clear hK K) | (refine Reg.G_skip (i := 23) rfl (by kernel_rfl) (by rfl) ?_; simp only [Act.put, List.setIfInBounds_toArray, List.set_cons_zero, List.set_cons_succ])
    first | (refine Reg.G_step (i := 24) rfl (by kernel_rfl) (by rfl) (fun K hK => ?_); go_big_quiet_op; refine hK _ ?_; clear hK K) | (refine Reg.G_skip (i := 24) rfl (by kernel_rfl) (by rfl) ?_; simp only [Act.put, List.setIfInBounds_toArray, List.set_cons_zero, List.set_cons_succ])
    first | (refine Reg.G_step (i := 26) rfl (by kernel_rfl) (by rfl) (fun K hK => ?_); go_big_quiet_op; refine hK _ ?_; clear hK K) | (refine Reg.G_skip (i := 26) rfl (by kernel_rfl) (by rfl) ?_; simp only [Act.put, List.setIfInBounds_toArray, List.set_cons_zero, List.set_cons_succ])
    refine Reg.G_event (i := 25) rfl (by kernel_rfl) (by rfl) (fun K hK => ?_)
    go_simp
    refine (HM1.out _ hBW).mono ?_
    rintro e u1 ⟨rfl, hu1⟩
    refine hK _ _ hu1 ?_
    clear hK K x0 x1 x2 hcx hcy
    have hB1 := bt hBW hu1
    obtain ⟨⟨p0, p1, p2⟩, _⟩ := HY13.out.kept (bt hW hu1)
    obtain ⟨⟨q0, q1', q2'⟩, _⟩ := HZ13.out.kept (bt hW hu1)
    have x0 := Reg.later_cell (Below.refl _ u1) p0
    have x1 := Reg.later_cell (Below.refl _ u1) p1
    have x2 := Reg.later_cell (Below.refl _ u1) p2
    have y0 := Reg.later_cell (Below.refl _ u1) q0
    have y1 := Reg.later_cell (Below.refl _ u1) q1'
    have y2 := Reg.later_cell (Below.refl _ u1) q2'
    clear p0 p1 p2 q0 q1' q2'
    first | (refine Reg.G_step (i := 27) rfl (by kernel_rfl) (by rfl) (fun K hK => ?_); go_big_quiet_op; refine hK _ ?_; clear hK K) | (refine Reg.G_skip (i := 27) rfl (by kernel_rfl) (by rfl) ?_; simp only [Act.put, List.setIfInBounds_toArray, List.set_cons_zero, List.set_cons_succ])
    first | (refine Reg.G_step (i := 28) rfl (by kernel_rfl) (by rfl) (fun K hK => ?_); go_big_quiet_op; refine hK _ ?_; clear hK K) | (refine Reg.G_skip (i := 28) rfl (by kernel_rfl) (by rfl) ?_; simp only [Act.put, List.setIfInBounds_toArray, List.set_cons_zero, List.set_cons_succ])
    first | (refine Reg.G_step (i := 29) rfl (by kernel_rfl) (by rfl) (fun K hK => ?_); go_big_quiet_op; refine hK _ ?_; clear hK K) | (refine Reg.G_skip (i := 29) rfl (by kernel_rfl) (by rfl) ?_; simp only [Act.put, List.setIfInBounds_toArray, List.set_cons_zero, List.set_cons_succ])
    first | (refine Reg.G_step (i := 30) rfl (by kernel_rfl) (by rfl) (fun K hK => ?_); go_big_quiet_op; refine hK _ ?_; clear hK K) | (refine Reg.G_skip (i := 30) rfl (by kernel_rfl) (by rfl) ?_; simp only [Act.put, List.setIfInBounds_toArray, List.set_cons_zero, List.set_cons_succ])
    first | (refine Reg.G_step (i := 31) rfl (by kernel_rfl) (by rfl) (fun K hK => ?_); go_big_quiet_op; refine hK _ ?_; clear hK K) | (refine Reg.G_skip (i := 31) rfl (by kernel_rfl) (by rfl) ?_; simp only [Act.put, List.setIfInBounds_toArray, List.set_cons_zero, List.set_cons_succ])
    first | (refine Reg.G_step (i := 33) rfl (by kernel_rfl) (by rfl) (fun K hK => ?_); go_big_quiet_op; refine hK _ ?_; clear hK K) | (refine Reg.G_skip (i := 33) rfl (by kernel_rfl) (by rfl) ?_; simp only [Act.put, List.setIfInBounds_toArray, List.set_cons_zero, List.set_cons_succ])
    refine Reg.G_event (i := 32) rfl (by kernel_rfl) (by rfl) (fun K hK => ?_)
    go_simp
    refine (HS1.out _ hB1).mono ?_
    rintro e u2 ⟨rfl, hu2⟩
    refine hK _ _ hu2 ?_
    clear hK K x0 x1 x2 y0 y1 y2
    have hB2 := bt hB1 hu2
    obtain ⟨⟨p0, p1, p2⟩, _⟩ := HX13.out.kept (bt hW (bt hu1 hu2))
    obtain ⟨⟨q0, q1', q2'⟩, _⟩ := HY13.out.kept (bt hW (bt hu1 hu2))
    have x0 := Reg.later_cell (Below.refl _ u2) p0
    have x1 := Reg.later_cell (Below.refl _ u2) p1
    have x2 := Reg.later_cell (Below.refl _ u2) p2
    have y0 := Reg.later_cell (Below.refl _ u2) q0
    have y1 := Reg.later_cell (Below.refl _ u2) q1'
    have y2 := Reg.later_cell (Below.refl _ u2) q2'
    clear p0 p1 p2 q0 q1' q2'
    first | (refine Reg.G_step (i := 34) rfl (by kernel_rfl) (by rfl) (fun K hK => ?_); go_big_quiet_op; refine hK _ ?_; clear hK K) | (refine Reg.G_skip (i := 34) rfl (by kernel_rfl) (by rfl) ?_; simp only [Act.put, List.setIfInBounds_toArray, List.set_cons_zero, List.set_cons_succ])
    first | (refine Reg.G_step (i := 35) rfl (by kernel_rfl) (by rfl) (fun K hK => ?_); go_big_quiet_op; refine hK _ ?_; clear hK K) | (refine Reg.G_skip (i := 35) rfl (by kernel_rfl) (by rfl) ?_; simp only [Act.put, List.setIfInBounds_toArray, List.set_cons_zero, List.set_cons_succ])
    first | (refine Reg.G_step (i := 36) rfl (by kernel_rfl) (by rfl) (fun K hK => ?_); go_big_quiet_op; refine hK _ ?_; clear hK K) | (refine Reg.G_skip (i := 36) rfl (by kernel_rfl) (by rfl) ?_; simp only [Act.put, List.setIfInBounds_toArray, List.set_cons_zero, List.set_cons_succ])
    first | (refine Reg.G_step (i := 37) rfl (by kernel_rfl) (by rfl) (fun K hK => ?_); go_big_quiet_op; refine hK _ ?_; clear hK K) | (refine Reg.G_skip (i := 37) rfl (by kernel_rfl) (by rfl) ?_; simp only [Act.put, List.setIfInBounds_toArray, List.set_cons_zero, List.set_cons_succ])
    first | (refine Reg.G_step (i := 38) rfl (by kernel_rfl) (by rfl) (fun K hK => ?_); go_big_quiet_op; refine hK _ ?_; clear hK K) | (refine Reg.G_skip (i := 38) rfl (by kernel_rfl) (by rfl) ?_; simp only [Act.put, List.setIfInBounds_toArray, List.set_cons_zero, List.set_cons_succ])
    first | (refine Reg.G_step (i := 40) rfl (by kernel_rfl) (by rfl) (fun K hK => ?_); go_big_quiet_op; refine hK _ ?_; clear hK K) | (refine Reg.G_skip (i := 40) rfl (by kernel_rfl) (by rfl) ?_; simp only [Act.put, List.setIfInBounds_toArray, List.set_cons_zero, List.set_cons_succ])
    first | (refine Reg.G_step (i := 41) rfl (by kernel_rfl) (by rfl) (fun K hK => ?_); go_big_quiet_op; refine hK _ ?_; clear hK K) | (refine Reg.G_skip (i := 41) rfl (by kernel_rfl) (by rfl) ?_; simp only [Act.put, List.setIfInBounds_toArray, List.set_cons_zero, List.set_cons_succ])
    refine Reg.G_event (i := 39) rfl (by kernel_rfl) (by rfl) (fun K hK => ?_)
    go_simp
    refine (HV1.out _ hB2).mono ?_
    rintro e u3 ⟨rfl, hu3⟩
    refine hK _ _ hu3 ?_
    clear hK K x0 x1 x2 y0 y1 y2
    have hB3 := bt hB2 hu3
    refine Reg.G_event (i := 42) rfl (by kernel_rfl) (by rfl) (fun K hK => ?_)
    go_simp
    refine (HV2.out _ hB3).mono ?_
    rintro e u4 ⟨rfl, hu4⟩
    refine hK _ _ hu4 ?_
    clear hK K
    have HB4 := Lib.hid (bt hB3 hu4)
    have hEE : ((Vl : Int) == Vl) = true := by simp
    first | (refine Reg.G_step (i := 43) rfl (by kernel_rfl) (by rfl) (fun K hK => ?_); go_big_quiet_op; refine hK _ ?_; clear hK K) | (refine Reg.G_skip (i := 43) rfl (by kernel_rfl) (by rfl) ?_; simp only [Act.put, List.setIfInBounds_toArray, List.set_cons_zero, List.set_cons_succ])
    first | (refine Reg.G_step (i := 44) rfl (by kernel_rfl) (by rfl) (fun K hK => ?_); go_big_quiet_op; refine hK _ ?_; clear hK K) | (refine Reg.G_skip (i := 44) rfl (by kernel_rfl) (by rfl) ?_; simp only [Act.put, List.setIfInBounds_toArray, List.set_cons_zero, List.set_cons_succ])
    first | (refine Reg.G_step (i := 45) rfl (by kernel_rfl) (by rfl) (fun K hK => ?_); go_big_quiet_op; refine hK _ ?_; clear hK K) | (refine Reg.G_skip (i := 45) rfl (by kernel_rfl) (by rfl) ?_; simp only [Act.put, List.setIfInBounds_toArray, List.set_cons_zero, List.set_cons_succ])
    refine Reg.G_done (by kernel_rfl) ?_
    clear hB3 hu4 hu3 hu2 hu1 hB2 hB1 hBW hW
    go_wp2_with fail
    go_ret
    exact ⟨ret_bool (by first | rfl | simp), HB4.out⟩
  · have hw : P = false ∨ (P = true ∧ Q = false) ∨ (P = true ∧ Q = true ∧ R = false) ∨ (P = true ∧ Q = true ∧ R = true ∧ 400 < len) := by
      cases P
      · exact Or.inl rfl
      · cases Q
        · exact Or.inr (Or.inl ⟨rfl, rfl⟩)
        · cases R
          · exact Or.inr (Or.inr (Or.inl ⟨rfl, rfl, rfl⟩))
          · exact Or.inr (Or.inr (Or.inr ⟨rfl, rfl, rfl, Nat.lt_of_not_le (fun k => hpq ⟨rfl, rfl, rfl, k⟩)⟩))
    clear hpq
    rcases hw with rfl | ⟨rfl, rfl⟩ | ⟨rfl, rfl, rfl⟩ | ⟨rfl, rfl, rfl, q⟩
    · go_wp2_with fail
      go_ret
      exact ⟨ret_bool (by first | rfl | simp), HB4.out⟩
    · go_wp2_with fail
      go_ret
      exact ⟨ret_bool (by first | rfl | simp), HB4.out⟩
    · go_wp2_with fail
      go_ret
      exact ⟨ret_bool (by first | rfl | simp), HB4.out⟩
    · have hd1 : decide ((400 : Int) < (len : Int)) = true := by rw [decide_eq_true_iff]; omega
      go_wp2_with fail
      go_ret
      exact ⟨ret_bool (by first | rfl | simp), HB4.out⟩

theorem tells_walk (s1 : ByteArray) (v1 : Int) (a1 : Option Addr) (n1 c1 : Nat) (s2 : ByteArray) (t2 : Int) (a2 : Option Addr) (n2 c2 : Nat) (s3 : ByteArray) (t3 : Int) (a3 : Option Addr) (n3 c3 : Nat) (x : Option Addr) (len xcap : Nat) (zs : List Int) (w : World)
    (h1 : Op.ArgS w s1 v1 a1 n1 c1) (h2 : Op.ArgE w s2 t2 a2 n2 c2) (h3 : Op.ArgE w s3 t3 a3 n3 c3) (hz : RowU8 w x len xcap zs) :
    Calls Try.prog 3 #[.agg #[.string s1, .int .i64 v1, .slice a1 n1 c1], .agg #[.string s2, .int .i64 t2, .slice a2 n2 c2], .agg #[.string s3, .int .i64 t3, .slice a3 n3 c3], .slice x len xcap] w fun e w' => e = .returned (.bool true) ∧ Below w.heap.size w w' := by
  obtain ⟨l1, e1, g1, f1⟩ := h1
  obtain ⟨m2, e2, g2, f2⟩ := h2
  obtain ⟨m3, e3, g3, f3⟩ := h3
  obtain ⟨xs, hxlen, hxs⟩ := row_slB hz
  exact tells_walk' s1 s2 s3 v1 t2 t3 a1 a2 a3 n1 n2 n3 c1 c2 c3 l1 m2 m3 x len xcap xs w ⟨e1, e2, e3, g1, g2, g3, f1, f2, f3, hxlen, hxs⟩
end Go.Proofs.Ytbakhodijhacoaa.Ev

namespace Go.Proofs.Ytbakhodijhacoaa.Op
open Go.RowKit Go.ChangeShapes Go.WideShapes Go.Proofs.Ytbakhodijhacoaa.BM

theorem open_bytes_cells {H : Type} {enc : TypeId × Value → H} {W : World} {fuel : Nat} {v : Value} {x : DataW H × List MemPlace} (h : DataW.trod enc Try.prog W 0 (fun _ => true) true fuel 28 [v] = some x) :
    ∃ a len cap zs, v = .slice a len cap ∧ RowU8 W a len cap zs := by
  rcases open_ints Try.underlying28 Try.underlying5 (by kernel_rfl) h with ⟨hcs, _⟩ | ⟨x, l, c, zs, hcs, _, hl, hm, hz, _, hcell, hwz⟩
  · exact ⟨none, 0, 0, [], by simpa using hcs, .inl ⟨rfl, rfl, rfl, rfl⟩⟩
  · exact ⟨some x, l, c, zs, by simpa using hcs, .inr ⟨x, rfl, hl, hm, by simpa using hz, hcell, hwz⟩⟩

theorem open_bytes {H : Type} {enc : TypeId × Value → H} {W : World} {r : Reach} {b0 : Nat} {v : Value} {d : DataW H} {p : List MemPlace} (hv : Value.okWide Try.prog W r b0 28 v)
    (h : DataW.Trod enc Try.prog W 0 (fun _ => true) true 28 v d p) : ∃ a len cap zs, v = .slice a len cap ∧ RowU8 W a len cap zs := by
  obtain ⟨a, len, cap, rfl⟩ := okWide_slice Try.underlying28 hv
  obtain ⟨fuel, hf⟩ := h
  simp only [Value.cells] at hf
  exact open_bytes_cells hf
end Go.Proofs.Ytbakhodijhacoaa.Op

namespace Go.Proofs.Ytbakhodijhacoaa.eventTells
open Go.ChangeShapes Go.WideShapes Go.ChangeAt Go.RowKit

theorem own : ownKnob Try.prog.godebug = none := by kernel_rfl
theorem laidOut : laidOutB Try.prog = true := by kernel_rfl

set_option maxRecDepth 100000 in
theorem lifted (os : Os) (started : os.Started) (H : Type) (enc : TypeId × Value → H) :
    ReturnsInHanded {} Try.checked os 3 .any (Rows.eventTellsSpec.pre6 enc Try.prog Try.f3 Rows.eventTellsRow.domain false) (Rows.eventTellsSpec.post enc Try.prog Try.f3 false true false false) := by
  refine returnsInHanded_of_change (C := Try.checked) own started (by kernel_rfl) Try.func3
    (ChangeSpec.witness6 (enc := enc) (C := Try.checked) false ⟨#[], #[.agg #[.string ⟨#[]⟩, .int .i64 0, .slice none 0 0], .agg #[.string ⟨#[]⟩, .int .i64 0, .slice none 0 0], .agg #[.string ⟨#[]⟩, .int .i64 0, .slice none 0 0], .slice none 0 0], []⟩ 8 (by kernel_rfl) (by kernel_rfl) (by kernel_rfl) (by kernel_rfl)) ?_
  intro W base args ds gs before hval0 hW hcnd _
  have hval : ∀ (j : Nat) t v, Try.f3.params[j]? = some t → args[j]? = some v → Value.okWide Try.prog W .any base t v := hval0
  have hW' := hW
  obtain ⟨p, q, hA0, hV, rfl, hfz, hnd⟩ := hW
  have hA : DataW.TrodAll enc Try.prog W 0 (fun _ => true) true Try.f3.params.toList args.toList ds p := hA0
  rw [Try.params3] at hA hval
  obtain ⟨v0, vs0, d0, ds0, p0, q0, hargs, rfl, rfl, h0, r0⟩ := trodAll_cons hA
  obtain ⟨v1, vs1, d1, ds1, p1, q1, rfl, rfl, rfl, h1, r1⟩ := trodAll_cons r0
  obtain ⟨v2, vs2, d2, ds2, p2, q2, rfl, rfl, rfl, h2, r2⟩ := trodAll_cons r1
  obtain ⟨v3, vs3, d3, ds3, p3, q3, rfl, rfl, rfl, h3, r3⟩ := trodAll_cons r2
  obtain ⟨rfl, rfl, rfl⟩ := trodAll_nil r3
  obtain rfl : args = #[v0, v1, v2, v3] := by cases args; simp_all
  obtain ⟨rfl, rfl⟩ := trodVars_none hV
  have k0 := h0
  have lt0 : ∀ x ∈ p0, x.block < W.heap.size := by obtain ⟨m, hm⟩ := k0; exact DataW.trod_lt m _ _ _ hm
  obtain ⟨ss0, nn0, a0, len0, cap0, rfl, w0⟩ := Op.open_schema (hval 0 24 v0 rfl rfl) h0
  have k1 := h1
  have lt1 : ∀ x ∈ p1, x.block < W.heap.size := by obtain ⟨m, hm⟩ := k1; exact DataW.trod_lt m _ _ _ hm
  obtain ⟨ss1, nn1, a1, len1, cap1, rfl, w1⟩ := Op.open_event (hval 1 27 v1 rfl rfl) h1
  have k2 := h2
  have lt2 : ∀ x ∈ p2, x.block < W.heap.size := by obtain ⟨m, hm⟩ := k2; exact DataW.trod_lt m _ _ _ hm
  obtain ⟨ss2, nn2, a2, len2, cap2, rfl, w2⟩ := Op.open_event (hval 2 27 v2 rfl rfl) h2
  have k3 := h3
  have lt3 : ∀ x ∈ p3, x.block < W.heap.size := by obtain ⟨m, hm⟩ := k3; exact DataW.trod_lt m _ _ _ hm
  obtain ⟨a3, len3, cap3, z3, rfl, w3⟩ := Op.open_bytes (hval 3 28 v3 rfl rfl) h3
  clear hA0 hval0
  refine (Go.Proofs.Ytbakhodijhacoaa.Ev.tells_walk ss0 nn0 a0 len0 cap0 ss1 nn1 a1 len1 cap1 ss2 nn2 a2 len2 cap2 a3 len3 cap3 z3 W w0 w1 w2 w3).mono fun e W' ⟨he, bel⟩ => ?_
  subst he
  exact ⟨_, rfl, _, _, _, [], _, [], hW', trodAll_mk1 (shut_bool Try.underlying4 _), (trodAll_cons_mk (Below.trod laidOut (by kernel_rfl) (of_decide_eq_true (by kernel_rfl)) k0 bel lt0) (trodAll_cons_mk (Below.trod laidOut (by kernel_rfl) (of_decide_eq_true (by kernel_rfl)) k1 bel lt1) (trodAll_cons_mk (Below.trod laidOut (by kernel_rfl) (of_decide_eq_true (by kernel_rfl)) k2 bel lt2) (trodAll_cons_mk (Below.trod laidOut (by kernel_rfl) (of_decide_eq_true (by kernel_rfl)) k3 bel lt3) trodAll_mk0)))), rfl, bel.frame _, fun h => by cases h⟩

theorem over : Rows.eventTellsRow.holds Try.pinned (OpenSpec.ofChange Rows.eventTellsSpec) :=
  OpenClaim.holds_of_wide 3 Try.f3 rfl rfl rfl rfl rfl rfl rfl ⟨rfl, rfl, rfl, rfl, rfl⟩ rfl rfl rfl rfl rfl (by kernel_rfl) Try.func3 (by kernel_rfl)
    (of_decide_eq_true (by kernel_rfl)) (by unfold Func.isWrapper; first | (rw [if_pos (by decide +kernel)]; kernel_rfl) | (rw [if_neg (by decide +kernel)]; exact ⟨rfl, rfl⟩))
    (fun os started H enc _ => lifted os started H enc)

theorem proved : Rows.EventTellsSaid := over
#print axioms proved
end Go.Proofs.Ytbakhodijhacoaa.eventTells
