/- The reader's three methods; asked: its two cells are there, and what is left reads as bytes. -/
import Derived.Test.YtbakhodijhacoaaEventRd
import Derived.Test.YtbakhodijhacoaaRdd
import Derived.Test.YtbakhodijhacoaaStrMem
import Derived.Test.YtbakhodijhacoaaLeMem
import Derived.Test.YtbakhodijhacoaaValueGet
namespace Go.Proofs.Ytbakhodijhacoaa.Ev
open Go.RowKit Go.Proofs.Ytbakhodijhacoaa.BM Go.Proofs.Ytbakhodijhacoaa.LM Go.Proofs.Ytbakhodijhacoaa.LeM Go.Proofs.Ytbakhodijhacoaa.EvM
open Go.Proofs.Ytbakhodijhacoaa.VaM (V Rng gotP getP e0)
open Go.Proofs.Ytbakhodijhacoaa.Va (Bx Bx2 bx_new_t bx2_new bx2_set0 bx2_set1 ret_v bx_store)
open Go.Proofs.Ytbakhodijhacoaa.Sc (Rdd grown_set grown_trans)
open Go.Proofs.Ytbakhodijhacoaa.ScM (Rs rNum rName rTake rNum_le)

set_option maxRecDepth 100000 in
theorem number_any (b : Nat) (A : Option Addr) (xs : List Int) (c : Nat) (sh : Bool) (m : Nat) (w : World) (hB : Bx2 w b (.slice A xs.length c) (.bool sh)) (hx : SlB w A xs c) (hm : m ≤ 1125899906842624) :
    Calls Try.prog 30 #[.pointer (some ⟨b, 0, none⟩), .int .u64 (m : Int)] w fun e w' => e = .returned (.int .i64 ((rNum m (xs, sh)).1 : Int)) ∧ Rdd b A c xs w (rNum m (xs, sh)).2 w' := by
  have hxc := hx.2.1
  have hmx := hx.2.2.2
  unfold maxLen at hmx
  have hget := LeG.Get_any A xs c w (by omega) hx.1
  have HX := Lib.hid hB
  cases hg : getS xs with
  | none =>
    have hr : rNum m (xs, sh) = (0, (xs, true)) := by unfold rNum; simp only [hg]
    rw [hr]
    rw [hg] at hget
    obtain ⟨n, hn⟩ : ∃ n, n = xs.length := ⟨_, rfl⟩
    have HP := Lib.hid (bx2_set1 hB (.bool true))
    rw [← hn] at hB hget
    have HG := Lib.hid hget
    obtain ⟨⟨p0, p1⟩, p2, p3⟩ := hB
    clear hr hx hn hg hget
    go_enter Try.func30, Try.ntmps30
    go_wp2_with fail
    refine HG.out.mono ?_
    rintro e w1 ⟨rfl, rfl⟩
    simp only [LeG.gotV]
    go_wp2_with fail
    go_ret
    exact ⟨rfl, grown_set _ _ _ _, A, c, HP.out, fun W h => h⟩
  | some p =>
    obtain ⟨v, u⟩ := p
    obtain ⟨h1, h2, h3⟩ := (getS_iff xs hx.1.1 v u).1 hg
    rw [hg] at hget
    by_cases hv : v ≤ m
    · have hr : rNum m (xs, sh) = (v, (xs.drop u, sh)) := by unfold rNum; simp only [hg, if_pos hv]
      rw [hr]
      have hlt2 : (xs.drop u).length = xs.length - u := List.length_drop
      have HP := Lib.hid (bx2_set0 hB (.slice (dropA A u c) (xs.drop u).length (c - u)))
      have HE := Lib.hid hlt2
      have hD := fun W (h : SlB W A xs c) => Cut.slB_drop h u h2
      have hsl2 := fun W => slice_lo W A xs.length c u h2
      obtain ⟨D, hDe⟩ : ∃ D, D = dropA A u c := ⟨_, rfl⟩
      rw [← hDe] at HP hsl2
      simp only [← hDe] at hD
      obtain ⟨n, hn⟩ : ∃ n, n = xs.length := ⟨_, rfl⟩
      rw [← hn] at hB hget hsl2 HE h2
      have HG := Lib.hid hget
      have HD := Lib.hid hD
      obtain ⟨⟨p0, p1⟩, p2, p3⟩ := hB
      clear hr hx hn hg hget hD hDe hlt2 h3 h1
      go_enter Try.func30, Try.ntmps30
      go_wp2_with fail
      refine HG.out.mono ?_
      rintro e w1 ⟨rfl, rfl⟩
      simp only [LeG.gotV]
      go_wp2_with fail
      go_ret
      refine ⟨rfl, grown_set _ _ _ _, D, c - u, ?_, HD.out⟩
      have h := HP.out
      rw [HE.out] at h
      simp only [HE.out]
      exact h
    · have hr : rNum m (xs, sh) = (0, (xs, true)) := by unfold rNum; simp only [hg, if_neg hv]
      rw [hr]
      obtain ⟨n, hn⟩ : ∃ n, n = xs.length := ⟨_, rfl⟩
      have HP := Lib.hid (bx2_set1 hB (.bool true))
      rw [← hn] at hB hget
      have HG := Lib.hid hget
      obtain ⟨⟨p0, p1⟩, p2, p3⟩ := hB
      clear hr hx hn hg hget h3 h2
      go_enter Try.func30, Try.ntmps30
      go_wp2_with fail
      refine HG.out.mono ?_
      rintro e w1 ⟨rfl, rfl⟩
      simp only [LeG.gotV]
      go_wp2_with fail
      go_ret
      exact ⟨rfl, grown_set _ _ _ _, A, c, HP.out, fun W h => h⟩

set_option maxRecDepth 100000 in
set_option maxHeartbeats 1000000 in
theorem name_any (b : Nat) (A : Option Addr) (xs : List Int) (c : Nat) (sh : Bool) (w : World) (hB : Bx2 w b (.slice A xs.length c) (.bool sh)) (hx : ∀ W, w.grownBy W (some b) → SlB W A xs c) :
    Calls Try.prog 29 #[.pointer (some ⟨b, 0, none⟩)] w fun e w' => e = .returned (.string (rName (xs, sh)).1) ∧ Rdd b A c xs w (rName (xs, sh)).2 w' := by
  have hnum := number_any b A xs c sh 12 w hB (hx w (World.grownBy.refl _ _)) (by omega)
  have hle := rNum_le 12 (xs, sh)
  have hrn : rName (xs, sh) = (strOfNums (rTake (rNum 12 (xs, sh)).1 (rNum 12 (xs, sh)).2).1, (rTake (rNum 12 (xs, sh)).1 (rNum 12 (xs, sh)).2).2) := rfl
  obtain ⟨⟨n, ys, s1⟩, hr⟩ : ∃ r, r = rNum 12 (xs, sh) := ⟨_, rfl⟩
  rw [← hr] at hnum hle hrn
  simp only at hnum hle hrn
  have HNum := Lib.hid hnum
  have HX := Lib.hid hx
  rw [hrn]
  clear hB hx hnum hr hrn
  by_cases hlt : ys.length < n
  · have hrt : rTake n (ys, s1) = ([], (ys, true)) := by unfold rTake; rw [if_pos hlt]
    rw [hrt]
    go_enter Try.func29, Try.ntmps29
    go_wp2_with fail
    refine HNum.out.mono ?_
    rintro e w1 ⟨rfl, hg1, A1, c1, hb1, hs1⟩
    have hsl := hs1 w1 (HX.out w1 hg1)
    simp only at hb1 hsl
    have hyc := hsl.2.1
    have hym := hsl.2.2.2
    unfold maxLen at hym
    have HG1 := Lib.hid hg1
    have HS1 := Lib.hid hs1
    clear hg1 hs1 HNum
    have HP := Lib.hid (show Rdd b A c xs w (ys, true) (w1.setCell ⟨b, 1, none⟩ (.bool true)) from ⟨grown_trans HG1.out (grown_set _ _ _ _), A1, c1, bx2_set1 hb1 (.bool true), HS1.out⟩)
    obtain ⟨r, hr⟩ : ∃ r, r = ys.length := ⟨_, rfl⟩
    rw [← hr] at hb1 hlt hyc
    have HR := Lib.hid hr
    obtain ⟨⟨p0, p1⟩, p2, p3⟩ := hb1
    clear hrt hr hsl
    go_wp2_with fail
    go_ret
    exact ⟨ret_v (x := .string ⟨#[]⟩) rfl, HP.out⟩
  · have hrt : rTake n (ys, s1) = (ys.take n, (ys.drop n, s1)) := by unfold rTake; rw [if_neg hlt]
    rw [hrt]
    go_enter Try.func29, Try.ntmps29
    go_wp2_with fail
    refine HNum.out.mono ?_
    rintro e w1 ⟨rfl, hg1, A1, c1, hb1, hs1⟩
    have hsl := hs1 w1 (HX.out w1 hg1)
    simp only at hb1 hsl
    have hyc := hsl.2.1
    have hym := hsl.2.2.2
    unfold maxLen at hym
    have HG1 := Lib.hid hg1
    have HS1 := Lib.hid hs1
    clear hg1 hs1 HNum
    have hdl : (ys.drop n).length = ys.length - n := List.length_drop
    have hcv := conv_any (Cut.slB_head hsl n c1 (by omega) (Nat.le_refl _) (by omega)).1 c1 9 Try.underlying9
    have htl : (ys.take n).length = n := by rw [List.length_take]; omega
    rw [htl] at hcv
    have hD := fun W (h : SlB W A1 ys c1) => Cut.slB_drop h n (by omega)
    have hsl1 := fun W => slice_hi W A1 ys.length c1 n (by omega)
    have hsl2 := fun W => slice_lo W A1 ys.length c1 n (by omega)
    obtain ⟨D, hDe⟩ : ∃ D, D = dropA A1 n c1 := ⟨_, rfl⟩
    rw [← hDe] at hsl2
    simp only [← hDe] at hD
    have HP := Lib.hid (show Rdd b A c xs w (ys.drop n, s1) (w1.setCell ⟨b, 0, none⟩ (.slice D (ys.drop n).length (c1 - n))) from ⟨grown_trans HG1.out (grown_set _ _ _ _), D, c1 - n, bx2_set0 hb1 _, fun W h => hD W (HS1.out W h)⟩)
    rw [hdl] at HP
    obtain ⟨S, hS⟩ : ∃ S, S = strOfNums (ys.take n) := ⟨_, rfl⟩
    rw [← hS] at hcv
    have HSs := Lib.hid hS
    obtain ⟨r, hr⟩ : ∃ r, r = ys.length := ⟨_, rfl⟩
    rw [← hr] at hb1 hlt hyc hsl1 hsl2 HP
    have HR := Lib.hid hr
    obtain ⟨⟨p0, p1⟩, p2, p3⟩ := hb1
    clear hrt hr hsl hdl htl hD hDe hS
    go_wp2_with fail
    go_ret
    exact ⟨ret_v (x := .string S) (by rw [HSs.out]), HP.out⟩

theorem grown_below {w w' : World} {r : Option Nat} (h : Below w.heap.size w w') : w.grownBy w' r := ⟨h.os, h.tape, h.output, h.size, fun k hk _ => h.block k hk⟩
theorem grown_far {w W : World} {r : Option Nat} {k : Nat} (h : w.grownBy W r) (hk : w.heap.size ≤ k) (i : Nat) (u : Value) : w.grownBy (W.setCell ⟨k, i, none⟩ u) r := by
  have g := grown_set W k i u
  exact ⟨g.os.trans h.os, g.tape.trans h.tape, g.output.trans h.output, Nat.le_trans h.size g.size, fun j hj hne => (g.block j (Nat.lt_of_lt_of_le hj h.size) (fun e => by injection e with e; omega)).trans (h.block j hj hne)⟩

set_option maxRecDepth 100000 in
set_option maxHeartbeats 1000000 in
theorem value_any (b : Nat) (A : Option Addr) (xs : List Int) (c : Nat) (sh : Bool) (w : World) (hB : Bx2 w b (.slice A xs.length c) (.bool sh)) (hx : ∀ W, w.grownBy W (some b) → SlB W A xs c) :
    Calls Try.prog 31 #[.pointer (some ⟨b, 0, none⟩)] w fun e w' => e = .returned (.agg #[.int .i64 (rVal (xs, sh)).1.k, .int .i64 (rVal (xs, sh)).1.n, .string (rVal (xs, sh)).1.s]) ∧ Rdd b A c xs w (rVal (xs, sh)).2 w' := by
  have hx0 := hx w (World.grownBy.refl _ _)
  have hxc := hx0.2.1
  have hxm := hx0.2.2.2
  unfold maxLen at hxm
  have hblt := hB.lt
  have hget := fun W (hW : Below w.heap.size w W) => Va.Get_any A xs c W (hx0.kept hW)
  have hle := (gotP_sm hx0.1.1).2
  have hrv : rVal (xs, sh) = ((gotP (getP xs)).1, (xs.drop (gotP (getP xs)).2.1, sh || !(gotP (getP xs)).2.2)) := rfl
  unfold Va.Gots at hget
  obtain ⟨⟨⟨vk, vn, vs⟩, m, is⟩, hr⟩ : ∃ r, r = gotP (getP xs) := ⟨_, rfl⟩
  rw [← hr] at hle hrv
  simp only [← hr, Va.got3] at hget
  simp only at hle hrv
  rw [hrv]
  simp only
  have hdl : (xs.drop m).length = xs.length - m := List.length_drop
  have hD := fun W (h : SlB W A xs c) => Cut.slB_drop h m hle
  have hsl2 := fun W => slice_lo W A xs.length c m hle
  obtain ⟨D, hDe⟩ : ∃ D, D = dropA A m c := ⟨_, rfl⟩
  rw [← hDe] at hsl2
  simp only [← hDe] at hD
  have HDl := Lib.hid hdl
  obtain ⟨r, hrl⟩ : ∃ r, r = xs.length := ⟨_, rfl⟩
  rw [← hrl] at hB hle hxc hsl2 HDl
  simp only [← hrl] at hget
  have HGet := Lib.hid hget
  have HD := Lib.hid hD
  have ha0 := (Below.refl w.heap.size w).alloc (Nat.le_refl _) (.cells #[.int .i64 0, .int .i64 0, .string ⟨#[]⟩] 44)
  have HA0 := Lib.hid ha0
  have HR0 := Lib.hid (bx_new_t w 44 (.int .i64 0) (.int .i64 0) (.string ⟨#[]⟩))
  have HB0 := Lib.hid (hB.kept ha0)
  clear hr hrv hget hD hDe hrl hdl ha0 hx hx0 hB
  obtain ⟨⟨p0, p1⟩, p2, p3⟩ := HB0.out
  go_enter Try.func31, Try.ntmps31
  go_wp2_with fail
  refine (HGet.out _ HA0.out).mono ?_
  rintro e w1 ⟨rfl, hb1⟩
  have ha1 := (Below.refl w1.heap.size w1).alloc (Nat.le_refl _) (.cells #[.int .i64 vk, .int .i64 vn, .string vs] 44)
  have HB1 := Lib.hid ((HB0.out.kept hb1).kept ha1)
  have HR1 := Lib.hid ((HR0.out.kept hb1).kept ha1)
  have HV1 := Lib.hid (bx_new_t w1 44 (.int .i64 vk) (.int .i64 vn) (.string vs))
  have HG1 := Lib.hid (bt HA0.out (bt hb1 ha1))
  have hwl := Nat.lt_of_lt_of_le HR0.out.lt hb1.size
  clear hb1 ha1 HGet HA0 HR0 HB0 p0 p1 p2 p3
  have hne1 : ¬ b = w1.heap.size := by omega
  have hne2 : ¬ b = w.heap.size := by omega
  have hne3 : ¬ w1.heap.size = w.heap.size := by omega
  obtain ⟨⟨p0, p1⟩, p2, p3⟩ := HB1.out
  obtain ⟨⟨z0, z1, z2⟩, _⟩ := HV1.out
  obtain ⟨⟨y0, y1, y2⟩, y3, y4, y5⟩ := HR1.out
  have hfin : ∀ T : Bool, ∃ W2, W2 = (((((w1.alloc (.cells #[.int .i64 vk, .int .i64 vn, .string vs] 44)).setCell ⟨b, 0, none⟩ (.slice D (r - m) (c - m))).setCell ⟨b, 1, none⟩ (.bool T)).setCell ⟨w.heap.size, 0, none⟩ (.int .i64 vk)).setCell ⟨w.heap.size, 1, none⟩ (.int .i64 vn)).setCell ⟨w.heap.size, 2, none⟩ (.string vs) ∧
      Bx W2 w.heap.size (.int .i64 vk) (.int .i64 vn) (.string vs) ∧ Rdd b A c xs w (xs.drop m, T) W2 := fun T => by
    refine ⟨_, rfl, bx_store ((HR1.out.off (p := ⟨b, 0, none⟩) hne2 _).off (p := ⟨b, 1, none⟩) hne2 _) _ _ _, ?_, D, c - m, ?_, HD.out⟩
    · exact grown_far (grown_far (grown_far (grown_trans (grown_trans (grown_below HG1.out) (grown_set _ _ _ _)) (grown_set _ _ _ _)) (Nat.le_refl _) _ _) (Nat.le_refl _) _ _) (Nat.le_refl _) _ _
    · simp only [HDl.out]
      have hn2 : w.heap.size ≠ b := fun e => hne2 e.symm
      exact (((bx2_set1 (bx2_set0 HB1.out (.slice D (r - m) (c - m))) (.bool T)).off (p := ⟨w.heap.size, 0, none⟩) hn2 _).off (p := ⟨w.heap.size, 1, none⟩) hn2 _).off (p := ⟨w.heap.size, 2, none⟩) hn2 _
  have HFin := Lib.hid hfin
  clear hfin
  cases sh
  · obtain ⟨W2, hW2, hb2, hr2⟩ := HFin.out (!is)
    obtain ⟨⟨g0, g1, g2⟩, _⟩ := hb2
    have G0 := Lib.hid g0
    have G1 := Lib.hid g1
    have G2 := Lib.hid g2
    have HRd := Lib.hid hr2
    have HW2 := Lib.hid hW2
    clear hW2 g0 g1 g2 hr2
    go_wp2_with fail
    rw [← HW2.out]
    have g0 := G0.out
    have g1 := G1.out
    have g2 := G2.out
    exact bodyPost_ret (v := .agg #[.int .i64 vk, .int .i64 vn, .string vs]) (by simp [results, Try.results31, go_sem, g0, g1, g2]) rfl ⟨rfl, HRd.out⟩
  · obtain ⟨W2, hW2, hb2, hr2⟩ := HFin.out true
    obtain ⟨⟨g0, g1, g2⟩, _⟩ := hb2
    have G0 := Lib.hid g0
    have G1 := Lib.hid g1
    have G2 := Lib.hid g2
    have HRd := Lib.hid hr2
    have HW2 := Lib.hid hW2
    clear hW2 g0 g1 g2 hr2
    go_wp2_with fail
    rw [← HW2.out]
    have g0 := G0.out
    have g1 := G1.out
    have g2 := G2.out
    exact bodyPost_ret (v := .agg #[.int .i64 vk, .int .i64 vn, .string vs]) (by simp [results, Try.results31, go_sem, g0, g1, g2]) rfl ⟨rfl, HRd.out⟩
end Go.Proofs.Ytbakhodijhacoaa.Ev
