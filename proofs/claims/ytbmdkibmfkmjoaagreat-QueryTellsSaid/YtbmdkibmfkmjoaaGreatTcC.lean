/- Several texts in one: what this layer has; what each asks is said at each theorem. -/
import Derived.Test.YtbmdkibmfkmjoaaGreatTcB
import Derived.Test.YtbmdkibmfkmjoaaGreatTcA
import Derived.Test.YtbmdkibmfkmjoaaGreatLeGet
import Derived.Test.YtbmdkibmfkmjoaaGreatSlB
import Derived.Test.YtbmdkibmfkmjoaaGreatSchemaMath
import Derived.Test.YtbmdkibmfkmjoaaGreatStrCore
import Derived.Laws.RangeAny
import Derived.Test.YtbmdkibmfkmjoaaGreatOpRow
import Derived.Test.YtbmdkibmfkmjoaaGreatValueTail
import Derived.Test.YtbmdkibmfkmjoaaGreatPutSl
import Derived.Test.YtbmdkibmfkmjoaaGreatRegionB
import Derived.Test.YtbmdkibmfkmjoaaGreatRowG
import Derived.Test.YtbmdkibmfkmjoaaGreatBMem
import Derived.Test.YtbmdkibmfkmjoaaGreatStr
import Derived.Laws.IdiomStrings
import Derived.Test.YtbmdkibmfkmjoaaGreatIsRow
import Derived.Maps.AppendAt
import Derived.WalkSmall
import Derived.Lib.AppendZerosOnto
import Derived.Lib.Walk
import Derived.Lib.SliceRun
import Derived.Test.YtbmdkibmfkmjoaaGreatValueEq
import Derived.BigQuiet
import Derived.Deep.QuietTactic
import Derived.Test.YtbmdkibmfkmjoaaGreatRegion
import Derived.Laws.AppendOwnNone

namespace Go.Proofs.YtbmdkibmfkmjoaaGreat.Qy
open Go.RowKit Go.Proofs.YtbmdkibmfkmjoaaGreat.BM Go.Proofs.YtbmdkibmfkmjoaaGreat.LM Go.Proofs.YtbmdkibmfkmjoaaGreat.LeM Go.Proofs.YtbmdkibmfkmjoaaGreat.VaM Go.Proofs.YtbmdkibmfkmjoaaGreat.ExM Go.Proofs.YtbmdkibmfkmjoaaGreat.QyM
open Go.Proofs.YtbmdkibmfkmjoaaGreat.Ex (SlO slO_none)
open Go.Proofs.YtbmdkibmfkmjoaaGreat.Va (Bx2 bx2_new bx2_set0 bx2_set1 ret_v)
open Go.Proofs.YtbmdkibmfkmjoaaGreat.Sc (Rdd grown_set grown_trans)

/-- What is told of a part. -/
def gt {α : Type} (d : α) : Option (α × Nat) → α × Nat × Bool
  | some (a, m) => (a, m, true)
  | none => (d, 0, false)
theorem tk_gt {α : Type} (g : List Int → Option (α × Nat)) (d : α) (xs : List Int) (sh : Bool) : tk g d (xs, sh) = ((gt d (g xs)).1, (xs.drop (gt d (g xs)).2.1, sh || !(gt d (g xs)).2.2)) := by
  cases h : g xs with
  | none => rw [tk_none h]; simp [gt]
  | some y =>
    obtain ⟨a, m⟩ := y
    rw [tk_some h]
    simp [gt]
theorem gotL_gt (o : Option (List O × Nat)) : gotL o = gt [] o := by cases o <;> rfl
theorem gotV_gt (o : Option (Nat × Nat)) : LeG.gotV o = .tuple #[.int .u64 ((gt 0 o).1 : Nat), .int .i64 ((gt 0 o).2.1 : Nat), .bool (gt 0 o).2.2] := by
  cases o with
  | none => rfl
  | some y => rfl
theorem gt_le {α : Type} {d : α} {o : Option (α × Nat)} {n : Nat} (h : ∀ a m, o = some (a, m) → m ≤ n) : (gt d o).2.1 ≤ n := by
  cases o with
  | none => exact Nat.zero_le _
  | some y => exact h _ _ rfl

theorem below_grown {w w' : World} {r : Option Nat} (h : Below w.heap.size w w') : w.grownBy w' r := ⟨h.os, h.tape, h.output, h.size, fun k hk _ => h.block k hk⟩

set_option maxRecDepth 100000 in
theorem getByte_any (A : Option Addr) (xs : List Int) (c : Nat) (w : World) (hx : SlB w A xs c) :
    Calls Tryz.prog 112 #[.slice A xs.length c] w fun e w' => e = .returned (.tuple #[.int .u8 (gt 0 (gB xs)).1, .int .i64 ((gt 0 (gB xs)).2.1 : Nat), .bool (gt 0 (gB xs)).2.2]) ∧ w = w' := by
  cases xs with
  | nil =>
    simp only [gB, gt, List.length_nil]
    clear hx
    go_enter Tryz.func112, Tryz.ntmps112
    go_wp2_with fail
    go_ret3
    exact ⟨rfl, rfl⟩
  | cons x t =>
    simp only [gB, gt]
    have hl : (x :: t).length ≤ 9223372036854775807 := by have h1 := hx.2.1; have h2 := hx.2.2.2; unfold maxLen at h2; omega
    obtain ⟨b1, q1, hix, hc, hx0, hx1⟩ := Ex.byte_at hx 0 (by simp)
    have hc0 := hc w (Below.refl _ _)
    rw [List.getD_cons_zero] at hc0
    rw [List.length_cons] at hl ⊢
    have hi : ∀ W, (Instr.indexAt 26 (.slice A (t.length + 1) c) (.int .i64 0)).run Tryz.prog W = .ok (.pointer (some ⟨b1, q1, none⟩)) W := hix
    obtain ⟨n, hn⟩ : ∃ n, n = t.length + 1 := ⟨_, rfl⟩
    rw [← hn] at hl ⊢
    simp only [← hn] at hi
    have hn0 : n ≠ 0 := by omega
    have g0 : ((n : Int) == 0) = false := by simpa using (show (n : Int) ≠ 0 by omega)
    have g0' : (n == 0) = false := by simpa using hn0
    clear hx hix hc hn hn0 hx0 hx1
    go_enter Tryz.func112, Tryz.ntmps112
    go_wp2_with fail
    go_ret3
    exact ⟨rfl, rfl⟩

/-- What is stored into the reader. -/
theorem rdd_put {b : Nat} {A : Option Addr} {xs : List Int} {c u : Nat} {sh T : Bool} {w w1 : World} {D : Option Addr} {n : Nat} (h : Below w.heap.size w w1) (hB : Bx2 w b (.slice A n c) (.bool sh)) (hn : n - u = (xs.drop u).length)
    (hD : ∀ W, SlB W A xs c → SlB W D (xs.drop u) (c - u)) : Rdd b A c xs w (xs.drop u, T) ((w1.setCell ⟨b, 0, none⟩ (.slice D (n - u) (c - u))).setCell ⟨b, 1, none⟩ (.bool T)) :=
  ⟨grown_trans (grown_trans (below_grown h) (grown_set _ _ _ _)) (grown_set _ _ _ _), D, c - u, by rw [← hn]; exact bx2_set1 (bx2_set0 (hB.kept h) _) _, hD⟩

set_option maxRecDepth 100000 in
set_option maxHeartbeats 2000000 in
theorem takeNum_any (b : Nat) (A : Option Addr) (xs : List Int) (c : Nat) (sh : Bool) (w : World) (hB : Bx2 w b (.slice A xs.length c) (.bool sh)) (hx : SlB w A xs c) :
    Calls Tryz.prog 84 #[.pointer (some ⟨b, 0, none⟩), .func (.func 85) #[] #[]] w fun e w' => e = .returned (.int .u64 ((oNum (xs, sh)).1 : Nat)) ∧ Rdd b A c xs w (oNum (xs, sh)).2 w' := by
  have hxc := hx.2.1
  have hmx := hx.2.2.2
  unfold maxLen at hmx
  have hget := LeG.Get_any A xs c w (by omega) hx.1
  rw [gotV_gt] at hget
  have hle : (gt 0 (getS xs)).2.1 ≤ xs.length := gt_le fun v u h => ((getS_iff xs hx.1.1 v u).1 h).2.1
  have hdl : (xs.drop (gt 0 (getS xs)).2.1).length = xs.length - (gt 0 (getS xs)).2.1 := List.length_drop
  unfold oNum
  rw [tk_gt]
  obtain ⟨⟨v, u, is⟩, hr⟩ : ∃ r, r = gt 0 (getS xs) := ⟨_, rfl⟩
  rw [← hr] at hle hdl ⊢
  simp only [← hr] at hget
  simp only at hle hdl hget ⊢
  have hD := fun W (h : SlB W A xs c) => Cut.slB_drop h u hle
  have hsl := fun W => slice_lo W A xs.length c u hle
  obtain ⟨D, hDe⟩ : ∃ D, D = dropA A u c := ⟨_, rfl⟩
  rw [← hDe] at hsl
  simp only [← hDe] at hD
  obtain ⟨n, hn⟩ : ∃ n, n = xs.length := ⟨_, rfl⟩
  rw [← hn] at hB hle hdl hxc hsl hget
  have HG := Lib.hid hget
  have HD := Lib.hid hD
  have HDl := Lib.hid hdl
  have HX := Lib.hid hB
  clear hr hx hget hD hDe hdl hn hB
  cases sh
  all_goals
    obtain ⟨⟨p0, p1⟩, p2, p3⟩ := HX.out
    go_enter Tryz.func84, Tryz.ntmps84
    go_wp2_with fail
    refine HG.out.mono ?_
    rintro e w1 ⟨rfl, rfl⟩
    skip
    go_wp2_with fail
    go_ret
    exact ⟨rfl, rdd_put (Below.refl _ _) HX.out HDl.out.symm HD.out⟩

set_option maxRecDepth 100000 in
set_option maxHeartbeats 2000000 in
theorem takeByte_any (b : Nat) (A : Option Addr) (xs : List Int) (c : Nat) (sh : Bool) (w : World) (hB : Bx2 w b (.slice A xs.length c) (.bool sh)) (hx : SlB w A xs c) :
    Calls Tryz.prog 111 #[.pointer (some ⟨b, 0, none⟩), .func (.func 112) #[] #[]] w fun e w' => e = .returned (.int .u8 (oByte (xs, sh)).1) ∧ Rdd b A c xs w (oByte (xs, sh)).2 w' := by
  have hxc := hx.2.1
  have hmx := hx.2.2.2
  unfold maxLen at hmx
  have hget := getByte_any A xs c w hx
  have hle : (gt 0 (gB xs)).2.1 ≤ xs.length := gt_le fun v u h => by
    cases xs with
    | nil => cases h
    | cons x t =>
      simp only [gB, Option.some.injEq, Prod.mk.injEq] at h
      rw [List.length_cons]
      omega
  have hdl : (xs.drop (gt 0 (gB xs)).2.1).length = xs.length - (gt 0 (gB xs)).2.1 := List.length_drop
  unfold oByte
  rw [tk_gt]
  obtain ⟨⟨v, u, is⟩, hr⟩ : ∃ r, r = gt 0 (gB xs) := ⟨_, rfl⟩
  rw [← hr] at hle hdl ⊢
  simp only [← hr] at hget
  simp only at hle hdl hget ⊢
  have hD := fun W (h : SlB W A xs c) => Cut.slB_drop h u hle
  have hsl := fun W => slice_lo W A xs.length c u hle
  obtain ⟨D, hDe⟩ : ∃ D, D = dropA A u c := ⟨_, rfl⟩
  rw [← hDe] at hsl
  simp only [← hDe] at hD
  obtain ⟨n, hn⟩ : ∃ n, n = xs.length := ⟨_, rfl⟩
  rw [← hn] at hB hle hdl hxc hsl hget
  have HG := Lib.hid hget
  have HD := Lib.hid hD
  have HDl := Lib.hid hdl
  have HX := Lib.hid hB
  clear hr hx hget hD hDe hdl hn hB
  cases sh
  all_goals
    obtain ⟨⟨p0, p1⟩, p2, p3⟩ := HX.out
    go_enter Tryz.func111, Tryz.ntmps111
    go_wp2_with fail
    refine HG.out.mono ?_
    rintro e w1 ⟨rfl, rfl⟩
    skip
    go_wp2_with fail
    go_ret
    exact ⟨rfl, rdd_put (Below.refl _ _) HX.out HDl.out.symm HD.out⟩

set_option maxRecDepth 100000 in
set_option maxHeartbeats 2000000 in
theorem takeOps_any (b : Nat) (A : Option Addr) (xs : List Int) (c : Nat) (sh : Bool) (w : World) (hB : Bx2 w b (.slice A xs.length c) (.bool sh)) (hx : SlB w A xs c) :
    Calls Tryz.prog 102 #[.pointer (some ⟨b, 0, none⟩), .func (.func 103) #[] #[]] w fun e w' => ∃ A1 c1, e = .returned (.slice A1 (oExpr (xs, sh)).1.length c1) ∧ SlO w' A1 (oExpr (xs, sh)).1 c1 ∧ (∀ a, A1 = some a → w.heap.size ≤ a.block) ∧ Rdd b A c xs w (oExpr (xs, sh)).2 w' := by
  have hxc := hx.2.1
  have hmx := hx.2.2.2
  unfold maxLen at hmx
  have hget := Ex.GetF_any A xs c w hx
  unfold Ex.GotsF at hget
  simp only [gotL_gt] at hget
  have hblt := hB.lt
  have hle : (gt [] (gL xs)).2.1 ≤ xs.length := gt_le fun v u h => (gL_some hx.1.1 h).2.2.1
  have hdl : (xs.drop (gt [] (gL xs)).2.1).length = xs.length - (gt [] (gL xs)).2.1 := List.length_drop
  unfold oExpr
  rw [tk_gt]
  obtain ⟨⟨v, u, is⟩, hr⟩ : ∃ r, r = gt [] (gL xs) := ⟨_, rfl⟩
  rw [← hr] at hle hdl ⊢
  simp only [← hr] at hget
  simp only at hle hdl hget ⊢
  have hD := fun W (h : SlB W A xs c) => Cut.slB_drop h u hle
  have hsl := fun W => slice_lo W A xs.length c u hle
  obtain ⟨D, hDe⟩ : ∃ D, D = dropA A u c := ⟨_, rfl⟩
  rw [← hDe] at hsl
  simp only [← hDe] at hD
  obtain ⟨n, hn⟩ : ∃ n, n = xs.length := ⟨_, rfl⟩
  rw [← hn] at hB hle hdl hxc hsl hget
  obtain ⟨m, hm⟩ : ∃ m, m = v.length := ⟨_, rfl⟩
  rw [← hm] at hget ⊢
  clear hm
  have HG := Lib.hid hget
  have HD := Lib.hid hD
  have HDl := Lib.hid hdl
  have HX := Lib.hid hB
  clear hr hx hget hD hDe hdl hn hB
  cases sh
  all_goals
    obtain ⟨⟨p0, p1⟩, p2, p3⟩ := HX.out
    go_enter Tryz.func102, Tryz.ntmps102
    go_wp2_with fail
    refine HG.out.mono ?_
    rintro e w1 ⟨A1, c1, rfl, hs1, hb1, hf1⟩
    have HB1 := Lib.hid hb1
    have HS1 := Lib.hid hs1
    have HF1 := Lib.hid hf1
    clear p0 p1 p2 p3
    obtain ⟨⟨p0, p1⟩, p2, p3⟩ := HX.out.kept hb1
    clear hb1 hs1 hf1
    go_wp2_with fail
    go_ret
    exact ⟨A1, c1, rfl, slO_grown' HS1.out (grown_trans (grown_set _ b 0 _) (grown_set _ b 1 _)) (fun _ a h e => by injection e with e; exact Nat.ne_of_gt (Nat.lt_of_lt_of_le hblt (HF1.out a h)) e), HF1.out, rdd_put HB1.out HX.out HDl.out.symm HD.out⟩
end Go.Proofs.YtbmdkibmfkmjoaaGreat.Qy

namespace Go.Proofs.YtbmdkibmfkmjoaaGreat.Qy
open Go.RowKit Go.Proofs.YtbmdkibmfkmjoaaGreat.BM Go.Proofs.YtbmdkibmfkmjoaaGreat.LM Go.Proofs.YtbmdkibmfkmjoaaGreat.LeM Go.Proofs.YtbmdkibmfkmjoaaGreat.VaM Go.Proofs.YtbmdkibmfkmjoaaGreat.ExM Go.Proofs.YtbmdkibmfkmjoaaGreat.QyM
open Go.Proofs.YtbmdkibmfkmjoaaGreat.Ex (SlO slO_none)
open Go.Proofs.YtbmdkibmfkmjoaaGreat.Va (Bx2 bx2_new bx2_set0 bx2_set1 ret_v)
open Go.Proofs.YtbmdkibmfkmjoaaGreat.Sc (Rdd grown_set grown_trans)

theorem wrp_64 {v : Nat} (h : v ≤ 18446744073709551615) : wrp v = wrap64 (v : Int) := by
  unfold wrp wrap64
  split <;> omega

set_option maxRecDepth 100000 in
theorem number_any (b : Nat) (A : Option Addr) (xs : List Int) (c : Nat) (sh : Bool) (w : World) (hB : Bx2 w b (.slice A xs.length c) (.bool sh)) (hx : SlB w A xs c) :
    Calls Tryz.prog 56 #[.pointer (some ⟨b, 0, none⟩)] w fun e w' => e = .returned (.int .i64 (wrp (oNum (xs, sh)).1)) ∧ Rdd b A c xs w (oNum (xs, sh)).2 w' := by
  have ht := takeNum_any b A xs c sh w hB hx
  have hle := oNum_le (s := (xs, sh)) hx.1.1
  obtain ⟨⟨v, s⟩, hr⟩ : ∃ r, r = oNum (xs, sh) := ⟨_, rfl⟩
  rw [← hr] at ht hle ⊢
  simp only at ht hle ⊢
  have HT := Lib.hid ht
  clear ht hr hB hx
  go_enter Tryz.func56, Tryz.ntmps56
  go_wp2_with fail
  refine HT.out.mono ?_
  rintro e w1 ⟨rfl, hrd⟩
  have HRd := Lib.hid hrd
  clear hrd
  go_wp2_with fail
  go_ret
  exact ⟨ret_v (x := .int .i64 (wrap64 (v : Int))) (by rw [wrp_64 hle]), HRd.out⟩

set_option maxRecDepth 100000 in
theorem one_any (b : Nat) (A : Option Addr) (xs : List Int) (c : Nat) (sh : Bool) (w : World) (hB : Bx2 w b (.slice A xs.length c) (.bool sh)) (hx : SlB w A xs c) :
    Calls Tryz.prog 101 #[.pointer (some ⟨b, 0, none⟩)] w fun e w' => e = .returned (.int .u8 (oByte (xs, sh)).1) ∧ Rdd b A c xs w (oByte (xs, sh)).2 w' := by
  have HT := Lib.hid (takeByte_any b A xs c sh w hB hx)
  clear hB hx
  go_enter Tryz.func101, Tryz.ntmps101
  go_wp2_with fail
  refine HT.out.mono ?_
  rintro e w1 ⟨rfl, hrd⟩
  have HRd := Lib.hid hrd
  clear hrd
  go_wp2_with fail
  go_ret
  exact ⟨rfl, HRd.out⟩

set_option maxRecDepth 100000 in
theorem expression_any (b : Nat) (A : Option Addr) (xs : List Int) (c : Nat) (sh : Bool) (w : World) (hB : Bx2 w b (.slice A xs.length c) (.bool sh)) (hx : SlB w A xs c) :
    Calls Tryz.prog 87 #[.pointer (some ⟨b, 0, none⟩)] w fun e w' => ∃ A1 c1, e = .returned (.slice A1 (oExpr (xs, sh)).1.length c1) ∧ SlO w' A1 (oExpr (xs, sh)).1 c1 ∧ (∀ a, A1 = some a → w.heap.size ≤ a.block) ∧ Rdd b A c xs w (oExpr (xs, sh)).2 w' := by
  have HT := Lib.hid (takeOps_any b A xs c sh w hB hx)
  clear hB hx
  go_enter Tryz.func87, Tryz.ntmps87
  go_wp2_with fail
  refine HT.out.mono ?_
  rintro e w1 ⟨A1, c1, rfl, hs, hf, hrd⟩
  have HS := Lib.hid hs
  have HF := Lib.hid hf
  have HRd := Lib.hid hrd
  clear hrd hs hf
  go_wp2_with fail
  go_ret
  exact ⟨A1, c1, rfl, HS.out, HF.out, HRd.out⟩

theorem rdd_short {b : Nat} {A : Option Addr} {c : Nat} {xs ys : List Int} {s1 : Bool} {w w1 : World} (h : Rdd b A c xs w (ys, s1) w1) (T : Bool) : Rdd b A c xs w (ys, T) (w1.setCell ⟨b, 1, none⟩ (.bool T)) := by
  obtain ⟨h1, A', c', h2, h3⟩ := h
  exact ⟨grown_trans h1 (grown_set _ _ _ _), A', c', bx2_set1 h2 _, h3⟩

set_option maxRecDepth 100000 in
set_option maxHeartbeats 1000000 in
theorem guarded_any (b : Nat) (A : Option Addr) (xs : List Int) (c : Nat) (sh : Bool) (w : World) (hB : Bx2 w b (.slice A xs.length c) (.bool sh)) (hx : SlB w A xs c) :
    Calls Tryz.prog 88 #[.pointer (some ⟨b, 0, none⟩)] w fun e w' => e = .returned (.bool (decide ((oGuard (xs, sh)).1 = 1))) ∧ Rdd b A c xs w (oGuard (xs, sh)).2 w' := by
  have ht := takeNum_any b A xs c sh w hB hx
  have hle := oNum_le (s := (xs, sh)) hx.1.1
  have hg : oGuard (xs, sh) = if (oNum (xs, sh)).1 ≤ 1 then oNum (xs, sh) else (0, ((oNum (xs, sh)).2.1, true)) := rfl
  rw [hg]
  clear hg
  obtain ⟨⟨v, ys, s1⟩, hr⟩ : ∃ r, r = oNum (xs, sh) := ⟨_, rfl⟩
  rw [← hr] at ht hle ⊢
  simp only at ht hle ⊢
  have HT := Lib.hid ht
  clear ht hr hB hx
  by_cases hv : v ≤ 1
  · rw [if_pos hv]
    have g1 : decide ((1 : Int) < (v : Int)) = false := by rw [decide_eq_false_iff_not]; omega
    have g1' : decide (1 < v) = false := by rw [decide_eq_false_iff_not]; omega
    obtain ⟨z, gz⟩ : ∃ z, ((v : Int) == 1) = z := ⟨_, rfl⟩
    have gz' : (v == 1) = z := by rw [← gz, Bool.eq_iff_iff, beq_iff_eq, beq_iff_eq]; omega
    rw [show decide (v = 1) = z from by rw [← gz']; rfl]
    clear hv
    cases s1
    all_goals
      go_enter Tryz.func88, Tryz.ntmps88
      go_wp2_with fail
      refine HT.out.mono ?_
      rintro e w1 ⟨rfl, hrd⟩
      have HRd := Lib.hid hrd
      obtain ⟨_, A1, c1, ⟨⟨p0, p1⟩, p2, p3⟩, _⟩ := hrd
      go_wp2_with fail
      go_ret
      exact ⟨rfl, rdd_short HRd.out _⟩
  · rw [if_neg hv]
    have g1 : decide ((1 : Int) < (v : Int)) = true := by rw [decide_eq_true_iff]; omega
    have g1' : decide (1 < v) = true := by rw [decide_eq_true_iff]; omega
    have gz : ((v : Int) == 1) = false := by rw [beq_eq_false_iff_ne]; omega
    have gz' : (v == 1) = false := by rw [beq_eq_false_iff_ne]; omega
    clear hv
    cases s1
    all_goals
      go_enter Tryz.func88, Tryz.ntmps88
      go_wp2_with fail
      refine HT.out.mono ?_
      rintro e w1 ⟨rfl, hrd⟩
      have HRd := Lib.hid hrd
      obtain ⟨_, A1, c1, ⟨⟨p0, p1⟩, p2, p3⟩, _⟩ := hrd
      go_wp2_with fail
      go_ret
      exact ⟨rfl, rdd_short HRd.out _⟩
end Go.Proofs.YtbmdkibmfkmjoaaGreat.Qy

namespace Go.Proofs.YtbmdkibmfkmjoaaGreat.Qy
open Go.RowKit Go.Proofs.YtbmdkibmfkmjoaaGreat.BM Go.Proofs.YtbmdkibmfkmjoaaGreat.LM Go.Proofs.YtbmdkibmfkmjoaaGreat.LeM Go.Proofs.YtbmdkibmfkmjoaaGreat.VaM Go.Proofs.YtbmdkibmfkmjoaaGreat.ExM Go.Proofs.YtbmdkibmfkmjoaaGreat.QyM
open Go.Proofs.YtbmdkibmfkmjoaaGreat.Ex (SlO slO_none)
open Go.Proofs.YtbmdkibmfkmjoaaGreat.Va (Bx2 bx2_new bx2_set0 bx2_set1 ret_v)
open Go.Proofs.YtbmdkibmfkmjoaaGreat.Sc (Rdd grown_set grown_trans)

theorem grown_own {w W W' : World} {b : Nat} {r : Option Nat} (h : w.grownBy W (some b)) (k : W.grownBy W' r) (hr : ∀ q, r = some q → w.heap.size ≤ q) : w.grownBy W' (some b) :=
  ⟨k.os.trans h.os, k.tape.trans h.tape, k.output.trans h.output, Nat.le_trans h.size k.size, fun q hq hne => (k.block q (Nat.lt_of_lt_of_le hq h.size) (fun e => by
    have := hr q e.symm
    omega)).trans (h.block q hq hne)⟩
theorem grown_below {w W W' : World} {r : Option Nat} (h : w.grownBy W r) (k : Below W.heap.size W W') : w.grownBy W' r := grown_trans h (below_grown k)

/-- The bytes, in whatever world differs in the reader's block alone. -/
def Bytes (w : World) (b : Nat) (A : Option Addr) (xs : List Int) (c : Nat) : Prop := ∀ W, w.grownBy W (some b) → SlB W A xs c

section
variable {b : Nat} {A : Option Addr} {c : Nat} {xs : List Int} {s : ScM.Rs} {w W W' : World}
theorem rdd_first (hB : Bx2 w b (.slice A xs.length c) (.bool s.2)) (hs : s.1 = xs) : Rdd b A c xs w s w := by
  subst hs
  exact ⟨World.grownBy.refl _ _, A, c, hB, fun _ h => h⟩
theorem rdd_below (h : Rdd b A c xs w s W) (hb : Below W.heap.size W W') : Rdd b A c xs w s W' := by
  obtain ⟨h1, A', c', h2, h3⟩ := h
  exact ⟨grown_below h1 hb, A', c', h2.kept hb, h3⟩
theorem rdd_own {r : Option Nat} (h : Rdd b A c xs w s W) (hg : W.grownBy W' r) (hr : ∀ q, r = some q → w.heap.size ≤ q) (hb : b < w.heap.size) : Rdd b A c xs w s W' := by
  obtain ⟨h1, A', c', h2, h3⟩ := h
  refine ⟨grown_own h1 hg hr, A', c', h2.grown hg (fun e => ?_), h3⟩
  have := hr b e.symm
  omega
theorem rdd_set {k i : Nat} (h : Rdd b A c xs w s W) (hk : w.heap.size ≤ k) (hb : b < w.heap.size) (u : Value) : Rdd b A c xs w s (W.setCell ⟨k, i, none⟩ u) :=
  rdd_own h (grown_set W k i u) (fun q e => by injection e with e; omega) hb
theorem rdd_by (h : Rdd b A c xs w s W) (hx : Bytes w b A xs c) : Gr.By s.1 := by
  obtain ⟨h1, A', c', _, h3⟩ := h
  exact (h3 W (hx W h1)).1.1
end

/-- A method, wherever the reader is. -/
theorem acc {b : Nat} {A : Option Addr} {c : Nat} {xs : List Int} {s s2 : ScM.Rs} {w W : World} {f : FuncId} {args : Array Value} {P : Ending → World → Prop} (h : Rdd b A c xs w s W) (hx : Bytes w b A xs c)
    (hc : ∀ A' c', Bx2 W b (.slice A' s.1.length c') (.bool s.2) → SlB W A' s.1 c' → Calls Tryz.prog f args W fun e w' => P e w' ∧ Rdd b A' c' s.1 W s2 w') :
    Calls Tryz.prog f args W fun e w' => P e w' ∧ Rdd b A c xs w s2 w' ∧ W.grownBy w' (some b) := by
  obtain ⟨h1, A', c', h2, h3⟩ := h
  refine (hc A' c' h2 (h3 W (hx W h1))).mono fun _ _ k => ⟨k.1, Rdd.trans h1 h3 k.2, k.2.1⟩

/-- The same, where the method stores more than once. -/
theorem acc2 {b : Nat} {A : Option Addr} {c : Nat} {xs : List Int} {s s2 : ScM.Rs} {w W : World} {f : FuncId} {args : Array Value} {P : Ending → World → Prop} (h : Rdd b A c xs w s W) (hx : Bytes w b A xs c)
    (hc : ∀ A' c', Rdd b A' c' s.1 W s W → Bytes W b A' s.1 c' → Calls Tryz.prog f args W fun e w' => P e w' ∧ Rdd b A' c' s.1 W s2 w') :
    Calls Tryz.prog f args W fun e w' => P e w' ∧ Rdd b A c xs w s2 w' ∧ W.grownBy w' (some b) := by
  obtain ⟨h1, A', c', h2, h3⟩ := h
  refine (hc A' c' (rdd_first h2 rfl) (fun W2 g => h3 W2 (hx W2 (grown_trans h1 g)))).mono fun _ _ k => ⟨k.1, Rdd.trans h1 h3 k.2, k.2.1⟩

section
variable {b : Nat} {A : Option Addr} {c : Nat} {xs : List Int} {s : ScM.Rs} {w W : World}
theorem number_acc (h : Rdd b A c xs w s W) (hx : Bytes w b A xs c) : Calls Tryz.prog 56 #[.pointer (some ⟨b, 0, none⟩)] W fun e w' => (e = .returned (.int .i64 (wrp (oNum s).1))) ∧ Rdd b A c xs w (oNum s).2 w' ∧ W.grownBy w' (some b) :=
  acc h hx fun A' c' hB hs => number_any b A' s.1 c' s.2 W hB hs
theorem one_acc (h : Rdd b A c xs w s W) (hx : Bytes w b A xs c) : Calls Tryz.prog 101 #[.pointer (some ⟨b, 0, none⟩)] W fun e w' => (e = .returned (.int .u8 (oByte s).1)) ∧ Rdd b A c xs w (oByte s).2 w' ∧ W.grownBy w' (some b) :=
  acc h hx fun A' c' hB hs => one_any b A' s.1 c' s.2 W hB hs
theorem guarded_acc (h : Rdd b A c xs w s W) (hx : Bytes w b A xs c) : Calls Tryz.prog 88 #[.pointer (some ⟨b, 0, none⟩)] W fun e w' => (e = .returned (.bool (decide ((oGuard s).1 = 1)))) ∧ Rdd b A c xs w (oGuard s).2 w' ∧ W.grownBy w' (some b) :=
  acc h hx fun A' c' hB hs => guarded_any b A' s.1 c' s.2 W hB hs
theorem takeNum_acc (h : Rdd b A c xs w s W) (hx : Bytes w b A xs c) : Calls Tryz.prog 84 #[.pointer (some ⟨b, 0, none⟩), .func (.func 85) #[] #[]] W fun e w' => (e = .returned (.int .u64 ((oNum s).1 : Nat))) ∧ Rdd b A c xs w (oNum s).2 w' ∧ W.grownBy w' (some b) :=
  acc h hx fun A' c' hB hs => takeNum_any b A' s.1 c' s.2 W hB hs
theorem expression_acc (h : Rdd b A c xs w s W) (hx : Bytes w b A xs c) : Calls Tryz.prog 87 #[.pointer (some ⟨b, 0, none⟩)] W fun e w' => (∃ A1 c1, e = .returned (.slice A1 (oExpr s).1.length c1) ∧ SlO w' A1 (oExpr s).1 c1 ∧ (∀ a, A1 = some a → W.heap.size ≤ a.block)) ∧ Rdd b A c xs w (oExpr s).2 w' ∧ W.grownBy w' (some b) :=
  acc h hx fun A' c' hB hs => (expression_any b A' s.1 c' s.2 W hB hs).mono fun _ _ ⟨A1, c1, h1, h2, h3, h4⟩ => ⟨⟨A1, c1, h1, h2, h3⟩, h4⟩
end
end Go.Proofs.YtbmdkibmfkmjoaaGreat.Qy

namespace Go.Proofs.YtbmdkibmfkmjoaaGreat.Qy
open Go.RowKit Go.Proofs.YtbmdkibmfkmjoaaGreat.BM Go.Proofs.YtbmdkibmfkmjoaaGreat.LM Go.Proofs.YtbmdkibmfkmjoaaGreat.LeM Go.Proofs.YtbmdkibmfkmjoaaGreat.VaM Go.Proofs.YtbmdkibmfkmjoaaGreat.ExM Go.Proofs.YtbmdkibmfkmjoaaGreat.QyM
open Go.Proofs.YtbmdkibmfkmjoaaGreat.Ex (SlO slO_none)
open Go.Proofs.YtbmdkibmfkmjoaaGreat.Va (Bx2 bx2_new bx2_set0 bx2_set1 ret_v)
open Go.Proofs.YtbmdkibmfkmjoaaGreat.Sc (Rdd grown_set grown_trans)

theorem oByte_by {s : ScM.Rs} (h : Gr.By s.1) : 0 ≤ (oByte s).1 ∧ (oByte s).1 < 256 := by
  obtain ⟨xs, sh⟩ := s
  cases xs with
  | nil => exact ⟨Int.le_refl _, show (0 : Int) < 256 by decide⟩
  | cons x t => exact h x (List.mem_cons_self ..)
theorem reps_bytes {n : Nat} {s : ScM.Rs} (h : Gr.By s.1) : ∀ x ∈ (reps oByte n s).1, (0 : Int) ≤ x ∧ x < 256 := by
  intro x hx
  obtain ⟨j, _, rfl⟩ := reps_mem hx
  exact oByte_by ((rdr_tk gB 0).r_by j h)

set_option maxRecDepth 100000 in
set_option maxHeartbeats 4000000 in
theorem bytes_any (b : Nat) (A : Option Addr) (xs : List Int) (c : Nat) (s : ScM.Rs) (w : World) (R : Rdd b A c xs w s w) (hx : Bytes w b A xs c) (hb : b < w.heap.size) :
    Calls Tryz.prog 100 #[.pointer (some ⟨b, 0, none⟩), .int .u64 12, .func (.func 101) #[.pointer (some ⟨b, 0, none⟩)] #[]] w fun e w' =>
      (∃ v, e = .returned v ∧ w'.ownsRow w.heap.size 5 1 v (several oByte 12 s).1.length (cs (several oByte 12 s).1)) ∧ Rdd b A c xs w (several oByte 12 s).2 w' := by
  have ht := takeNum_acc R hx
  have hby0 := rdr_num.bytes (rdd_by R hx)
  have hsv : several oByte 12 s = if (oNum s).1 ≤ 12 then reps oByte (oNum s).1 (oNum s).2 else ([], ((oNum s).2.1, true)) := rfl
  rw [hsv]
  clear hsv
  obtain ⟨⟨n, ys, s1⟩, hr⟩ : ∃ r, r = oNum s := ⟨_, rfl⟩
  rw [← hr] at ht hby0 ⊢
  simp only at ht hby0 ⊢
  have HT := Lib.hid ht
  clear ht hr
  by_cases hn : n ≤ 12
  rotate_left
  · rw [if_neg hn]
    have g1 : decide ((12 : Int) < (n : Int)) = true := by rw [decide_eq_true_iff]; omega
    have g1' : decide (12 < n) = true := by rw [decide_eq_true_iff]; omega
    clear hn R hx hby0
    go_enter Tryz.func100, Tryz.ntmps100
    go_wp2_with fail
    refine HT.out.mono ?_
    rintro e w1 ⟨rfl, hrd, _⟩
    have HRd := Lib.hid hrd
    obtain ⟨_, A1, c1, ⟨⟨p0, p1⟩, p2, p3⟩, _⟩ := hrd
    go_wp2_with fail
    go_ret
    exact ⟨⟨_, rfl, World.ownsRow_nil _ _ _ _⟩, rdd_short HRd.out true⟩
  rw [if_pos hn]
  have g1 : decide ((12 : Int) < (n : Int)) = false := by rw [decide_eq_false_iff_not]; omega
  have g1' : decide (12 < n) = false := by rw [decide_eq_false_iff_not]; omega
  obtain ⟨Q, hQ⟩ : ∃ Q : Nat → List Int × ScM.Rs, Q = fun j => reps oByte j (ys, s1) := ⟨_, rfl⟩
  have hQ0 : Q 0 = ([], (ys, s1)) := by rw [hQ]; rfl
  have hQs : ∀ j, Q (j + 1) = ((Q j).1 ++ [(oByte (Q j).2).1], (oByte (Q j).2).2) := fun j => by rw [hQ]; rfl
  have hQb : ∀ j, Gr.By (Q j).2.1 := fun j => by rw [hQ]; exact (rdr_tk gB 0).r_by j hby0
  have hQl : ∀ j, (Q j).1.length = j := fun j => by rw [hQ]; exact reps_len _ _
  rw [show reps oByte n (ys, s1) = Q n from by rw [hQ]]
  have HX := Lib.hid hx
  have HQ0 := Lib.hid hQ0
  have HQs := Lib.hid hQs
  have HQb := Lib.hid hQb
  have HQl := Lib.hid hQl
  clear hQ hQ0 hQs hQb hQl hx R hby0
  go_enter Tryz.func100, Tryz.ntmps100
  go_wp2_with fail
  refine HT.out.mono ?_
  rintro e w1 ⟨rfl, hrd, _⟩
  have HRd := Lib.hid hrd
  clear hrd HT
  go_wp2_with fail
  go_loopw [8, 18] (fun u i wr => ∃ j : Nat, i = .int .u64 (j : Int) ∧ j ≤ n ∧ wr.ownsRow w.heap.size 5 1 u j (cs (Q j).1) ∧ Rdd b A c xs w (Q j).2 wr) (fun _ i _ => n - (intOf i).toNat)
  case atStart => exact ⟨0, rfl, Nat.zero_le _, by rw [HQ0.out]; exact World.ownsRow_nil _ _ _ _, by rw [HQ0.out]; exact HRd.out⟩
  case round =>
    obtain ⟨j, rfl, hj, hown, hrd⟩ := hrel
    have HO := Lib.hid hown
    have HR := Lib.hid hrd
    clear hown hrd HRd
    by_cases hjn : j < n
    · have hone := one_acc HR.out HX.out
      have hob := oByte_by (HQb.out j)
      have hs := HQs.out j
      obtain ⟨⟨l, q⟩, hq⟩ : ∃ r, r = Q j := ⟨_, rfl⟩
      rw [← hq] at hone hob hs HO
      simp only at hone hob hs HO
      obtain ⟨⟨x, q2⟩, hq2⟩ : ∃ r, r = oByte q := ⟨_, rfl⟩
      rw [← hq2] at hone hob hs
      simp only at hone hob hs
      have HOne := Lib.hid hone
      have HS := Lib.hid hs
      clear hone hs hq hq2 HR
      go_wp2_with fail
      refine HOne.out.mono ?_
      rintro e w3 ⟨rfl, hr3, hg3⟩
      have ha4 := (Below.refl w3.heap.size w3).alloc (Nat.le_refl _) (.cells #[.int .u8 x] 5)
      have HN4 := Lib.hid (isB_new w3 [x] (by intro y hy; simp only [List.mem_singleton] at hy; omega))
      have HO4 := Lib.hid (RegA.own_below (HO.out.kept hg3 (Or.inr (fun e => by have := (HO.out.lt _ e).1; omega))) ha4)
      have HR4 := Lib.hid (rdd_below hr3 ha4)
      have hz4 : w.heap.size ≤ (w3.alloc (.cells #[.int .u8 x] 5)).heap.size := Nat.le_trans hr3.1.size ha4.size
      clear hr3 hg3 ha4 HOne HO
      go_wp2_with (at_builtin; refine wp_append_b rfl (.tmp 20) (.tmp 23) rfl w.heap.size _ j l rfl HO4.out (some ⟨w3.heap.size, 0, none⟩) 1 1 [x] rfl rfl HN4.out (fun h => by cases h) (by omega) hz4 ?_; intro u5 w5 hown5 hgrow5; refine pause ?_)
      have HR5 := Lib.hid (rdd_own HR4.out hgrow5 (fun q hq => (HO4.out.lt q hq).1) hb)
      have HO5 := Lib.hid hown5
      clear hown5 hgrow5
      unfold Pause
      go_wp2_with fail
      go_roundw
      case rel =>
        refine ⟨j + 1, by go_num, by omega, ?_, ?_⟩
        · rw [HS.out]
          exact HO5.out
        · rw [HS.out]
          exact HR5.out
      case measure => simp [intOf]; omega
    · obtain rfl : j = n := by omega
      go_wp2_with fail
      go_ret
      exact ⟨⟨_, rfl, by rw [HQl.out j]; exact HO.out⟩, HR.out⟩

set_option maxRecDepth 100000 in
set_option maxHeartbeats 2000000 in
theorem name_any (b : Nat) (A : Option Addr) (xs : List Int) (c : Nat) (s : ScM.Rs) (w : World) (R : Rdd b A c xs w s w) (hx : Bytes w b A xs c) (hb : b < w.heap.size) :
    Calls Tryz.prog 86 #[.pointer (some ⟨b, 0, none⟩)] w fun e w' => (e = .returned (.string (oName s).1)) ∧ Rdd b A c xs w (oName s).2 w' := by
  have hmf : ∀ (fn : Fn) (first cap : Array Value) (w : World), (Instr.makeFunc fn first cap).run Tryz.prog w = .ok (.func fn first cap) w := fun _ _ _ _ => rfl
  have hsv := bytes_any b A xs c s w R hx hb
  have hby : ∀ x ∈ (several oByte 12 s).1, (0 : Int) ≤ x ∧ x < 256 := by
    unfold several
    split
    · exact reps_bytes (rdr_num.bytes (rdd_by R hx))
    · intro x hx
      cases hx
  have hnm : oName s = (strOfNums (several oByte 12 s).1, (several oByte 12 s).2) := rfl
  rw [hnm]
  clear hnm
  obtain ⟨⟨l, q⟩, hq⟩ : ∃ r, r = several oByte 12 s := ⟨_, rfl⟩
  rw [← hq] at hsv hby ⊢
  simp only at hsv hby ⊢
  have HS := Lib.hid hsv
  have HBy := Lib.hid hby
  clear hsv hby hq R hx
  go_enter Tryz.func86, Tryz.ntmps86
  go_wp2_with fail
  refine HS.out.mono ?_
  rintro e w1 ⟨⟨v, rfl, ho⟩, hr⟩
  obtain ⟨A1, c1, rfl, _, hs1, _⟩ := own_slB ho HBy.out
  have hcv := fun (dst : TypeId) hd => conv_any (w := w1) hs1.1 c1 dst hd
  have hcv2 := hcv 9 Tryz.underlying9
  have HR := Lib.hid hr
  obtain ⟨m, hm⟩ : ∃ m, m = l.length := ⟨_, rfl⟩
  rw [← hm] at hcv2 ⊢
  clear hr ho hs1 hm hcv HS
  go_wp2_with fail
  go_ret
  exact ⟨rfl, HR.out⟩
end Go.Proofs.YtbmdkibmfkmjoaaGreat.Qy

namespace Go.Proofs.YtbmdkibmfkmjoaaGreat.Qy
open Go.RowKit Go.Proofs.YtbmdkibmfkmjoaaGreat.BM Go.Proofs.YtbmdkibmfkmjoaaGreat.LM Go.Proofs.YtbmdkibmfkmjoaaGreat.LeM Go.Proofs.YtbmdkibmfkmjoaaGreat.VaM Go.Proofs.YtbmdkibmfkmjoaaGreat.ExM Go.Proofs.YtbmdkibmfkmjoaaGreat.QyM
open Go.Proofs.YtbmdkibmfkmjoaaGreat.Ex (SlO slO_none)
open Go.Proofs.YtbmdkibmfkmjoaaGreat.Va (Bx2 bx2_new bx2_set0 bx2_set1 ret_v)
open Go.Proofs.YtbmdkibmfkmjoaaGreat.Sc (Rdd grown_set grown_trans)

theorem name_acc {b : Nat} {A : Option Addr} {c : Nat} {xs : List Int} {s : ScM.Rs} {w W : World} (h : Rdd b A c xs w s W) (hx : Bytes w b A xs c) (hb : b < W.heap.size) : Calls Tryz.prog 86 #[.pointer (some ⟨b, 0, none⟩)] W fun e w' => (e = .returned (.string (oName s).1)) ∧ Rdd b A c xs w (oName s).2 w' ∧ W.grownBy w' (some b) :=
  acc2 h hx fun A' c' R hB => name_any b A' s.1 c' s W R hB hb

/-- Seven cells, stored. -/
def put7 (w : World) (b : Nat) (v0 v1 v2 v3 v4 v5 v6 : Value) : World := ((((((w.setCell ⟨b, 0, none⟩ v0).setCell ⟨b, 1, none⟩ v1).setCell ⟨b, 2, none⟩ v2).setCell ⟨b, 3, none⟩ v3).setCell ⟨b, 4, none⟩ v4).setCell ⟨b, 5, none⟩ v5).setCell ⟨b, 6, none⟩ v6
theorem bx7_put {w : World} {b : Nat} {u0 u1 u2 u3 u4 u5 u6 : Value} (h : RG.BxN w b [u0, u1, u2, u3, u4, u5, u6]) (v0 v1 v2 v3 v4 v5 v6 : Value) : RG.BxN (put7 w b v0 v1 v2 v3 v4 v5 v6) b [v0, v1, v2, v3, v4, v5, v6] :=
  RG.BxN.set (RG.BxN.set (RG.BxN.set (RG.BxN.set (RG.BxN.set (RG.BxN.set (RG.BxN.set h 0 (show 0 < 7 from by decide) v0) 1 (show 1 < 7 from by decide) v1) 2 (show 2 < 7 from by decide) v2) 3 (show 3 < 7 from by decide) v3) 4 (show 4 < 7 from by decide) v4) 5 (show 5 < 7 from by decide) v5) 6 (show 6 < 7 from by decide) v6
theorem bxs_free {w : World} {b : Nat} {v0 v1 v2 v3 v4 v5 v6 : Value} (h : RG.BxN w b [v0, v1, v2, v3, v4, v5, v6]) : w.frozen? ⟨b, 0, none⟩ = false ∧ w.frozen? ⟨b, 1, none⟩ = false ∧ w.frozen? ⟨b, 2, none⟩ = false ∧ w.frozen? ⟨b, 3, none⟩ = false ∧ w.frozen? ⟨b, 4, none⟩ = false ∧ w.frozen? ⟨b, 5, none⟩ = false ∧ w.frozen? ⟨b, 6, none⟩ = false :=
  ⟨(h 0 _ rfl).2, (h 1 _ rfl).2, (h 2 _ rfl).2, (h 3 _ rfl).2, (h 4 _ rfl).2, (h 5 _ rfl).2, (h 6 _ rfl).2⟩
theorem grown7 (w : World) (b : Nat) (v0 v1 v2 v3 v4 v5 v6 : Value) : w.grownBy (put7 w b v0 v1 v2 v3 v4 v5 v6) (some b) :=
  grown_trans (grown_trans (grown_trans (grown_trans (grown_trans (grown_trans (grown_set _ b 0 _) (grown_set _ b 1 _)) (grown_set _ b 2 _)) (grown_set _ b 3 _)) (grown_set _ b 4 _)) (grown_set _ b 5 _)) (grown_set _ b 6 _)

theorem oStep_of {s s1 s2 s3 s4 s5 : ScM.Rs} {nm : ByteArray} {f : List O} {v3 v4 v5 : Nat} (e1 : oName s = (nm, s1)) (e2 : oExpr s1 = (f, s2)) (e3 : oNum s2 = (v3, s3)) (e4 : oNum s3 = (v4, s4)) (e5 : oGuard s4 = (v5, s5)) :
    oStep s = (⟨nm, f, wrp v3, wrp v4, decide (v5 = 1), (oG v5 s5).1.1, (oG v5 s5).1.2⟩, (oG v5 s5).2) := by
  unfold oStep oStP
  simp only [both, e1, e2, e3, e4, e5, stOfL]
theorem oG_yes {g : Nat} {s : ScM.Rs} (h : decide (g = 1) = true) : oG g s = (((oName s).1, (oExpr (oName s).2).1), (oExpr (oName s).2).2) := by
  rw [oG, if_pos (of_decide_eq_true h)]
  rfl
theorem oG_no {g : Nat} {s : ScM.Rs} (h : decide (g = 1) = false) : oG g s = ((e0, []), s) := by rw [oG, if_neg (of_decide_eq_false h)]

set_option maxRecDepth 100000 in
set_option maxHeartbeats 8000000 in
theorem step_any (b : Nat) (A : Option Addr) (xs : List Int) (c : Nat) (s : ScM.Rs) (w : World) (R : Rdd b A c xs w s w) (hx : Bytes w b A xs c) (hb : b < w.heap.size) :
    Calls Tryz.prog 55 #[.pointer (some ⟨b, 0, none⟩)] w fun e w' =>
      (∃ A1 c1 B1 d1, e = .returned (agSt (oStep s).1 A1 c1 B1 d1) ∧ SlO w' A1 (oStep s).1.f c1 ∧ SlO w' B1 (oStep s).1.h d1 ∧ (∀ a, A1 = some a → w.heap.size ≤ a.block) ∧ (∀ a, B1 = some a → w.heap.size ≤ a.block)) ∧ Rdd b A c xs w (oStep s).2 w' := by
  have hN0 := RG.bxN_new w 47 [.string ⟨#[]⟩, .slice none 0 0, .int .i64 0, .int .i64 0, .bool false, .string ⟨#[]⟩, .slice none 0 0]
  have ha0 := (Below.refl w.heap.size w).alloc (Nat.le_refl _) (.cells #[.string ⟨#[]⟩, .slice none 0 0, .int .i64 0, .int .i64 0, .bool false, .string ⟨#[]⟩, .slice none 0 0] 47)
  have hR0 := rdd_below R ha0
  have HX := Lib.hid hx
  -- the parts, by name
  obtain ⟨⟨nm, s1⟩, e1⟩ : ∃ r, r = oName s := ⟨_, rfl⟩
  obtain ⟨⟨f, s2⟩, e2⟩ : ∃ r, r = oExpr s1 := ⟨_, rfl⟩
  obtain ⟨⟨v3, s3⟩, e3⟩ : ∃ r, r = oNum s2 := ⟨_, rfl⟩
  obtain ⟨⟨v4, s4⟩, e4⟩ : ∃ r, r = oNum s3 := ⟨_, rfl⟩
  obtain ⟨⟨v5, s5⟩, e5⟩ : ∃ r, r = oGuard s4 := ⟨_, rfl⟩
  rw [oStep_of e1.symm e2.symm e3.symm e4.symm e5.symm]
  have c1' := fun W (h : Rdd b A c xs w s W) hbW => name_acc (W := W) h hx hbW
  have c2' := fun W (h : Rdd b A c xs w s1 W) => expression_acc (W := W) h hx
  have c3' := fun W (h : Rdd b A c xs w s2 W) => number_acc (W := W) h hx
  have c4' := fun W (h : Rdd b A c xs w s3 W) => number_acc (W := W) h hx
  have c5' := fun W (h : Rdd b A c xs w s4 W) => guarded_acc (W := W) h hx
  simp only [← e1] at c1'
  simp only [← e2] at c2'
  simp only [← e3] at c3'
  simp only [← e4] at c4'
  simp only [← e5] at c5'
  obtain ⟨lo, hlo⟩ : ∃ z, z = wrp v3 := ⟨_, rfl⟩
  obtain ⟨hi, hhi⟩ : ∃ z, z = wrp v4 := ⟨_, rfl⟩
  simp only [← hlo] at c3' ⊢
  simp only [← hhi] at c4' ⊢
  have hyes := @oG_yes v5 s5
  have hno := @oG_no v5 s5
  obtain ⟨g, hg⟩ : ∃ g, g = decide (v5 = 1) := ⟨_, rfl⟩
  rw [← hg] at hyes hno
  simp only [← hg] at c5' ⊢
  obtain ⟨th, hth⟩ : ∃ t, t = oG v5 s5 := ⟨_, rfl⟩
  rw [← hth] at hyes hno ⊢
  have c6' := fun W (h : Rdd b A c xs w s5 W) hbW => name_acc (W := W) h hx hbW
  obtain ⟨⟨nt, s6⟩, e6⟩ : ∃ r, r = oName s5 := ⟨_, rfl⟩
  rw [← e6] at hyes
  simp only [← e6] at c6' hyes
  have c7' := fun W (h : Rdd b A c xs w s6 W) => expression_acc (W := W) h hx
  obtain ⟨⟨fh, s7⟩, e7⟩ : ∃ r, r = oExpr s6 := ⟨_, rfl⟩
  simp only [← e7] at c7' hyes
  clear e1 e2 e3 e4 e5 e6 e7 hlo hhi hg hth R hx
  obtain ⟨n, hn⟩ : ∃ n, n = f.length := ⟨_, rfl⟩
  obtain ⟨m, hm⟩ : ∃ n, n = fh.length := ⟨_, rfl⟩
  simp only [← hn] at c2'
  simp only [← hm] at c7'
  have HC1 := Lib.hid c1'
  have HC2 := Lib.hid c2'
  have HC3 := Lib.hid c3'
  have HC4 := Lib.hid c4'
  have HC5 := Lib.hid c5'
  have HC6 := Lib.hid c6'
  have HC7 := Lib.hid c7'
  have HYes := Lib.hid hyes
  have HNo := Lib.hid hno
  have HNn := Lib.hid hn
  have HMm := Lib.hid hm
  have HN0 := Lib.hid hN0
  have HR0 := Lib.hid hR0
  clear c1' c2' c3' c4' c5' c6' c7' hyes hno hn hm hN0 hR0 ha0
  go_enter Tryz.func55, Tryz.ntmps55
  go_wp2_with fail
  obtain ⟨w0, hw0⟩ : ∃ w0, w0 = w.alloc (.cells #[.string ⟨#[]⟩, .slice none 0 0, .int .i64 0, .int .i64 0, .bool false, .string ⟨#[]⟩, .slice none 0 0] 47) := ⟨_, rfl⟩
  have hz0 : w0.heap.size = w.heap.size + 1 := by rw [hw0]; simp
  rw [show (List.toArray [Value.string ⟨#[]⟩, .slice none 0 0, .int .i64 0, .int .i64 0, .bool false, .string ⟨#[]⟩, .slice none 0 0]) = #[Value.string ⟨#[]⟩, .slice none 0 0, .int .i64 0, .int .i64 0, .bool false, .string ⟨#[]⟩, .slice none 0 0] from rfl, ← hw0] at HN0
  rw [← hw0] at HR0 ⊢
  clear hw0
  refine (HC1.out w0 HR0.out (by omega)).mono ?_
  rintro e w1 ⟨rfl, hr1, hg1⟩
  have HR1 := Lib.hid hr1
  have HN1 := Lib.hid (RG.BxN.grown HN0.out hg1 (fun e => by injection e with e; omega))
  have hz1 : w.heap.size + 1 ≤ w1.heap.size := by have := hg1.size; omega
  clear hr1 hg1 HN0 HR0 HC1
  go_wp2_with fail
  refine (HC2.out w1 HR1.out).mono ?_
  rintro e w2 ⟨⟨A1, c1, rfl, hs2, hf2⟩, hr2, hg2⟩
  have HR2 := Lib.hid hr2
  have HS2 := Lib.hid hs2
  have HF2 := Lib.hid (fun a ha => Nat.le_trans hz1 (hf2 a ha) : ∀ a, A1 = some a → w.heap.size + 1 ≤ a.block)
  have HN2 := Lib.hid (RG.BxN.grown HN1.out hg2 (fun e => by injection e with e; omega))
  have hz2 : w.heap.size + 1 ≤ w2.heap.size := by have := hg2.size; omega
  clear hr2 hg2 hs2 hf2 HN1 HR1 HC2
  go_wp2_with fail
  refine (HC3.out w2 HR2.out).mono ?_
  rintro e w3 ⟨rfl, hr3, hg3⟩
  have HR3 := Lib.hid hr3
  have HS3 := Lib.hid (slO_grown' HS2.out hg3 (fun _ a ha e => by injection e with e; have := HF2.out a ha; omega))
  have HN3 := Lib.hid (RG.BxN.grown HN2.out hg3 (fun e => by injection e with e; omega))
  have hz3 : w.heap.size + 1 ≤ w3.heap.size := by have := hg3.size; omega
  clear hr3 hg3 HN2 HR2 HS2 HC3
  go_wp2_with fail
  refine (HC4.out w3 HR3.out).mono ?_
  rintro e w4 ⟨rfl, hr4, hg4⟩
  have HR4 := Lib.hid hr4
  have HS4 := Lib.hid (slO_grown' HS3.out hg4 (fun _ a ha e => by injection e with e; have := HF2.out a ha; omega))
  have HN4 := Lib.hid (RG.BxN.grown HN3.out hg4 (fun e => by injection e with e; omega))
  have hz4 : w.heap.size + 1 ≤ w4.heap.size := by have := hg4.size; omega
  clear hr4 hg4 HN3 HR3 HS3 HC4
  go_wp2_with fail
  refine (HC5.out w4 HR4.out).mono ?_
  rintro e w5 ⟨rfl, hr5, hg5⟩
  have ha6 := (Below.refl w5.heap.size w5).alloc (Nat.le_refl _) (.cells #[.string nm, .slice A1 n c1, .int .i64 lo, .int .i64 hi, .bool g, .string ⟨#[]⟩, .slice none 0 0] 47)
  have HR6 := Lib.hid (rdd_below hr5 ha6)
  have HS6 := Lib.hid ((slO_grown' HS4.out hg5 (fun _ a ha e => by injection e with e; have := HF2.out a ha; omega)).kept ha6)
  have HN6 := Lib.hid ((RG.BxN.grown HN4.out hg5 (fun e => by injection e with e; omega)).kept ha6)
  have HM6 := Lib.hid (RG.bxN_new w5 47 [.string nm, .slice A1 n c1, .int .i64 lo, .int .i64 hi, .bool g, .string ⟨#[]⟩, .slice none 0 0])
  have hz5 : w.heap.size + 1 ≤ w5.heap.size := by have := hg5.size; omega
  have HS6lt := Lib.hid (fun h0 a ha => slO_lt (slO_grown' HS4.out hg5 (fun _ a ha e => by injection e with e; have := HF2.out a ha; omega)) h0 ha : 0 < f.length → ∀ a, A1 = some a → a.block < w5.heap.size)
  have hz6 : (w5.alloc (.cells #[.string nm, .slice A1 n c1, .int .i64 lo, .int .i64 hi, .bool g, .string ⟨#[]⟩, .slice none 0 0] 47)).heap.size = w5.heap.size + 1 := by simp
  clear hr5 hg5 ha6 HN4 HR4 HS4 HC5
  obtain ⟨w6, hw6⟩ : ∃ w6, w6 = w5.alloc (.cells #[.string nm, .slice A1 n c1, .int .i64 lo, .int .i64 hi, .bool g, .string ⟨#[]⟩, .slice none 0 0] 47) := ⟨_, rfl⟩
  rw [show (List.toArray [Value.string nm, .slice A1 n c1, .int .i64 lo, .int .i64 hi, .bool g, .string ⟨#[]⟩, .slice none 0 0]) = #[Value.string nm, .slice A1 n c1, .int .i64 lo, .int .i64 hi, .bool g, .string ⟨#[]⟩, .slice none 0 0] from rfl, ← hw6] at HM6
  rw [← hw6] at HR6 HS6 HN6 hz6
  have HW6 := Lib.hid hw6
  clear hw6
  cases g
  · have hth := HNo.out rfl
    have HFr := Lib.hid (fun a ha => Nat.le_of_succ_le (HF2.out a ha) : ∀ a, A1 = some a → w.heap.size ≤ a.block)
    clear HYes HNo HC6 HC7
    subst hth
    obtain ⟨W7, hW7⟩ : ∃ W7, W7 = put7 w6 w.heap.size (.string nm) (.slice A1 n c1) (.int .i64 lo) (.int .i64 hi) (.bool false) (.string ⟨#[]⟩) (.slice none 0 0) := ⟨_, rfl⟩
    have hb7 := bx7_put HN6.out (.string nm) (.slice A1 n c1) (.int .i64 lo) (.int .i64 hi) (.bool false) (.string ⟨#[]⟩) (.slice none 0 0)
    have hg7 := grown7 w6 w.heap.size (.string nm) (.slice A1 n c1) (.int .i64 lo) (.int .i64 hi) (.bool false) (.string ⟨#[]⟩) (.slice none 0 0)
    rw [← hW7] at hb7 hg7
    have HR7 := Lib.hid (rdd_own HR6.out hg7 (fun q e => by injection e with e; omega) hb)
    have HS7 := Lib.hid (slO_grown' HS6.out hg7 (fun _ a ha e => by injection e with e; have := HF2.out a ha; omega))
    have HB7 := Lib.hid hb7
    obtain ⟨p0, p1, p2, p3, p4, p5, p6⟩ := bx7 HM6.out
    obtain ⟨n0, n1, n2, n3, n4, n5, n6⟩ := bx7 HN6.out
    obtain ⟨m0, m1, m2, m3, m4, m5, m6⟩ := bxs_free HN6.out
    unfold put7 at hW7
    rw [HW6.out] at p0 p1 p2 p3 p4 p5 p6 n0 n1 n2 n3 n4 n5 n6 m0 m1 m2 m3 m4 m5 m6 hW7
    have HW7 := Lib.hid hW7
    clear hb7 hg7 hW7
    go_wp2_with fail
    rw [← HW7.out]
    obtain ⟨g0, g1, g2, g3, g4, g5, g6⟩ := bx7 HB7.out
    exact bodyPost_ret (v := .agg #[.string nm, .slice A1 n c1, .int .i64 lo, .int .i64 hi, .bool false, .string ⟨#[]⟩, .slice none 0 0]) (by simp [results, Tryz.results55, go_sem, g0, g1, g2, g3, g4, g5, g6]) rfl
      ⟨⟨A1, c1, none, 0, by rw [HNn.out]; rfl, HS7.out, slO_none _, HFr.out, (fun a ha => by cases ha)⟩, HR7.out⟩
  · have hth := HYes.out rfl
    have HFr := Lib.hid (fun a ha => Nat.le_of_succ_le (HF2.out a ha) : ∀ a, A1 = some a → w.heap.size ≤ a.block)
    clear HYes HNo
    subst hth
    obtain ⟨p0, p1, p2, p3, p4, p5, p6⟩ := bx7 HM6.out
    rw [HW6.out] at p0 p1 p2 p3 p4 p5 p6
    go_wp2_with fail
    rw [← HW6.out]
    refine (HC6.out w6 HR6.out (by omega)).mono ?_
    rintro e w8 ⟨rfl, hr8, hg8⟩
    have HR8 := Lib.hid hr8
    have HS8 := Lib.hid (slO_grown' HS6.out hg8 (fun _ a ha e => by injection e with e; have := HF2.out a ha; omega))
    have HN8 := Lib.hid (RG.BxN.grown HN6.out hg8 (fun e => by injection e with e; omega))
    have HM8 := Lib.hid (RG.BxN.grown HM6.out hg8 (fun e => by injection e with e; omega))
    have hz8 : w5.heap.size + 1 ≤ w8.heap.size := by have := hg8.size; omega
    clear hr8 hg8 HR6 HS6 HN6 HM6 HC6 p0 p1 p2 p3 p4 p5 p6 HW6
    go_wp2_with fail
    refine (HC7.out w8 HR8.out).mono ?_
    rintro e w9 ⟨⟨A2, c2, rfl, hs9, hf9⟩, hr9, hg9⟩
    have hf9' : ∀ a, A2 = some a → w5.heap.size + 1 ≤ a.block := fun a ha => Nat.le_trans hz8 (hf9 a ha)
    have HFt := Lib.hid (fun a ha => by have := hf9' a ha; omega : ∀ a, A2 = some a → w.heap.size ≤ a.block)
    have hs9a := slO_grown' HS8.out hg9 (fun _ a ha e => by injection e with e; have := HF2.out a ha; omega)
    have hn9 := RG.BxN.grown HN8.out hg9 (fun e => by injection e with e; omega)
    have hm9 := RG.BxN.grown HM8.out hg9 (fun e => by injection e with e; omega)
    have hz9 : w5.heap.size + 1 ≤ w9.heap.size := by have := hg9.size; omega
    have hlt9 : 0 < f.length → ∀ a, A1 = some a → a.block ≠ w5.heap.size := fun h0 a ha e => by
      have h1 := HS6lt.out h0 a ha
      omega
    obtain ⟨p0, p1, p2, p3, p4, p5, p6⟩ := bx7 hm9
    obtain ⟨q0, q1, q2, q3, q4, q5, q6⟩ := bxs_free hm9
    obtain ⟨n0, n1, n2, n3, n4, n5, n6⟩ := bx7 hn9
    obtain ⟨m0, m1, m2, m3, m4, m5, m6⟩ := bxs_free hn9
    have hne : ¬ w5.heap.size = w.heap.size := by omega
    have hne' : ¬ w.heap.size = w5.heap.size := by omega
    obtain ⟨v10, hv10⟩ : ∃ v, v = (w9.setCell ⟨w5.heap.size, 5, none⟩ (.string nt)).setCell ⟨w5.heap.size, 6, none⟩ (.slice A2 m c2) := ⟨_, rfl⟩
    have hg10 : w9.grownBy v10 (some w5.heap.size) := by rw [hv10]; exact grown_trans (grown_set _ _ 5 _) (grown_set _ _ 6 _)
    have hn10 := RG.BxN.grown hn9 hg10 (fun e => by injection e with e; omega)
    have hr10 := rdd_own hr9 hg10 (fun q e => by injection e with e; omega) hb
    have hs10 := slO_grown' hs9a hg10 (fun h0 a ha e => by injection e with e; exact hlt9 h0 a ha e)
    have ht10 := slO_grown' hs9 hg10 (fun _ a ha e => by injection e with e; have := hf9' a ha; omega)
    obtain ⟨W7, hW7⟩ : ∃ W7, W7 = put7 v10 w.heap.size (.string nm) (.slice A1 n c1) (.int .i64 lo) (.int .i64 hi) (.bool true) (.string nt) (.slice A2 m c2) := ⟨_, rfl⟩
    have hb7 := bx7_put hn10 (.string nm) (.slice A1 n c1) (.int .i64 lo) (.int .i64 hi) (.bool true) (.string nt) (.slice A2 m c2)
    have hg7 := grown7 v10 w.heap.size (.string nm) (.slice A1 n c1) (.int .i64 lo) (.int .i64 hi) (.bool true) (.string nt) (.slice A2 m c2)
    rw [← hW7] at hb7 hg7
    have HR7 := Lib.hid (rdd_own hr10 hg7 (fun q e => by injection e with e; omega) hb)
    have HS7 := Lib.hid (slO_grown' hs10 hg7 (fun _ a ha e => by injection e with e; have := HF2.out a ha; omega))
    have HT7 := Lib.hid (slO_grown' ht10 hg7 (fun _ a ha e => by injection e with e; have := hf9' a ha; omega))
    have HB7 := Lib.hid hb7
    unfold put7 at hW7
    rw [hv10] at hW7
    have HW7 := Lib.hid hW7
    clear hs9 hf9 hr9 hg9 hf9' hs9a hn9 hm9 hlt9 hv10 hg10 hn10 hr10 hs10 ht10 hb7 hg7 hW7 HS8 HN8 HM8 HR8 HC7
    go_wp2_with fail
    rw [← HW7.out]
    obtain ⟨g0, g1, g2, g3, g4, g5, g6⟩ := bx7 HB7.out
    exact bodyPost_ret (v := .agg #[.string nm, .slice A1 n c1, .int .i64 lo, .int .i64 hi, .bool true, .string nt, .slice A2 m c2]) (by simp [results, Tryz.results55, go_sem, g0, g1, g2, g3, g4, g5, g6]) rfl
      ⟨⟨A1, c1, A2, c2, by rw [HNn.out, HMm.out]; rfl, HS7.out, HT7.out, HFr.out, HFt.out⟩, HR7.out⟩
end Go.Proofs.YtbmdkibmfkmjoaaGreat.Qy

namespace Go.Proofs.YtbmdkibmfkmjoaaGreat.Qy
open Go.RowKit Go.Proofs.YtbmdkibmfkmjoaaGreat.BM Go.Proofs.YtbmdkibmfkmjoaaGreat.LM Go.Proofs.YtbmdkibmfkmjoaaGreat.LeM Go.Proofs.YtbmdkibmfkmjoaaGreat.VaM Go.Proofs.YtbmdkibmfkmjoaaGreat.ExM Go.Proofs.YtbmdkibmfkmjoaaGreat.QyM
open Go.Proofs.YtbmdkibmfkmjoaaGreat.Ex (SlO slO_none)
open Go.Proofs.YtbmdkibmfkmjoaaGreat.Va (Bx2 bx2_new bx2_set0 bx2_set1 ret_v)
open Go.Proofs.YtbmdkibmfkmjoaaGreat.Sc (Rdd grown_set grown_trans)

theorem step_acc {b : Nat} {A : Option Addr} {c : Nat} {xs : List Int} {s : ScM.Rs} {w W : World} (h : Rdd b A c xs w s W) (hx : Bytes w b A xs c) (hb : b < W.heap.size) : Calls Tryz.prog 55 #[.pointer (some ⟨b, 0, none⟩)] W fun e w' =>
    (∃ A1 c1 B1 d1, e = .returned (agSt (oStep s).1 A1 c1 B1 d1) ∧ SlO w' A1 (oStep s).1.f c1 ∧ SlO w' B1 (oStep s).1.h d1 ∧ (∀ a, A1 = some a → W.heap.size ≤ a.block) ∧ (∀ a, B1 = some a → W.heap.size ≤ a.block)) ∧ Rdd b A c xs w (oStep s).2 w' ∧ W.grownBy w' (some b) :=
  acc2 h hx fun A' c' R hB => step_any b A' s.1 c' s W R hB hb

theorem fine_step {s : ScM.Rs} (h : Gr.By s.1) : FineSt (oStep s).1 := by
  obtain ⟨⟨h1, h2⟩, h3, h4⟩ := oStep_like h
  exact ⟨⟨by unfold maxLen; omega, by unfold maxLen; omega⟩, h3, h4⟩

/-- Steps that lie above a place. -/
def SlUp (H : Nat) (w : World) (A : Option Addr) (l : List St) (c : Nat) : Prop := RG.SlG KSt (fun k => H ≤ k) w A l c ∧ ∀ a, A = some a → H ≤ a.block
theorem SlUp.st {H : Nat} {w : World} {A : Option Addr} {l : List St} {c : Nat} (h : SlUp H w A l c) : SlSt w A l c := RG.SlG.mono h.1 fun _ _ _ => trivial
theorem SlUp.grown {H b : Nat} {w w' : World} {A : Option Addr} {l : List St} {c : Nat} (h : SlUp H w A l c) (hg : w.grownBy w' (some b)) (hb : b < H) : SlUp H w' A l c :=
  ⟨RG.SlG.grown h.1 hg (fun a ha e => by have := h.2 a ha; omega) (fun k hk e => by omega), h.2⟩
theorem SlUp.kept {H : Nat} {w w' : World} {A : Option Addr} {l : List St} {c : Nat} (h : SlUp H w A l c) (hb : Below w.heap.size w w') : SlUp H w' A l c := ⟨RG.SlG.kept h.1 hb, h.2⟩
theorem slUp_none (H : Nat) (w : World) : SlUp H w none [] 0 := ⟨RG.slG_none _ _ _, fun a ha => by cases ha⟩

set_option maxRecDepth 100000 in
set_option maxHeartbeats 8000000 in
theorem steps_any (b : Nat) (A : Option Addr) (xs : List Int) (c : Nat) (s : ScM.Rs) (w : World) (R : Rdd b A c xs w s w) (hx : Bytes w b A xs c) (hb : b < w.heap.size) :
    Calls Tryz.prog 54 #[.pointer (some ⟨b, 0, none⟩), .int .u64 4, .func (.func 55) #[.pointer (some ⟨b, 0, none⟩)] #[]] w fun e w' =>
      (∃ A1 c1, e = .returned (.slice A1 (several oStep 4 s).1.length c1) ∧ SlUp w.heap.size w' A1 (several oStep 4 s).1 c1) ∧ Rdd b A c xs w (several oStep 4 s).2 w' := by
  have ht := takeNum_acc R hx
  have hby0 := rdr_num.bytes (rdd_by R hx)
  have hsv : several oStep 4 s = if (oNum s).1 ≤ 4 then reps oStep (oNum s).1 (oNum s).2 else ([], ((oNum s).2.1, true)) := rfl
  rw [hsv]
  clear hsv
  obtain ⟨⟨n, ys, s1⟩, hr⟩ : ∃ r, r = oNum s := ⟨_, rfl⟩
  rw [← hr] at ht hby0 ⊢
  simp only at ht hby0 ⊢
  have HT := Lib.hid ht
  clear ht hr
  by_cases hn : n ≤ 4
  rotate_left
  · rw [if_neg hn]
    have g1 : decide ((4 : Int) < (n : Int)) = true := by rw [decide_eq_true_iff]; omega
    have g1' : decide (4 < n) = true := by rw [decide_eq_true_iff]; omega
    clear hn R hx hby0
    go_enter Tryz.func54, Tryz.ntmps54
    go_wp2_with fail
    refine HT.out.mono ?_
    rintro e w1 ⟨rfl, hrd, _⟩
    have HRd := Lib.hid hrd
    obtain ⟨_, A1, c1, ⟨⟨p0, p1⟩, p2, p3⟩, _⟩ := hrd
    go_wp2_with fail
    go_ret
    exact ⟨⟨none, 0, rfl, slUp_none _ _⟩, rdd_short HRd.out true⟩
  rw [if_pos hn]
  have g1 : decide ((4 : Int) < (n : Int)) = false := by rw [decide_eq_false_iff_not]; omega
  have g1' : decide (4 < n) = false := by rw [decide_eq_false_iff_not]; omega
  obtain ⟨Q, hQ⟩ : ∃ Q : Nat → List St × ScM.Rs, Q = fun j => reps oStep j (ys, s1) := ⟨_, rfl⟩
  have hQ0 : Q 0 = ([], (ys, s1)) := by rw [hQ]; rfl
  have hQs : ∀ j, Q (j + 1) = ((Q j).1 ++ [(oStep (Q j).2).1], (oStep (Q j).2).2) := fun j => by rw [hQ]; rfl
  have hQb : ∀ j, Gr.By (Q j).2.1 := fun j => by rw [hQ]; exact rdr_step.r_by j hby0
  have hQl : ∀ j, (Q j).1.length = j := fun j => by rw [hQ]; exact reps_len _ _
  rw [show reps oStep n (ys, s1) = Q n from by rw [hQ]]
  have HX := Lib.hid hx
  have HQ0 := Lib.hid hQ0
  have HQs := Lib.hid hQs
  have HQb := Lib.hid hQb
  have HQl := Lib.hid hQl
  clear hQ hQ0 hQs hQb hQl hx R hby0
  go_enter Tryz.func54, Tryz.ntmps54
  go_wp2_with fail
  refine HT.out.mono ?_
  rintro e w1 ⟨rfl, hrd, _⟩
  have HRd := Lib.hid hrd
  clear hrd HT
  go_wp2_with fail
  go_loopw [8, 18] (fun u i wr => ∃ (j : Nat) (vs : List Value), i = .int .u64 (j : Int) ∧ j ≤ n ∧ wr.ownsRow w.heap.size 47 7 u j vs ∧ RG.Elems KSt (fun k => w.heap.size ≤ k ∧ ne u k) wr (Q j).1 vs ∧ Rdd b A c xs w (Q j).2 wr) (fun _ i _ => n - (intOf i).toNat)
  case atStart => exact ⟨0, [], rfl, Nat.zero_le _, World.ownsRow_nil _ _ _ _, by rw [HQ0.out]; rfl, by rw [HQ0.out]; exact HRd.out⟩
  case round =>
    obtain ⟨j, vs, rfl, hj, hown, hel, hrd⟩ := hrel
    have HO := Lib.hid hown
    have HE := Lib.hid hel
    have HR := Lib.hid hrd
    have hzr := hrd.1.size
    clear hown hel hrd HRd
    by_cases hjn : j < n
    · have hone := step_acc HR.out HX.out (Nat.lt_of_lt_of_le hb hzr)
      have hfin := fine_step (HQb.out j)
      have hs := HQs.out j
      obtain ⟨⟨l, q⟩, hq⟩ : ∃ r, r = Q j := ⟨_, rfl⟩
      rw [← hq] at hone hfin hs HE
      simp only at hone hfin hs HE
      obtain ⟨⟨x, q2⟩, hq2⟩ : ∃ r, r = oStep q := ⟨_, rfl⟩
      rw [← hq2] at hone hfin hs
      simp only at hone hfin hs
      have HOne := Lib.hid hone
      have HS := Lib.hid hs
      have HFin := Lib.hid hfin
      clear hone hs hq hq2 HR hfin
      go_wp2_with fail
      refine HOne.out.mono ?_
      rintro e w3 ⟨⟨A1, c1, B1, d1, rfl, hs1, ht1, hf1, hf2⟩, hr3, hg3⟩
      have ha4 := (Below.refl w3.heap.size w3).alloc (Nat.le_refl _) (.cells #[.string x.s, .slice A1 x.f.length c1, .int .i64 x.lo, .int .i64 x.hi, .bool x.g, .string x.t, .slice B1 x.h.length d1] 47)
      have hrel : KSt.rel (fun k => w.heap.size ≤ k ∧ ne u8 k) w3 x (encSt x A1 c1 B1 d1) := ⟨A1, c1, B1, d1, rfl, hs1, ht1, HFin.out,
        fun _ a ha => ⟨Nat.le_trans hzr (hf1 a ha), fun e => by have h1 := (HO.out.lt _ e.symm).2; have h2 := hf1 a ha; omega⟩,
        fun _ a ha => ⟨Nat.le_trans hzr (hf2 a ha), fun e => by have h1 := (HO.out.lt _ e.symm).2; have h2 := hf2 a ha; omega⟩⟩
      have hnew := RG.elem_new w3 47 x (encSt x A1 c1 B1 d1) hrel
      have HRow := Lib.hid hnew.1
      have HNew := Lib.hid hnew.2
      have HO4 := Lib.hid (RegA.own_below (HO.out.kept hg3 (Or.inr (fun e => by have := (HO.out.lt _ e).1; omega))) ha4)
      have hel3 : RG.Elems KSt (fun k => w.heap.size ≤ k ∧ ne u8 k) w3 l vs := HE.out.map fun _ _ h => KSt.grown h hg3 (fun k hk e => by injection e with e; omega)
      have HE4 := Lib.hid (hel3.map (w' := w3.alloc (.cells #[.string x.s, .slice A1 x.f.length c1, .int .i64 x.lo, .int .i64 x.hi, .bool x.g, .string x.t, .slice B1 x.h.length d1] 47)) (q := fun k => w.heap.size ≤ k ∧ ne u8 k) fun _ _ h => KSt.kept h ha4)
      have HR4 := Lib.hid (rdd_below hr3 ha4)
      have hz4 : w.heap.size ≤ (w3.alloc (.cells #[.string x.s, .slice A1 x.f.length c1, .int .i64 x.lo, .int .i64 x.hi, .bool x.g, .string x.t, .slice B1 x.h.length d1] 47)).heap.size := Nat.le_trans hr3.1.size ha4.size
      clear hr3 hg3 ha4 HOne HO HE hs1 ht1 hf1 hf2 hrel hnew hel3 HFin
      unfold agSt
      unfold encSt at HRow HNew
      go_wp2_with (at_builtin; refine RG.Ty.wp_append (K := KSt) tySt (fun k => w.heap.size ≤ k) rfl (.tmp 20) (.tmp 23) rfl w.heap.size _ j vs l rfl HO4.out HE4.out (some ⟨w3.heap.size, 0, none⟩) 1 1 _ [x] rfl rfl HRow.out HNew.out (fun h => by cases h) (by omega) hz4 ?_; intro u5 w5 hown5 hel5 hgrow5; refine pause ?_)
      have HR5 := Lib.hid (rdd_own HR4.out hgrow5 (fun q hq => (HO4.out.lt q hq).1) hb)
      have HO5 := Lib.hid hown5
      have HE5 := Lib.hid hel5
      clear hown5 hgrow5 hel5
      unfold Pause
      go_wp2_with fail
      go_roundw
      case rel =>
        refine ⟨j + 1, _, by go_num, by omega, HO5.out, ?_, ?_⟩
        · rw [HS.out]
          exact HE5.out
        · rw [HS.out]
          exact HR5.out
      case measure => simp [intOf]; omega
    · obtain rfl : j = n := by omega
      obtain ⟨A1, c1, hu, hl1, hsl, hfar⟩ := RG.own_slG (K := KSt) HO.out HE.out (by decide)
      have HUp := Lib.hid (show SlUp w.heap.size wr A1 (Q j).1 c1 from ⟨RG.SlG.mono hsl fun _ _ h => h.1, fun a ha => (hfar a ha).2.1⟩)
      rw [HQl.out j] at hu
      subst hu
      clear hl1 hsl hfar HO HE
      go_wp2_with fail
      go_ret
      exact ⟨⟨A1, c1, by rw [HQl.out j]; rfl, HUp.out⟩, HR.out⟩
end Go.Proofs.YtbmdkibmfkmjoaaGreat.Qy

namespace Go.Proofs.YtbmdkibmfkmjoaaGreat.Sc
open Go.RowKit Go.Proofs.YtbmdkibmfkmjoaaGreat.BM Go.Proofs.YtbmdkibmfkmjoaaGreat.VaM Go.Proofs.YtbmdkibmfkmjoaaGreat.Va Go.Proofs.YtbmdkibmfkmjoaaGreat.ScM

theorem letter_any (c : Int) (w : World) : Calls Tryz.prog 93 #[.int .i32 c] w fun e w' => e = .returned (.bool (smallB c)) ∧ w = w' := by
  by_cases h1 : 97 ≤ c <;> by_cases h2 : c ≤ 122
  all_goals
    go_enter Tryz.func93, Tryz.ntmps93
    go_wp2_with fail
    go_ret
    exact ⟨ret_v (by simp [smallB, h1, h2]), rfl⟩

theorem beh_any (c : Int) (w : World) : Calls Tryz.prog 94 #[.int .i32 c] w fun e w' => e = .returned (.bool (behB c)) ∧ w = w' := by
  by_cases h0 : c = 95
  · subst h0
    go_enter Tryz.func94, Tryz.ntmps94
    go_wp2_with fail
    go_ret
    exact ⟨ret_v (by simp [behB]), rfl⟩
  · have hb : (c == 95) = false := by simpa using h0
    by_cases h1 : 48 ≤ c <;> by_cases h2 : c ≤ 57
    all_goals
      go_enter Tryz.func94, Tryz.ntmps94
      go_wp2_with fail
      go_ret
      exact ⟨ret_v (by simp [behB, h0, h1, h2]), rfl⟩

/-- A sign of more bytes than one. -/
theorem high_no {x : Int} (h : 128 ≤ x) : smallB x = false ∧ behB x = false := by
  have h1 : ¬ x ≤ 122 := by omega
  have h2 : ¬ x ≤ 57 := by omega
  have h3 : ¬ x = 95 := by omega
  simp [smallB, behB, h1, h2, h3]

theorem byte_at (s : ByteArray) (pos : Nat) (h : pos < s.size) : (bl s).getD pos 0 = ((s[pos]'h).toNat : Int) := by
  have hl : pos < (bl s).length := by rw [bl_len]; exact h
  rw [List.getD_eq_getElem?_getD, List.getElem?_eq_getElem hl, Option.getD_some]
  simp only [bl, List.getElem_map, Array.getElem_toList]
  rfl

set_option maxRecDepth 100000 in
theorem Name_any (s : ByteArray) (w : World) (hs : s.size ≤ maxLen) : Calls Tryz.prog 66 #[.string s] w fun e w' => e = .returned (.bool (decide (Nm s))) ∧ Below w.heap.size w w' := by
  unfold maxLen at hs
  by_cases h12 : s.size ≤ 12
  · go_enter Tryz.func66, Tryz.ntmps66
    go_wp2_with fail
    go_loopw [10] (fun _ wr => ∃ pos : Nat, wr = w.iter s pos ∧ pos ≤ s.size ∧ okPre (bl s) pos) (fun _ wr => s.size - wr.iterPos w.heap.size)
    case atStart => exact ⟨0, rfl, Nat.zero_le _, fun j hj => absurd hj (Nat.not_lt_zero j)⟩
    case round =>
      obtain ⟨pos, rfl, hpos, hpre⟩ := hrel
      have HPre := Lib.hid hpre
      clear hpre
      by_cases hp : pos < s.size
      · obtain ⟨x, hx⟩ : ∃ x, x = (bl s).getD pos 0 := ⟨_, rfl⟩
        have hxb := byte_at s pos hp
        rw [← hx] at hxb
        have no : smallB x = false → (pos = 0 ∨ behB x = false) → ¬ Nm s := fun h1 h2 hn => by
          have h := hn.2.2 pos (by rw [bl_len]; exact hp)
          unfold okAt at h
          rw [← hx, h1] at h
          rcases h with h | ⟨h3, h4⟩
          · cases h
          · rcases h2 with h2 | h2
            · exact h3 h2
            · rw [h2] at h4
              cases h4
        have yes : (smallB x = true ∨ (pos ≠ 0 ∧ behB x = true)) → okPre (bl s) (pos + 1) := fun h => okPre_succ HPre.out (by unfold okAt; rw [← hx]; exact h)
        have HNo := Lib.hid no
        have HYes := Lib.hid yes
        clear no yes
        by_cases ha : (s[pos]'hp).toNat < 128
        · have hnx : ∀ ty, (Instr.next (.pointer (some ⟨w.heap.size, 0, none⟩)) true ty).run Tryz.prog (w.iter s pos) = .ok (.tuple #[.bool true, .int .i64 pos, .int .i32 x]) (w.iter s (pos + 1)) := fun ty => by
            rw [hxb]
            exact run_next_ascii w s pos ty hp ha
          have HL := Lib.hid (fun W => letter_any x W)
          have HBh := Lib.hid (fun W => beh_any x W)
          obtain ⟨S, hS⟩ : ∃ S, S = smallB x := ⟨_, rfl⟩
          obtain ⟨T, hT⟩ : ∃ T, T = behB x := ⟨_, rfl⟩
          rw [← hS] at HL HNo HYes
          rw [← hT] at HBh HNo HYes
          clear hx hxb hS hT ha
          go_wp2_with fail
          refine (HL.out _).mono ?_
          rintro e w1 ⟨rfl, rfl⟩
          cases S
          · by_cases h0 : pos = 0
            · subst h0
              go_wp2_with fail
              go_ret
              exact ⟨ret_v (x := .bool false) (by rw [decide_eq_false (HNo.out (by trivial) (Or.inl (by trivial)))]), (Below.refl _ _).alloc (Nat.le_refl _) _⟩
            · have hz : ((pos : Int) == 0) = false := by rw [beq_eq_false_iff_ne]; omega
              go_wp2_with fail
              refine (HBh.out _).mono ?_
              rintro e w1 ⟨rfl, rfl⟩
              cases T
              · go_wp2_with fail
                go_ret
                exact ⟨ret_v (x := .bool false) (by rw [decide_eq_false (HNo.out (by trivial) (Or.inr (by trivial)))]), (Below.refl _ _).alloc (Nat.le_refl _) _⟩
              · go_wp2_with fail
                go_roundw
                case rel => exact ⟨pos + 1, rfl, by omega, HYes.out (Or.inr ⟨h0, by trivial⟩)⟩
                case measure => simp; omega
          · go_wp2_with fail
            go_roundw
            case rel => exact ⟨pos + 1, rfl, by omega, HYes.out (Or.inl (by trivial))⟩
            case measure => simp; omega
        · have hdh := decode_high s pos hp (by omega)
          have hxh := high_no (x := x) (by omega)
          have hnx : ∀ ty, (Instr.next (.pointer (some ⟨w.heap.size, 0, none⟩)) true ty).run Tryz.prog (w.iter s pos) = _ := fun ty => run_next_any w s pos ty hp
          obtain ⟨d, hd⟩ : ∃ d, d = (Utf8.decode s pos).1 := ⟨_, rfl⟩
          obtain ⟨e, he⟩ : ∃ e, e = (Utf8.decode s pos).2 := ⟨_, rfl⟩
          simp only [← hd, ← he] at hnx hdh
          have hdn := high_no (x := (d : Int)) (by omega)
          have HL := Lib.hid (fun W => letter_any (d : Int) W)
          have HBh := Lib.hid (fun W => beh_any (d : Int) W)
          rw [hdn.1] at HL
          rw [hdn.2] at HBh
          have HX := Lib.hid hxh
          clear hx hxb ha hdh hxh hdn hd he
          go_wp2_with fail
          refine (HL.out _).mono ?_
          rintro e w1 ⟨rfl, rfl⟩
          by_cases h0 : pos = 0
          · subst h0
            go_wp2_with fail
            go_ret
            exact ⟨ret_v (x := .bool false) (by rw [decide_eq_false (HNo.out HX.out.1 (Or.inl (by trivial)))]), (Below.refl _ _).alloc (Nat.le_refl _) _⟩
          · have hz : ((pos : Int) == 0) = false := by rw [beq_eq_false_iff_ne]; omega
            go_wp2_with fail
            refine (HBh.out _).mono ?_
            rintro e w1 ⟨rfl, rfl⟩
            go_wp2_with fail
            go_ret
            exact ⟨ret_v (x := .bool false) (by rw [decide_eq_false (HNo.out HX.out.1 (Or.inr HX.out.2))]), (Below.refl _ _).alloc (Nat.le_refl _) _⟩
      · obtain rfl : pos = s.size := by omega
        have hnx : ∀ ty, (Instr.next (.pointer (some ⟨w.heap.size, 0, none⟩)) true ty).run Tryz.prog (w.iter s s.size) = _ := fun ty => run_next_end w s s.size ty hp
        by_cases h0 : s.size = 0
        · rw [h0] at hnx
          obtain rfl : s = ⟨#[]⟩ := size_e0.1 h0
          have he : (ByteArray.mk #[]).toList.isEmpty = true := by rw [ByteArray.toList_eq]; rfl
          go_wp2_with fail
          go_ret
          exact ⟨ret_v (x := .bool false) (by rw [decide_eq_false (fun h => by have := (nm_size h).1; omega)]), (Below.refl _ _).alloc (Nat.le_refl _) _⟩
        · have hse := str_e0 h0
          have HN := Lib.hid (show Nm s from ⟨by rw [bl_len]; omega, by rw [bl_len]; omega, by rw [bl_len]; exact HPre.out⟩)
          go_wp2_with fail
          go_ret
          exact ⟨ret_v (x := .bool true) (by rw [decide_eq_true HN.out]), (Below.refl _ _).alloc (Nat.le_refl _) _⟩
  · have HN := Lib.hid (show ¬ Nm s from fun h => by have := (nm_size h).2; omega)
    go_enter Tryz.func66, Tryz.ntmps66
    go_wp2_with fail
    go_ret
    exact ⟨ret_v (x := .bool false) (by rw [decide_eq_false HN.out]), Below.refl _ _⟩

end Go.Proofs.YtbmdkibmfkmjoaaGreat.Sc

namespace Go.Proofs.YtbmdkibmfkmjoaaGreat.Ex
open Go.RowKit Go.Proofs.YtbmdkibmfkmjoaaGreat.BM Go.Proofs.YtbmdkibmfkmjoaaGreat.LM Go.Proofs.YtbmdkibmfkmjoaaGreat.LeM Go.Proofs.YtbmdkibmfkmjoaaGreat.ExM Go.Proofs.YtbmdkibmfkmjoaaGreat.EvM
open Go.Proofs.YtbmdkibmfkmjoaaGreat.VaM (putV)

/-- What Put answers. -/
def Putted (l : List O) (w : World) : Ending → World → Prop := fun r w' => ∃ A c, r = .returned (.tuple #[.slice A (ExM.pv l).length c, .bool (decide (ExM.May l))]) ∧ SlB w' A (ExM.pv l) c ∧ Below w.heap.size w w'

/-- The same, and where the bytes lie. -/
def PuttedF (l : List O) (w : World) : Ending → World → Prop := fun r w' => ∃ A c, r = .returned (.tuple #[.slice A (ExM.pv l).length c, .bool (decide (ExM.May l))]) ∧ SlB w' A (ExM.pv l) c ∧ (∀ a, A = some a → w.heap.size ≤ a.block ∧ a.block < w'.heap.size) ∧ Below w.heap.size w w'
theorem putted_of {l : List O} {w : World} {r : Ending} {w' : World} (h : PuttedF l w r w') : Putted l w r w' := by
  obtain ⟨A, c, h1, h2, _, h4⟩ := h
  exact ⟨A, c, h1, h2, h4⟩

theorem take_snocO {l : List O} {j : Nat} (hj : j < l.length) : l.take (j + 1) = l.take j ++ [l.getD j o0] := by
  rw [List.take_succ_eq_append_getElem hj]
  simp [List.getD_eq_getElem?_getD, hj]

theorem pO_push {o : O} (h : o.c = 0) : pO o = o.c :: putV o.v := by rw [pO, if_pos h]
theorem pO_load {o : O} (h : o.c = 1) : pO o = [o.c, o.a] := by rw [pO, if_neg (by omega), if_pos h]
theorem pO_none {o : O} (h0 : o.c ≠ 0) (h1 : o.c ≠ 1) : pO o = [o.c] := by rw [pO, if_neg h0, if_neg h1]
end Go.Proofs.YtbmdkibmfkmjoaaGreat.Ex

namespace Go.Proofs.YtbmdkibmfkmjoaaGreat.Va
open Go.RowKit Go.Proofs.YtbmdkibmfkmjoaaGreat.BM Go.Proofs.YtbmdkibmfkmjoaaGreat.LM Go.Proofs.YtbmdkibmfkmjoaaGreat.LeM Go.Proofs.YtbmdkibmfkmjoaaGreat.LeZ Go.Proofs.YtbmdkibmfkmjoaaGreat.VaM

def Putted (v : V) (w : World) : Ending → World → Prop := fun e w' => ∃ A c, e = .returned (.tuple #[.slice A (pv v).length c, .bool (decide (May v))]) ∧ SlB w' A (pv v) c ∧ (∀ a, A = some a → w.heap.size ≤ a.block) ∧ Below w.heap.size w w'

theorem putted_v {v : V} {ys : List Int} (hm : May v) (ht : pv v = ys) (A : Option Addr) (c : Nat) : Value.tuple #[.slice A (pv v).length c, .bool (decide (May v))] = .tuple #[.slice A ys.length c, .bool true] := by rw [ht, decide_eq_true hm]

theorem putted_n {v : V} (hm : ¬ May v) : Value.tuple #[.slice none (pv v).length 0, .bool (decide (May v))] = .tuple #[.slice none 0 0, .bool false] := by rw [decide_eq_false hm, pv, if_neg hm]; rfl

set_option maxRecDepth 100000 in
set_option maxHeartbeats 1000000 in
theorem Put_any (k n : Int) (s : ByteArray) (w : World) (hr : Rng ⟨k, n, s⟩) :
    Calls Tryz.prog 110 #[.agg #[.int .i64 k, .int .i64 n, .string s]] w (Putted ⟨k, n, s⟩ w) := by
  have HB := Lib.hid ((Below.refl w.heap.size w).alloc (Nat.le_refl _) (.cells #[.int .i64 k, .int .i64 n, .string s] 78))
  have HX := Lib.hid (bx_new w (.int .i64 k) (.int .i64 n) (.string s))
  have HT := Lib.hid (fun W => tail_any ⟨k, n, s⟩ W hr)
  have HR := Lib.hid hr
  clear hr
  go_enter Tryz.func110, Tryz.ntmps110
  go_wp2_with fail
  refine (held_any k n s _).mono ?_
  rintro e w1 ⟨rfl, hb1⟩
  have HB1 := Lib.hid (bt HB.out hb1)
  have HX1 := Lib.hid (HX.out.kept hb1)
  obtain ⟨h, hh⟩ : ∃ h, h = heldV ⟨k, n, s⟩ := ⟨_, rfl⟩
  rw [← hh] at HT ⊢
  clear hb1 HB HX hh
  go_wp2_with fail
  refine (HT.out _).mono ?_
  rintro e w2 ⟨A, c, rfl, h2, hb2⟩
  have HB2 := Lib.hid (bt HB1.out hb2)
  have hx2 := HX1.out.kept hb2
  have HS := Lib.hid h2
  clear hb2 HB1 HX1 h2 HT
  by_cases hm : May ⟨k, n, s⟩
  · have ht : tl ⟨k, n, s⟩ = putL (num ⟨k, n, s⟩) ++ bl s := by rw [tl, if_pos hm]
    have hp : pv ⟨k, n, s⟩ = [k] ++ tl ⟨k, n, s⟩ := by rw [pv, if_pos hm, ht]; rfl
    have hk := may_kind hm
    simp only at hk
    have hl : (tl ⟨k, n, s⟩).length ≤ 60 := by
      have := putV_len hm HR.out
      rw [show putV ⟨k, n, s⟩ = [k] ++ tl ⟨k, n, s⟩ from by rw [ht]; rfl, List.length_append] at this
      omega
    obtain ⟨t, hT⟩ : ∃ t, t = tl ⟨k, n, s⟩ := ⟨_, rfl⟩
    rw [← hT] at hl hp HS ⊢
    obtain ⟨m, hM⟩ : ∃ m, m = t.length := ⟨_, rfl⟩
    rw [← hM] at hl ⊢
    have HM := Lib.hid hM
    have HP := Lib.hid hp
    have HMay := Lib.hid hm
    rw [decide_eq_true hm]
    have hcap := HS.out.2.2.1
    have HC := Lib.hid hcap
    obtain ⟨⟨c0, c1, c2⟩, _⟩ := hx2
    have hz2 := HB2.out.size
    have hown0 := World.ownsRow_lit (base := w.heap.size) (e := 5) (size := 1) w2 #[.int .u8 k] 1 hz2 (by decide) rfl
    have HO := Lib.hid hown0
    have HS' := Lib.hid (HS.out.kept ((Below.refl _ _).alloc (Nat.le_refl _) (.cells #[.int .u8 k] 5)))
    clear hm hp hM hT ht hcap c1 c2 hown0
    go_wp2_with (at_builtin; refine wp_append_b rfl (.tmp 17) (.tmp 18) rfl w.heap.size _ 1 [k] rfl HO.out A m c t rfl HM.out.symm HS'.out.1 HC.out (by omega) (by simp; omega) ?_; intro v1 w3 hown3 hgrow3; refine pause ?_)
    have hB3 : Below w.heap.size w w3 := (HB2.out.alloc (HB2.out.size) _).grown hgrow3 (by simp; omega) (fun q hq => (HO.out.lt q hq).1)
    rw [show [k] ++ t = pv ⟨k, n, s⟩ from HP.out.symm] at hown3
    obtain ⟨A', c', rfl, hl3, h3, h4⟩ := own_slB hown3 (pv_bytes _)
    have hz3 := hB3.size
    have HS3 := Lib.hid h3
    have HB3 := Lib.hid hB3
    have HL3 := Lib.hid hl3
    have H4 := Lib.hid (fun a ha => (h4 a ha).2.1)
    clear h3 hB3 hown3 hgrow3 h4 hl3
    unfold Pause
    go_wp2_with fail
    go_ret2
    exact ⟨A', c', ret_v (putted_v HMay.out rfl A' c'), HS3.out, H4.out, HB3.out⟩
  · rw [decide_eq_false hm]
    have HMay := Lib.hid hm
    have hp : pv ⟨k, n, s⟩ = [] := by rw [pv, if_neg hm]
    have HP := Lib.hid hp
    clear hm hp hx2
    go_wp2_with fail
    go_ret2
    exact ⟨none, 0, ret_v (putted_n HMay.out), by rw [HP.out]; exact slB_none _, (fun a ha => by cases ha), HB2.out⟩
end Go.Proofs.YtbmdkibmfkmjoaaGreat.Va

namespace Go.Proofs.YtbmdkibmfkmjoaaGreat.Ex
open Go.RowKit Go.Proofs.YtbmdkibmfkmjoaaGreat.BM Go.Proofs.YtbmdkibmfkmjoaaGreat.LM Go.Proofs.YtbmdkibmfkmjoaaGreat.LeM Go.Proofs.YtbmdkibmfkmjoaaGreat.ExM Go.Proofs.YtbmdkibmfkmjoaaGreat.EvM
open Go.Proofs.YtbmdkibmfkmjoaaGreat.VaM (V Rng putV putV_len putV_bytes)
open Go.Proofs.YtbmdkibmfkmjoaaGreat.Va (PutSl Put_sl ret_v)

/-- What stands behind the byte of the code. -/
def tlO (o : O) : List Int := if o.c = 0 then putV o.v else if o.c = 1 then [o.a] else []
theorem pO_tl (o : O) : pO o = o.c :: tlO o := rfl
theorem tlO_len {o : O} (h : Ok o) (hr : Rng o.v) : (tlO o).length ≤ 51 := by
  have := (pO_len h hr).2
  rw [pO_tl, List.length_cons] at this
  omega

set_option maxRecDepth 100000 in
set_option maxHeartbeats 4000000 in
theorem behindCode_any (o : O) (w : World) (ho : Ok o) (hr : Rng o.v) : Calls Tryz.prog 99 #[agO o] w fun e w' => ∃ A c, e = .returned (.slice A (tlO o).length c) ∧ SlB w' A (tlO o) c ∧ Below w.heap.size w w' := by
  obtain ⟨c, a, ⟨k, n, s⟩⟩ := o
  obtain ⟨k1, k2, k3, k4, _, hvm, _⟩ := ho
  simp only at k1 k2 k3 k4 hvm hr
  obtain ⟨o0, o1, o2, o3, o4⟩ := (bxO_new w ⟨c, a, ⟨k, n, s⟩⟩).cells
  simp only at o0 o1 o2 o3 o4
  have ha := (Below.refl w.heap.size w).alloc (Nat.le_refl _) (.cells #[.int .i64 c, .int .i64 a, .int .i64 k, .int .i64 n, .string s] 80)
  unfold agO
  simp only
  by_cases h0 : c = 0
  · subst h0
    have ht : tlO ⟨0, a, ⟨k, n, s⟩⟩ = putV ⟨k, n, s⟩ := rfl
    rw [ht]
    have hput := fun W => Va.Put_any k n s W hr
    have hpp := (show VaM.pv ⟨k, n, s⟩ = putV ⟨k, n, s⟩ from by rw [VaM.pv, if_pos hvm])
    unfold Va.Putted at hput
    rw [hpp, decide_eq_true hvm] at hput
    obtain ⟨ys, hys⟩ : ∃ y, y = putV ⟨k, n, s⟩ := ⟨_, rfl⟩
    rw [← hys] at hput ⊢
    obtain ⟨m, hm⟩ : ∃ m, m = ys.length := ⟨_, rfl⟩
    rw [← hm] at hput ⊢
    have HP := Lib.hid hput
    have HB := Lib.hid ha
    clear hput hpp hys hm ht ha hvm hr k1 k2
    go_enter Tryz.func99, Tryz.ntmps99
    go_wp2_with fail
    refine (HP.out _).mono ?_
    rintro e w1 ⟨A, d, rfl, hs, _, hb⟩
    go_wp2_with fail
    go_ret
    exact ⟨A, d, rfl, hs, bt HB.out hb⟩
  · have g0 : (c == 0) = false := by simpa using h0
    by_cases h1 : c = 1
    · subst h1
      have ht : tlO ⟨1, a, ⟨k, n, s⟩⟩ = [a] := rfl
      rw [ht]
      have ha256 : a % 256 = a := by omega
      obtain ⟨w1, hw1⟩ : ∃ w1, w1 = w.alloc (.cells #[.int .i64 1, .int .i64 a, .int .i64 k, .int .i64 n, .string s] 80) := ⟨_, rfl⟩
      have hsz : w1.heap.size = w.heap.size + 1 := by rw [hw1]; simp
      have hnew := isB_new w1 [a] (by intro x hx; simp only [List.mem_singleton] at hx; omega)
      have hb2 := (Below.refl w1.heap.size w1).alloc (Nat.le_refl _) (.cells #[.int .u8 a] 5)
      rw [← hw1] at ha
      have hbb := bt ha hb2
      rw [hsz] at hnew
      rw [hw1] at hnew hbb
      have HN := Lib.hid hnew
      have HB := Lib.hid hbb
      clear ht hvm hr k1 k2 h0 hw1 hsz hnew hb2 ha hbb w1
      go_enter Tryz.func99, Tryz.ntmps99
      go_wp2_with fail
      go_ret
      exact ⟨some ⟨w.heap.size + 1, 0, none⟩, 1, rfl, ⟨HN.out, Nat.le_refl _, (fun h => by cases h), by decide⟩, HB.out⟩
    · have g1 : (c == 1) = false := by simpa using h1
      have ht : tlO ⟨c, a, ⟨k, n, s⟩⟩ = [] := by unfold tlO; rw [if_neg h0, if_neg h1]
      rw [ht]
      have HB := Lib.hid ha
      clear ht hvm hr k1 k2 h0 h1 ha
      go_enter Tryz.func99, Tryz.ntmps99
      go_wp2_with fail
      go_ret
      exact ⟨none, 0, rfl, slB_none _, HB.out⟩

set_option maxRecDepth 100000 in
set_option maxHeartbeats 8000000 in
theorem PutF_any (l : List O) (A : Option Addr) (c : Nat) (w : World) (hS : SlO w A l c) :
    Calls Tryz.prog 80 #[.slice A l.length c] w (PuttedF l w) := by
  have hm1 := may_own l A c w hS
  have hl := slO_len hS
  have HS := Lib.hid hS
  have hrn : ExM.Rngs l := hS.rngs
  by_cases hmay : ExM.May l
  · have HMay := Lib.hid hmay
    have hpv : ExM.pv l = pL l := by rw [ExM.pv, if_pos hmay]
    have hl12 := hmay.2
    have hok := fun x hx => hmay.ok (x := x) hx
    have hlen := fun j => (show (pOs (l.take j)).length ≤ 52 * 12 from Nat.le_trans (pOs_len (fun x hx => hok x (List.mem_of_mem_take hx)) (fun x hx => hrn x (List.mem_of_mem_take hx))) (Nat.mul_le_mul_left 52 (by rw [List.length_take]; omega)))
    rw [decide_eq_true hmay] at hm1
    have HPv := Lib.hid hpv
    have HOk := Lib.hid hok
    have HPl := Lib.hid (fun W => Put_sl l.length W (by omega))
    have hq3 := putL_len64 (n := l.length) (by omega)
    have HLe := Lib.hid hlen
    have HRn := Lib.hid hrn
    clear hpv hok hS hlen hrn hmay
    obtain ⟨P, hP⟩ : ∃ P, P = putL l.length := ⟨_, rfl⟩
    have HPre := Lib.hid hP
    obtain ⟨n, hn⟩ : ∃ n, n = l.length := ⟨_, rfl⟩
    rw [← hn] at hl hl12 hm1 HPl hq3 ⊢
    have HN := Lib.hid hn
    rw [← hn] at hP
    rw [← hP] at hq3
    have HPn := Lib.hid hP
    have HM1 := Lib.hid hm1
    clear hn hm1 hP
    go_enter Tryz.func80, Tryz.ntmps80
    go_wp2_with fail
    refine HM1.out.mono ?_
    rintro e w1 ⟨rfl, hb1⟩
    have HB1 := Lib.hid hb1
    clear hb1 HM1
    go_wp2_with fail
    refine (HPl.out w1).mono ?_
    rintro e w2 ⟨A2, c2, rfl, _, hown2, hb2⟩
    rw [← HPn.out] at hown2 ⊢
    have hsz : w.heap.size ≤ w1.heap.size := HB1.out.size
    have HO2 := Lib.hid hown2
    have HB2 := Lib.hid hb2
    clear hown2 hb2 HPl
    obtain ⟨m3, hm3⟩ : ∃ m, m = P.length := ⟨_, rfl⟩
    rw [← hm3] at HO2 hq3 ⊢
    have HM3 := Lib.hid hm3
    clear hm3
    go_wp2_with fail
    go_loopw [4, 16] (fun u i wr => ∃ (j k : Nat), i = .int .i64 j ∧ j ≤ n ∧ k = (P ++ pOs (l.take j)).length ∧ wr.ownsRow w1.heap.size 5 1 u k (cs (P ++ pOs (l.take j))) ∧ Below w1.heap.size w1 wr) (fun _ i _ => n - (intOf i).toNat)
    case atStart => exact ⟨0, m3, rfl, Nat.zero_le _, by simpa [pOs] using HM3.out, by simpa [pOs] using HO2.out, HB2.out⟩
    case round =>
      obtain ⟨j, k, rfl, hj, hk, hown, hbel⟩ := hrel
      have hk2 : k ≤ 700 := by
        rw [hk, List.length_append, ← HM3.out]
        have := HLe.out j
        omega
      have HO := Lib.hid hown
      have HK := Lib.hid hk
      have HBl2 := Lib.hid hbel
      clear hown hk hbel HO2 HB2
      by_cases hjn : j < n
      · obtain ⟨b, q, hix, hc, hfz⟩ := HS.out.at j (by rw [← HN.out]; exact hjn)
        have hfok := HOk.out _ (ExM.getD_mem (l := l) (i := j) (by rw [← HN.out]; exact hjn))
        have hsn := take_snocO (l := l) (j := j) (by rw [← HN.out]; exact hjn)
        obtain ⟨⟨fc, fa, fk, fn, fs⟩, hf⟩ : ∃ f, f = l.getD j o0 := ⟨_, rfl⟩
        rw [← hf] at hc hfok hsn hfz
        have hrg := hfz.2.1
        obtain ⟨c0, c1', c2', c3', c4'⟩ := hc wr (bt HB1.out HBl2.out)
        simp only at c0 c1' c2' c3' c4' hrg
        have hi := fun W => hix W n c hjn
        have hfok' := hfok
        obtain ⟨k1, k2, k3, k4, _, hvm, _⟩ := hfok
        simp only at k1 k2 k3 k4 hvm
        have HSn := Lib.hid hsn
        have hc256 : fc % 256 = fc := by omega
        have ha256 : fa % 256 = fa := by omega
        have HBc := Lib.hid (fun W => behindCode_any ⟨fc, fa, ⟨fk, fn, fs⟩⟩ W hfok' hrg)
        have hml := tlO_len (o := ⟨fc, fa, ⟨fk, fn, fs⟩⟩) hfok' hrg
        unfold agO at HBc
        simp only at HBc
        obtain ⟨m, hm⟩ : ∃ m, m = (tlO ⟨fc, fa, ⟨fk, fn, fs⟩⟩).length := ⟨_, rfl⟩
        rw [← hm] at HBc hml
        have HM := Lib.hid hm
        have ha1 := (Below.refl wr.heap.size wr).alloc (Nat.le_refl _) (.cells #[.int .i64 fc, .int .i64 fa, .int .i64 fk, .int .i64 fn, .string fs] 80)
        have hx1 := bxO_new wr ⟨fc, fa, ⟨fk, fn, fs⟩⟩
        obtain ⟨x0, x1, x2, x3, x4⟩ := hx1.cells
        simp only at x0 x1 x2 x3 x4 hx1
        obtain ⟨w2', hw2'⟩ : ∃ w2', w2' = wr.alloc (.cells #[.int .i64 fc, .int .i64 fa, .int .i64 fk, .int .i64 fn, .string fs] 80) := ⟨_, rfl⟩
        have hsz2 : w2'.heap.size = wr.heap.size + 1 := by rw [hw2']; simp
        rw [← hw2'] at ha1 hx1
        have ha2 := (Below.refl w2'.heap.size w2').alloc (Nat.le_refl _) (.cells #[.int .u8 fc] 5)
        have hnew := isB_new w2' [fc] (by intro x hx; simp only [List.mem_singleton] at hx; omega)
        have hx2 := hx1.kept ha2
        have ha3 := bt ha1 ha2
        rw [hsz2] at hnew
        rw [hw2'] at hnew ha3 hx2
        have HNew := Lib.hid hnew
        have HXo := Lib.hid hx2
        have HO3 := Lib.hid (RegA.own_below HO.out ha3)
        have HB3 := Lib.hid (bt HBl2.out ha3)
        have hz3 := HB3.out.size
        have HFar := Lib.hid (HO.out.lt)
        clear hix hf hsn ha1 ha2 ha3 hfz hc hx1 hx2 hnew hsz2 hw2' w2' hm
        go_wp2_with (at_builtin; refine wp_append_b rfl (.tmp 20) (.tmp 24) rfl w1.heap.size _ k _ rfl HO3.out (some ⟨wr.heap.size + 1, 0, none⟩) 1 1 [fc] rfl rfl HNew.out (fun h => by cases h) (by omega) hz3 ?_; intro u4 w4 hown4 hgrow4; refine pause ?_)
        have HB4 := Lib.hid (HB3.out.grown hgrow4 hz3 (fun q hq => (HO3.out.lt q hq).1))
        have HO4 := Lib.hid hown4
        have hx4 := RG.BxN.grown HXo.out hgrow4 (fun e => by have := (HFar.out _ e.symm).2; omega)
        obtain ⟨o0, o1, o2, o3, o4⟩ := (show BxO w4 wr.heap.size ⟨fc, fa, ⟨fk, fn, fs⟩⟩ from hx4).cells
        simp only at o0 o1 o2 o3 o4
        clear hown4 hgrow4 HO3 HB3 HNew c0 c1' c2' c3' c4' hx4 x0 x1 x2 x3 x4
        unfold Pause
        go_wp2_with fail
        refine (HBc.out _).mono ?_
        rintro e w5 ⟨A5, c5, rfl, hs5, hb5⟩
        have HO5 := Lib.hid (RegA.own_below HO4.out hb5)
        have HB5 := Lib.hid (bt HB4.out hb5)
        have HS5 := Lib.hid hs5
        have hz5 := HB5.out.size
        clear hs5 hb5 o0 o1 o2 o3 o4 HBc HO4
        go_wp2_with (at_builtin; refine wp_append_b rfl (.tmp 26) (.tmp 28) rfl w1.heap.size _ (k + 1) _ rfl HO5.out A5 m c5 (tlO ⟨fc, fa, ⟨fk, fn, fs⟩⟩) rfl HM.out.symm HS5.out.1 HS5.out.2.2.1 (by omega) hz5 ?_; intro u6 w6 hown6 hgrow6; refine pause ?_)
        have hB6 : Below w1.heap.size w1 w6 := HB5.out.grown hgrow6 hz5 (fun q hq => (HO5.out.lt q hq).1)
        have he6 : (P ++ pOs (l.take j) ++ [fc]) ++ tlO ⟨fc, fa, ⟨fk, fn, fs⟩⟩ = P ++ pOs (l.take (j + 1)) := by
          rw [HSn.out, pOs_snoc, pO_tl, List.append_assoc, List.append_assoc]
          rfl
        rw [he6] at hown6
        have hk6 : k + 1 + m = (P ++ pOs (l.take (j + 1))).length := by
          rw [← he6, List.length_append, List.length_append, ← HM.out, ← HK.out]
          rfl
        have HO6 := Lib.hid hown6
        have HB6 := Lib.hid hB6
        have HK6 := Lib.hid hk6
        clear hown6 hgrow6 hB6 he6 hk6
        unfold Pause
        go_wp2_with fail
        go_roundw
        case rel => exact ⟨j + 1, k + 1 + m, by go_num, by omega, HK6.out, HO6.out, HB6.out⟩
        case measure => simp [intOf]; omega
      · obtain rfl : j = n := by omega
        have hall : P ++ pOs (l.take j) = ExM.pv l := by
          rw [HPv.out, HN.out, List.take_length, HPre.out]
          rfl
        have hown := HO.out
        rw [hall] at hown
        obtain ⟨A5, c5, rfl, hl5, h5, h6⟩ := own_slB hown (ExM.pv_bytes _)
        have HS5 := Lib.hid h5
        have HD := Lib.hid (decide_eq_true HMay.out)
        have HFr := Lib.hid (fun a ha => ⟨Nat.le_trans hsz (h6 a ha).2.1, (h6 a ha).2.2⟩ : ∀ a, A5 = some a → w.heap.size ≤ a.block ∧ a.block < wr.heap.size)
        clear hall hown h5 h6 hl5
        go_wp2_with fail
        go_ret2
        exact ⟨A5, c5, ret_v (x := .tuple #[.slice A5 (ExM.pv l).length c5, .bool true]) (by rw [HD.out]), HS5.out, HFr.out, bt HB1.out HBl2.out⟩
  · have hpv : ExM.pv l = [] := by rw [ExM.pv, if_neg hmay]
    rw [decide_eq_false hmay] at hm1
    have HPv := Lib.hid hpv
    have HD := Lib.hid (decide_eq_false hmay)
    obtain ⟨n, hn⟩ : ∃ n, n = l.length := ⟨_, rfl⟩
    rw [← hn] at hm1 ⊢
    have HM1 := Lib.hid hm1
    clear hn hm1 hpv hmay hS hl hrn
    go_enter Tryz.func80, Tryz.ntmps80
    go_wp2_with fail
    refine HM1.out.mono ?_
    rintro e w1 ⟨rfl, hb1⟩
    have HB1 := Lib.hid hb1
    clear hb1 HM1
    go_wp2_with fail
    go_ret2
    exact ⟨none, 0, ret_v (by rw [HD.out, HPv.out]; rfl), by rw [HPv.out]; exact slB_none _, (fun a ha => by cases ha), HB1.out⟩

theorem Put_any (l : List O) (A : Option Addr) (c : Nat) (w : World) (hS : SlO w A l c) : Calls Tryz.prog 80 #[.slice A l.length c] w (Putted l w) := (PutF_any l A c w hS).mono fun _ _ h => putted_of h
end Go.Proofs.YtbmdkibmfkmjoaaGreat.Ex

namespace Go.Proofs.YtbmdkibmfkmjoaaGreat.Qy
open Go.RowKit Go.Proofs.YtbmdkibmfkmjoaaGreat.BM Go.Proofs.YtbmdkibmfkmjoaaGreat.LM Go.Proofs.YtbmdkibmfkmjoaaGreat.VaM Go.Proofs.YtbmdkibmfkmjoaaGreat.ExM Go.Proofs.YtbmdkibmfkmjoaaGreat.QyM
open Go.Proofs.YtbmdkibmfkmjoaaGreat.Ex (SlO slO_none slO_len)
open Go.Proofs.YtbmdkibmfkmjoaaGreat.Va (ret_v str_e0)
open Go.Proofs.YtbmdkibmfkmjoaaGreat.ScM (Nm)

theorem below_any (n e : Int) (w : World) : Calls Tryz.prog 78 #[.int .i64 n, .int .i64 e] w fun r w' => r = .returned (.bool (decide (0 ≤ n ∧ n < e))) ∧ w = w' := by
  obtain ⟨z1, g1⟩ : ∃ z, decide (0 ≤ n) = z := ⟨_, rfl⟩
  obtain ⟨z2, g2⟩ : ∃ z, decide (n < e) = z := ⟨_, rfl⟩
  rw [show decide (0 ≤ n ∧ n < e) = (z1 && z2) from by rw [← g1, ← g2, Bool.decide_and]]
  cases z1
  all_goals
    go_enter Tryz.func78, Tryz.ntmps78
    go_wp2_with fail
    go_ret
    exact ⟨rfl, rfl⟩

set_option maxRecDepth 100000 in
set_option maxHeartbeats 1000000 in
theorem mayAsk_any (s : ByteArray) (f : List O) (A : Option Addr) (c : Nat) (w : World) (hz : s.size ≤ maxLen) (hA : SlO w A f c) :
    Calls Tryz.prog 76 #[.string s, .slice A f.length c] w fun e w' => e = .returned (.bool (decide (ExM.May f ∧ Nm s))) ∧ Below w.heap.size w w' := by
  have hp := Ex.Put_any f A c w hA
  unfold Ex.Putted at hp
  have hn := fun W => Sc.Name_any s W hz
  obtain ⟨my, g1⟩ : ∃ b, decide (ExM.May f) = b := ⟨_, rfl⟩
  obtain ⟨nm, g2⟩ : ∃ b, decide (Nm s) = b := ⟨_, rfl⟩
  rw [show decide (ExM.May f ∧ Nm s) = (my && nm) from by rw [← g1, ← g2, Bool.decide_and]]
  simp only [g1] at hp
  simp only [g2] at hn
  obtain ⟨k, hk⟩ : ∃ k, k = (ExM.pv f).length := ⟨_, rfl⟩
  simp only [← hk] at hp
  obtain ⟨n, hn'⟩ : ∃ n, n = f.length := ⟨_, rfl⟩
  rw [← hn'] at hp ⊢
  have HP := Lib.hid hp
  have HN := Lib.hid hn
  clear hp hn hk hn' g1 g2 hA hz
  go_enter Tryz.func76, Tryz.ntmps76
  go_wp2_with fail
  refine HP.out.mono ?_
  rintro e w1 ⟨A1, c1, rfl, _, hb⟩
  have HB := Lib.hid hb
  clear hb HP
  cases my
  · go_wp2_with fail
    go_ret
    exact ⟨rfl, HB.out⟩
  · go_wp2_with fail
    refine (HN.out _).mono ?_
    rintro e w2 ⟨rfl, hb2⟩
    have HB2 := Lib.hid (bt HB.out hb2)
    clear hb2
    go_wp2_with fail
    go_ret
    exact ⟨rfl, HB2.out⟩

/-- Has a step all of a guard, or nothing of it? -/
def GuMay (x : St) : Prop := (x.g = false → x.t = e0 ∧ x.h = []) ∧ (x.g = true → ExM.May x.h ∧ Nm x.t)
instance (x : St) : Decidable (GuMay x) := by unfold GuMay; infer_instance

set_option maxRecDepth 100000 in
set_option maxHeartbeats 2000000 in
theorem mayGuard_any (x : St) (A : Option Addr) (c : Nat) (B : Option Addr) (d : Nat) (w : World) (hB : SlO w B x.h d) (hz : FineSt x) :
    Calls Tryz.prog 77 #[agSt x A c B d] w fun e w' => e = .returned (.bool (decide (GuMay x))) ∧ Below w.heap.size w w' := by
  have hX := (bxSt_new w x A c B d).cells
  have ha := (Below.refl w.heap.size w).alloc (Nat.le_refl _) (.cells #[.string x.s, .slice A x.f.length c, .int .i64 x.lo, .int .i64 x.hi, .bool x.g, .string x.t, .slice B x.h.length d] 47)
  have hm := mayAsk_any x.t x.h B d _ hz.1.2 (hB.kept ha)
  have g11 := e0_iff x.t
  have g12 : ((x.h.length : Int) == 0) = decide (x.h = []) := by
    rw [Bool.eq_iff_iff, beq_iff_eq, decide_eq_true_iff, ← List.length_eq_zero_iff]
    omega
  obtain ⟨R, hR⟩ : ∃ R, R = decide (GuMay x) := ⟨_, rfl⟩
  rw [← hR]
  have hf : x.g = false → R = (decide (x.t = e0) && decide (x.h = [])) := fun h => by
    rw [hR, ← Bool.decide_and]
    exact decide_eq_decide.2 ⟨fun k => k.1 h, fun k => ⟨fun _ => k, fun e => by rw [h] at e; cases e⟩⟩
  have ht : x.g = true → R = decide (ExM.May x.h ∧ Nm x.t) := fun h => by
    rw [hR]
    exact decide_eq_decide.2 ⟨fun k => k.2 h, fun k => ⟨(fun e => by rw [h] at e; cases e), fun _ => k⟩⟩
  obtain ⟨z1, e1⟩ : ∃ z, z = decide (x.t = e0) := ⟨_, rfl⟩
  obtain ⟨z2, e2⟩ : ∃ z, z = decide (x.h = []) := ⟨_, rfl⟩
  obtain ⟨z3, e3⟩ : ∃ z, z = decide (ExM.May x.h ∧ Nm x.t) := ⟨_, rfl⟩
  rw [← e1] at g11 hf
  rw [← e2] at g12 hf
  rw [← e3] at hm ht
  clear e1 e2 e3 hR hB hz
  obtain ⟨xs, xf, lo, hi, xg, xt, xh⟩ := x
  unfold agSt
  unfold CellSt at hX
  simp only at g11 g12 hf ht hm hX ha ⊢
  obtain ⟨n1, hn1⟩ : ∃ n, n = xf.length := ⟨_, rfl⟩
  obtain ⟨n2, hn2⟩ : ∃ n, n = xh.length := ⟨_, rfl⟩
  simp only [← hn1, ← hn2] at hm hX ha g12 ⊢
  have HB := Lib.hid ha
  have HM := Lib.hid hm
  have HF := Lib.hid hf
  have HT := Lib.hid ht
  obtain ⟨p0, p1, p2, p3, p4, p5, p6⟩ := hX
  clear ha hm hf ht hn1 hn2
  cases xg
  · have HR := Lib.hid (HF.out rfl)
    clear HF HT HM
    cases z1
    all_goals
      go_enter Tryz.func77, Tryz.ntmps77
      go_wp2_with fail
      go_ret
      exact ⟨ret_v (by rw [HR.out]; rfl), HB.out⟩
  · have HR := Lib.hid (HT.out rfl)
    clear HF HT g11 g12
    go_enter Tryz.func77, Tryz.ntmps77
    go_wp2_with fail
    refine HM.out.mono ?_
    rintro e w2 ⟨rfl, hb2⟩
    have HB2 := Lib.hid (bt HB.out hb2)
    clear hb2
    go_wp2_with fail
    go_ret
    exact ⟨ret_v (x := .bool z3) (by rw [HR.out]), HB2.out⟩

/-- May a step be, wherever it stands? -/
def StMay (x : St) : Prop := (1 ≤ x.lo ∧ x.lo ≤ x.hi ∧ x.hi ≤ 4) ∧ (ExM.May x.f ∧ Nm x.s) ∧ GuMay x
instance (x : St) : Decidable (StMay x) := by unfold StMay; infer_instance

theorem stOk_may {x : St} {first last : Prop} : StOk x first last ↔ StMay x ∧ (last → x.lo = x.hi) ∧ (x.g = true → ¬ first) := by
  unfold StOk StMay GuMay
  constructor
  · rintro ⟨h1, h2, h3, h4, h5, h6, h7, h8⟩
    exact ⟨⟨⟨h3, h4, h5⟩, ⟨h2, h1⟩, h7, fun e => ⟨(h8 e).2.2, (h8 e).2.1⟩⟩, h6, fun e => (h8 e).1⟩
  · rintro ⟨⟨⟨h3, h4, h5⟩, ⟨h2, h1⟩, h7, h8⟩, h6, h9⟩
    exact ⟨h1, h2, h3, h4, h5, h6, h7, fun e => ⟨h9 e, (h8 e).2, (h8 e).1⟩⟩

theorem mayWays (z1 z2 z3 z4 : Bool) : (z1 = false ∨ (z1 = true ∧ z2 = false) ∨ (z1 = true ∧ z2 = true ∧ z3 = false)) ∨ (z1 = true ∧ z2 = true ∧ z3 = true ∧ z4 = false) ∨ (z1 = true ∧ z2 = true ∧ z3 = true ∧ z4 = true) := by
  cases z1 <;> cases z2 <;> cases z3 <;> cases z4 <;> simp

set_option maxRecDepth 100000 in
set_option maxHeartbeats 4000000 in
theorem mayStep_any (x : St) (A : Option Addr) (c : Nat) (B : Option Addr) (d : Nat) (w : World) (hA : SlO w A x.f c) (hB : SlO w B x.h d) (hz : FineSt x) :
    Calls Tryz.prog 46 #[agSt x A c B d] w fun e w' => e = .returned (.bool (decide (StMay x))) ∧ Below w.heap.size w w' := by
  have hX := (bxSt_new w x A c B d).cells
  have ha := (Below.refl w.heap.size w).alloc (Nat.le_refl _) (.cells #[.string x.s, .slice A x.f.length c, .int .i64 x.lo, .int .i64 x.hi, .bool x.g, .string x.t, .slice B x.h.length d] 47)
  have hm := mayAsk_any x.s x.f A c _ hz.1.1 (hA.kept ha)
  have hgu := fun W (h : Below w.heap.size w W) => mayGuard_any x A c B d W (hB.kept h) hz
  obtain ⟨z1, g1⟩ : ∃ z, decide (1 ≤ x.lo) = z := ⟨_, rfl⟩
  obtain ⟨z2, g2⟩ : ∃ z, decide (x.lo ≤ x.hi) = z := ⟨_, rfl⟩
  obtain ⟨z3, g3⟩ : ∃ z, decide (x.hi ≤ 4) = z := ⟨_, rfl⟩
  obtain ⟨z4, g4⟩ : ∃ z, decide (ExM.May x.f ∧ Nm x.s) = z := ⟨_, rfl⟩
  obtain ⟨z5, g5⟩ : ∃ z, decide (GuMay x) = z := ⟨_, rfl⟩
  have hr : decide (StMay x) = ((z1 && (z2 && z3)) && (z4 && z5)) := by
    rw [← g1, ← g2, ← g3, ← g4, ← g5, ← Bool.decide_and, ← Bool.decide_and, ← Bool.decide_and, ← Bool.decide_and]
    rfl
  rw [hr]
  rw [g4] at hm
  simp only [g5] at hgu
  unfold agSt at hgu ⊢
  unfold CellSt at hX
  have HA0 := Lib.hid (bxSt_new w x A c B d)
  clear hr g4 g5 hA hB hz
  obtain ⟨xs, xf, lo, hi, xg, xt, xh⟩ := x
  unfold BxSt encSt at HA0
  simp only at hm hgu hX ha g1 g2 g3 HA0 ⊢
  obtain ⟨n1, hn1⟩ : ∃ n, n = xf.length := ⟨_, rfl⟩
  obtain ⟨n2, hn2⟩ : ∃ n, n = xh.length := ⟨_, rfl⟩
  simp only [← hn1, ← hn2] at hm hgu hX ha HA0 ⊢
  have HB := Lib.hid ha
  have HM := Lib.hid hm
  have HG := Lib.hid hgu
  obtain ⟨p0, p1, p2, p3, p4, p5, p6⟩ := hX
  clear ha hm hgu hn1 hn2
  rcases mayWays z1 z2 z3 z4 with hbad | ⟨rfl, rfl, rfl, rfl⟩ | ⟨rfl, rfl, rfl, rfl⟩
  · have HR := Lib.hid (show ((z1 && (z2 && z3)) && (z4 && z5)) = false from by rcases hbad with h | ⟨h, h'⟩ | ⟨h, h', h''⟩ <;> simp [*])
    rw [HR.out]
    clear HM HG
    rcases hbad with rfl | ⟨rfl, rfl⟩ | ⟨rfl, rfl, rfl⟩
    all_goals
      go_enter Tryz.func46, Tryz.ntmps46
      go_wp2_with fail
      go_ret
      exact ⟨rfl, HB.out⟩
  · go_enter Tryz.func46, Tryz.ntmps46
    go_wp2_with fail
    refine HM.out.mono ?_
    rintro e w2 ⟨rfl, hb2⟩
    have HB2 := Lib.hid (bt HB.out hb2)
    clear hb2
    go_wp2_with fail
    go_ret
    exact ⟨rfl, HB2.out⟩
  · go_enter Tryz.func46, Tryz.ntmps46
    go_wp2_with fail
    refine HM.out.mono ?_
    rintro e w2 ⟨rfl, hb2⟩
    have HB2 := Lib.hid (bt HB.out hb2)
    obtain ⟨q0', q1', q2', q3', q4', q5', q6'⟩ := bx7 (RG.BxN.kept HA0.out hb2)
    clear hb2 p0 p1 p2 p3 p4 p5 p6
    go_wp2_with fail
    refine (HG.out _ HB2.out).mono ?_
    rintro e w3 ⟨rfl, hb3⟩
    have HB3 := Lib.hid (bt HB2.out hb3)
    clear hb3
    go_wp2_with fail
    go_ret
    exact ⟨rfl, HB3.out⟩

/-- May what stands behind the steps be? -/
def TellMay (q : Q) : Prop := ¬ (q.a = 0 ∧ q.f ≠ 0) ∧ (0 ≤ q.w ∧ q.w < 1125899906842625) ∧ (0 ≤ q.a ∧ q.a < 4) ∧ (0 ≤ q.i ∧ q.i < (q.p.length : Int)) ∧ (0 ≤ q.f ∧ q.f < 6)
instance (q : Q) : Decidable (TellMay q) := by unfold TellMay; infer_instance

theorem tellWays (z1 z2 z3 z4 z5 z6 : Bool) : ((z1 = true ∧ z2 = true)) ∨ ((z1 = false ∨ (z1 = true ∧ z2 = false)) ∧ ((z3 = false) ∨ (z3 = true ∧ z4 = false) ∨ (z3 = true ∧ z4 = true ∧ z5 = false) ∨ (z3 = true ∧ z4 = true ∧ z5 = true ∧ z6 = false) ∨ (z3 = true ∧ z4 = true ∧ z5 = true ∧ z6 = true))) := by
  cases z1 <;> cases z2 <;> cases z3 <;> cases z4 <;> cases z5 <;> cases z6 <;> simp

set_option maxRecDepth 100000 in
set_option maxHeartbeats 4000000 in
theorem mayTell_any (q : Q) (A : Option Addr) (c : Nat) (w : World) (hl : q.p.length ≤ 9223372036854775807) :
    Calls Tryz.prog 47 #[agQ q A c] w fun e w' => e = .returned (.bool (decide (TellMay q))) ∧ Below w.heap.size w w' := by
  have hX := (bxQ_new w q A c).cells
  have ha := (Below.refl w.heap.size w).alloc (Nat.le_refl _) (.cells #[.slice A q.p.length c, .int .i64 q.w, .int .i64 q.a, .int .i64 q.i, .int .i64 q.f] 25)
  obtain ⟨z1, g1⟩ : ∃ z, (q.a == 0) = z := ⟨_, rfl⟩
  obtain ⟨z2, g2⟩ : ∃ z, (q.f != 0) = z := ⟨_, rfl⟩
  have h3 := fun W => below_any q.w 1125899906842625 W
  have h4 := fun W => below_any q.a 4 W
  have h5 := fun W => below_any q.i (q.p.length : Int) W
  have h6 := fun W => below_any q.f 6 W
  obtain ⟨z3, g3⟩ : ∃ z, decide (0 ≤ q.w ∧ q.w < 1125899906842625) = z := ⟨_, rfl⟩
  obtain ⟨z4, g4⟩ : ∃ z, decide (0 ≤ q.a ∧ q.a < 4) = z := ⟨_, rfl⟩
  obtain ⟨z5, g5⟩ : ∃ z, decide (0 ≤ q.i ∧ q.i < (q.p.length : Int)) = z := ⟨_, rfl⟩
  obtain ⟨z6, g6⟩ : ∃ z, decide (0 ≤ q.f ∧ q.f < 6) = z := ⟨_, rfl⟩
  have hr : decide (TellMay q) = (!(z1 && z2) && (z3 && (z4 && (z5 && z6)))) := by
    rw [← g1, ← g2, ← g3, ← g4, ← g5, ← g6, ← Bool.decide_and, ← Bool.decide_and, ← Bool.decide_and]
    have hT : TellMay q ↔ ¬ (q.a = 0 ∧ q.f ≠ 0) ∧ (0 ≤ q.w ∧ q.w < 1125899906842625) ∧ (0 ≤ q.a ∧ q.a < 4) ∧ (0 ≤ q.i ∧ q.i < (q.p.length : Int)) ∧ (0 ≤ q.f ∧ q.f < 6) := Iff.rfl
    rw [Bool.eq_iff_iff, Bool.and_eq_true, decide_eq_true_iff, decide_eq_true_iff, hT, Bool.not_eq_true', Bool.and_eq_false_iff, beq_eq_false_iff_ne, bne_eq_false_iff_eq]
    constructor
    · rintro ⟨h1, h2⟩
      refine ⟨?_, h2⟩
      by_cases e : q.a = 0
      · exact Or.inr (Classical.byContradiction fun k => h1 ⟨e, k⟩)
      · exact Or.inl e
    · rintro ⟨h1, h2⟩
      refine ⟨?_, h2⟩
      rintro ⟨e, k⟩
      rcases h1 with h | h
      · exact h e
      · exact k h
  rw [hr]
  simp only [g3] at h3
  simp only [g4] at h4
  simp only [g5] at h5
  simp only [g6] at h6
  unfold agQ
  clear hr g3 g4 g5 g6
  obtain ⟨qp, qw, qa, qi, qf⟩ := q
  simp only at hl hX ha g1 g2 h3 h4 h5 h6 ⊢
  obtain ⟨n, hn⟩ : ∃ n, n = qp.length := ⟨_, rfl⟩
  simp only [← hn] at hl hX ha h5 ⊢
  have HB := Lib.hid ha
  have H3 := Lib.hid h3
  have H4 := Lib.hid h4
  have H5 := Lib.hid h5
  have H6 := Lib.hid h6
  obtain ⟨p0, p1, p2, p3, p4⟩ := hX
  clear ha h3 h4 h5 h6 hn
  rcases tellWays z1 z2 z3 z4 z5 z6 with ⟨rfl, rfl⟩ | ⟨hz, h⟩
  · clear H3 H4 H5 H6
    go_enter Tryz.func47, Tryz.ntmps47
    go_wp2_with fail
    go_ret
    exact ⟨rfl, HB.out⟩
  · have HZ := Lib.hid (show (!(z1 && z2)) = true from by rcases hz with h | ⟨h, h'⟩ <;> simp [*])
    rw [HZ.out]
    rcases hz with rfl | ⟨rfl, rfl⟩
    all_goals
      rcases h with rfl | ⟨rfl, rfl⟩ | ⟨rfl, rfl, rfl⟩ | ⟨rfl, rfl, rfl, rfl⟩ | ⟨rfl, rfl, rfl, rfl⟩
      all_goals
        go_enter Tryz.func47, Tryz.ntmps47
        go_wp2_with fail
        refine (H3.out _).mono ?_
        rintro e w2 ⟨rfl, rfl⟩
        go_wp2_with fail
        first
          | (go_ret
             exact ⟨rfl, HB.out⟩)
          | (refine (H4.out _).mono ?_
             rintro e w3 ⟨rfl, rfl⟩
             go_wp2_with fail
             first
               | (go_ret
                  exact ⟨rfl, HB.out⟩)
               | (refine (H5.out _).mono ?_
                  rintro e w4 ⟨rfl, rfl⟩
                  go_wp2_with fail
                  first
                    | (go_ret
                       exact ⟨rfl, HB.out⟩)
                    | (refine (H6.out _).mono ?_
                       rintro e w5 ⟨rfl, rfl⟩
                       go_wp2_with fail
                       go_ret
                       exact ⟨rfl, HB.out⟩)))
end Go.Proofs.YtbmdkibmfkmjoaaGreat.Qy

namespace Go.Proofs.YtbmdkibmfkmjoaaGreat.Qy
open Go.RowKit Go.Proofs.YtbmdkibmfkmjoaaGreat.BM Go.Proofs.YtbmdkibmfkmjoaaGreat.LM Go.Proofs.YtbmdkibmfkmjoaaGreat.VaM Go.Proofs.YtbmdkibmfkmjoaaGreat.ExM Go.Proofs.YtbmdkibmfkmjoaaGreat.QyM
open Go.Proofs.YtbmdkibmfkmjoaaGreat.Ex (SlO slO_none slO_len)
open Go.Proofs.YtbmdkibmfkmjoaaGreat.Va (ret_v str_e0)

/-- A query is well made, by the questions of the program, in its order. -/
theorem may_well {q : Q} : May q ↔ (1 ≤ q.p.length ∧ q.p.length ≤ 4) ∧ (∀ j, j < q.p.length → StMay (q.p.getD j t0)) ∧ (q.p.getD 0 t0).g = false ∧ (q.p.getD (q.p.length - 1) t0).lo = (q.p.getD (q.p.length - 1) t0).hi ∧ TellMay q := by
  unfold QyM.May StsOk TellMay
  simp only [stOk_may]
  constructor
  · rintro ⟨h1, h2, h3, h4, h5, h6, h7⟩
    refine ⟨h1, fun j hj => (h7 j hj).1, ?_, (h7 _ (by omega)).2.1 (by omega), fun h => h.2 (h6 h.1), ⟨h2.1, by omega⟩, h3, h4, h5⟩
    cases hg : (q.p.getD 0 t0).g with
    | false => rfl
    | true => exact absurd rfl ((h7 0 (by omega)).2.2 hg)
  · rintro ⟨h1, h2, h3, h4, h5, h6, h7, h8, h9⟩
    refine ⟨h1, ⟨h6.1, by omega⟩, h7, h8, h9, fun e => Classical.byContradiction fun k => h5 ⟨e, k⟩, fun j hj => ⟨h2 j hj, fun e => ?_, fun e k => ?_⟩⟩
    · obtain rfl : j = q.p.length - 1 := by omega
      exact h4
    · subst k
      rw [h3] at e
      cases e

set_option maxRecDepth 100000 in
set_option maxHeartbeats 16000000 in
theorem wellMade_any (q : Q) (A : Option Addr) (c : Nat) (w : World) (hS : SlSt w A q.p c) :
    Calls Tryz.prog 22 #[agQ q A c] w fun e w' => e = .returned (.bool (decide (May q))) ∧ Below w.heap.size w w' := by
  have hl := slSt_len hS
  have hmw := @may_well q
  have hX := bxQ_new w q A c
  have ha := (Below.refl w.heap.size w).alloc (Nat.le_refl _) (.cells #[.slice A q.p.length c, .int .i64 q.w, .int .i64 q.a, .int .i64 q.i, .int .i64 q.f] 25)
  have htl := fun W => mayTell_any q A c W hl
  obtain ⟨zt, gt⟩ : ∃ z, decide (TellMay q) = z := ⟨_, rfl⟩
  simp only [gt] at htl
  have HTl' := Lib.hid (show TellMay q ↔ zt = true from by rw [← gt, decide_eq_true_iff])
  rw [HTl'.out] at hmw
  obtain ⟨R, hR⟩ : ∃ R, R = decide (May q) := ⟨_, rfl⟩
  rw [← hR]
  have hr : R = true ↔ May q := by rw [hR, decide_eq_true_iff]
  rw [hmw] at hr
  unfold agQ at htl ⊢
  unfold BxQ encQ at hX
  clear hmw hR HTl' gt
  obtain ⟨qp, qw, qa, qi, qf⟩ := q
  simp only at hS hl hX ha hr htl ⊢
  obtain ⟨n, hn⟩ : ∃ n, n = qp.length := ⟨_, rfl⟩
  simp only [← hn] at hl hX ha hr htl ⊢
  have hfalse : ¬ ((1 ≤ n ∧ n ≤ 4) ∧ (∀ j, j < n → StMay (qp.getD j t0)) ∧ (qp.getD 0 t0).g = false ∧ (qp.getD (n - 1) t0).lo = (qp.getD (n - 1) t0).hi ∧ zt = true) → R = false := fun h => by
    cases R
    · rfl
    · exact absurd (hr.1 rfl) h
  have HFa := Lib.hid hfalse
  have HTr := Lib.hid hr.2
  have HN := Lib.hid hn
  have HS := Lib.hid hS
  have HB := Lib.hid ha
  have HTl := Lib.hid htl
  have HX := Lib.hid hX
  obtain ⟨p0, p1, p2, p3, p4⟩ := bx5 hX
  clear hfalse hr hn hS ha hX htl
  by_cases h1 : n = 0
  · have HR := Lib.hid (HFa.out (by omega))
    subst h1
    go_enter Tryz.func22, Tryz.ntmps22
    go_wp2_with fail
    go_ret
    exact ⟨ret_v (x := .bool false) (by rw [HR.out]), HB.out⟩
  have g1_0 : (n == 0) = false := by simpa using h1
  have g1_1 : ((n : Int) == 0) = false := by simpa using (show (n : Int) ≠ 0 by omega)
  by_cases h2 : n ≤ 4
  rotate_left
  · have HR := Lib.hid (HFa.out (by omega))
    have g2_0 : decide (4 < n) = true := by rw [decide_eq_true_iff]; omega
    have g2_1 : decide ((4 : Int) < (n : Int)) = true := by rw [decide_eq_true_iff]; omega
    go_enter Tryz.func22, Tryz.ntmps22
    go_wp2_with fail
    go_ret
    exact ⟨ret_v (x := .bool false) (by rw [HR.out]), HB.out⟩
  have g2_0 : decide (4 < n) = false := by rw [decide_eq_false_iff_not]; omega
  have g2_1 : decide ((4 : Int) < (n : Int)) = false := by rw [decide_eq_false_iff_not]; omega
  have HTr2 := Lib.hid (fun (hs : ∀ j, j < n → StMay (qp.getD j t0)) => fun h3 h4 h5 => HTr.out ⟨⟨by omega, h2⟩, hs, h3, h4, h5⟩)
  have HFa2 := Lib.hid (fun (h : ¬ ((∀ j, j < n → StMay (qp.getD j t0)) ∧ (qp.getD 0 t0).g = false ∧ (qp.getD (n - 1) t0).lo = (qp.getD (n - 1) t0).hi ∧ zt = true)) => HFa.out (fun k => h k.2))
  clear HTr HFa
  go_enter Tryz.func22, Tryz.ntmps22
  go_wp2_with fail
  obtain ⟨w1, hw1⟩ : ∃ w1, w1 = w.alloc (.cells #[.slice A n c, .int .i64 qw, .int .i64 qa, .int .i64 qi, .int .i64 qf] 25) := ⟨_, rfl⟩
  rw [← hw1] at HB HX ⊢
  have HXk := Lib.hid (fun W h => bx5 (RG.BxN.kept HX.out (w' := W) h))
  clear hw1 p0 p1 p2 p3 p4 HX
  go_loopw [16] (fun i wr => ∃ j : Nat, i = .int .i64 j ∧ j ≤ n ∧ (∀ i, i < j → StMay (qp.getD i t0)) ∧ Below w1.heap.size w1 wr) (fun i _ => n - (intOf i).toNat)
  case atStart => exact ⟨0, rfl, Nat.zero_le _, (fun j hj => absurd hj (Nat.not_lt_zero j)), Below.refl _ _⟩
  case round =>
    obtain ⟨j, rfl, hj, hall, hbel⟩ := hrel
    have HAl := Lib.hid hall
    have HBl := Lib.hid hbel
    obtain ⟨p0, p1, p2, p3, p4⟩ := HXk.out wr hbel
    clear hall hbel
    by_cases hjn : j < n
    · obtain ⟨b1, q1, A1, c1, B1, d1, hix, hc, hfz⟩ := HS.out.at j (by rw [← HN.out]; exact hjn)
      obtain ⟨hcell, hA1, hB1⟩ := hc wr (bt HB.out HBl.out)
      have hi := fun W => hix W n c hjn
      have hst := mayStep_any (qp.getD j t0) A1 c1 B1 d1 wr hA1 hB1 hfz
      obtain ⟨z, hz⟩ : ∃ z, z = decide (StMay (qp.getD j t0)) := ⟨_, rfl⟩
      rw [← hz] at hst
      have HZ := Lib.hid hz
      unfold agSt at hst
      unfold CellSt at hcell
      obtain ⟨x, hx⟩ : ∃ x, x = qp.getD j t0 := ⟨_, rfl⟩
      rw [← hx] at hst hcell
      obtain ⟨x0, x1, x2, x3, x4, x5, x6⟩ := hcell
      obtain ⟨xs, xf, lo, hi', xg, xt, xh⟩ := x
      simp only at hst x0 x1 x2 x3 x4 x5 x6
      obtain ⟨n1, hn1⟩ : ∃ n, n = xf.length := ⟨_, rfl⟩
      obtain ⟨n2, hn2⟩ : ∃ n, n = xh.length := ⟨_, rfl⟩
      rw [← hn1] at hst x1
      rw [← hn2] at hst x6
      have HSt := Lib.hid hst
      clear hc hix hA1 hB1 hfz hst hz hx hn1 hn2
      go_wp2_with fail
      refine HSt.out.mono ?_
      rintro e w3 ⟨rfl, hb3⟩
      have HB3 := Lib.hid (bt HBl.out hb3)
      clear hb3 x0 x1 x2 x3 x4 x5 x6 HSt p0 p1 p2 p3 p4
      cases z
      · have HR := Lib.hid (HFa2.out (fun k => of_decide_eq_false HZ.out.symm (k.1 j hjn)))
        go_wp2_with fail
        go_ret
        exact ⟨ret_v (x := .bool false) (by rw [HR.out]), bt HB.out HB3.out⟩
      · have HSc := Lib.hid (fun i (hi : i < j + 1) => (by
          by_cases e : i = j
          · rw [e]
            exact of_decide_eq_true HZ.out.symm
          · exact HAl.out i (by omega) : StMay (qp.getD i t0)))
        go_wp2_with fail
        go_roundw
        case rel => exact ⟨j + 1, by go_num, by omega, HSc.out, HB3.out⟩
        case measure => simp [intOf]; omega
    · obtain rfl : j = n := by omega
      obtain ⟨b1, q1, A1, c1, B1, d1, hix, hc, _⟩ := HS.out.at (j - 1) (by rw [← HN.out]; omega)
      obtain ⟨b2, q2, A2, c2, B2, d2, hix2, hc2, _⟩ := HS.out.at 0 (by rw [← HN.out]; omega)
      have hcell := (hc wr (bt HB.out HBl.out)).1
      have hi := fun W => hix W j c (by omega)
      have hi2 := fun W => hix2 W j c (by omega)
      rw [show ((j - 1 : Nat) : Int) = (j : Int) - 1 by omega] at hi
      simp only [Int.natCast_zero] at hi2
      have HTr3 := Lib.hid (HTr2.out HAl.out)
      have HFa3 := Lib.hid (fun (h : ¬ ((qp.getD 0 t0).g = false ∧ (qp.getD (j - 1) t0).lo = (qp.getD (j - 1) t0).hi ∧ zt = true)) => HFa2.out (fun k => h k.2))
      obtain ⟨y, hy⟩ : ∃ y, y = qp.getD 0 t0 := ⟨_, rfl⟩
      obtain ⟨x, hx⟩ : ∃ x, x = qp.getD (j - 1) t0 := ⟨_, rfl⟩
      rw [← hy, ← hx] at HTr3 HFa3
      rw [← hx] at hcell
      have hX2 := bxSt_new wr x A1 c1 B1 d1
      have ha2 := (Below.refl wr.heap.size wr).alloc (Nat.le_refl _) (.cells #[.string x.s, .slice A1 x.f.length c1, .int .i64 x.lo, .int .i64 x.hi, .bool x.g, .string x.t, .slice B1 x.h.length d1] 47)
      have hcell2 := (hc2 _ (bt HB.out (bt HBl.out ha2))).1
      have hp2 := HXk.out _ (bt HBl.out ha2)
      rw [← hy] at hcell2
      unfold CellSt at hcell hcell2
      unfold BxSt encSt at hX2
      have hxx := bx7 hX2
      obtain ⟨x0, x1, x2, x3, x4, x5, x6⟩ := hcell
      obtain ⟨xs, xf, lo, hi', xg, xt, xh⟩ := x
      simp only at x0 x1 x2 x3 x4 x5 x6 hxx hcell2 ha2 HTr3 HFa3 hp2
      obtain ⟨n1, hn1⟩ : ∃ n, n = xf.length := ⟨_, rfl⟩
      obtain ⟨n2, hn2⟩ : ∃ n, n = xh.length := ⟨_, rfl⟩
      simp only [← hn1, ← hn2] at x0 x1 x2 x3 x4 x5 x6 hxx hcell2 ha2 hp2
      obtain ⟨r0, r1, r2, r3, r4, r5, r6⟩ := hxx
      obtain ⟨y0, y1, y2, y3, y4, y5, y6⟩ := hcell2
      obtain ⟨s0, s1, s2, s3, s4⟩ := hp2
      have HB4 := Lib.hid (bt HBl.out ha2)
      obtain ⟨z1, g1⟩ : ∃ z, y.g = z := ⟨_, rfl⟩
      obtain ⟨z2, g2⟩ : ∃ z, (lo == hi') = z := ⟨_, rfl⟩
      rw [g1] at y4 HTr3 HFa3
      have e2 : lo = hi' ↔ z2 = true := by rw [← g2, beq_iff_eq]
      rw [e2] at HTr3 HFa3
      clear hc hix hc2 hix2 hx hy hn1 hn2 hX2 ha2 HTr2 HFa2 e2 y0 y1 y2 y3 y5 y6 g1
      rcases (show (z1 = true ∨ (z1 = false ∧ z2 = false)) ∨ (z1 = false ∧ z2 = true) from by cases z1 <;> cases z2 <;> simp) with hbad | ⟨rfl, rfl⟩
      · have HR := Lib.hid (HFa3.out (by
          rintro ⟨k1, k2, _⟩
          subst k1 k2
          simp at hbad))
        clear HTr3 HFa3
        rcases hbad with rfl | ⟨rfl, rfl⟩
        all_goals
          go_wp2_with fail
          go_ret
          exact ⟨ret_v (x := .bool false) (by rw [HR.out]), bt HB.out HB4.out⟩
      · have HR := Lib.hid (show R = zt from by
          cases zt
          · exact HFa3.out (fun k => by cases k.2.2)
          · exact HTr3.out rfl rfl rfl)
        clear HTr3 HFa3
        go_wp2_with fail
        refine (HTl.out _).mono ?_
        rintro e w5 ⟨rfl, hb5⟩
        have HB5 := Lib.hid (bt HB4.out hb5)
        clear hb5
        go_wp2_with fail
        go_ret
        exact ⟨ret_v (x := .bool zt) (by rw [HR.out]), bt HB.out HB5.out⟩
end Go.Proofs.YtbmdkibmfkmjoaaGreat.Qy

namespace Go.Proofs.YtbmdkibmfkmjoaaGreat.Qy
open Go.RowKit Go.Proofs.YtbmdkibmfkmjoaaGreat.BM Go.Proofs.YtbmdkibmfkmjoaaGreat.LM Go.Proofs.YtbmdkibmfkmjoaaGreat.LeM Go.Proofs.YtbmdkibmfkmjoaaGreat.VaM Go.Proofs.YtbmdkibmfkmjoaaGreat.ExM Go.Proofs.YtbmdkibmfkmjoaaGreat.QyM
open Go.Proofs.YtbmdkibmfkmjoaaGreat.Ex (SlO slO_none)
open Go.Proofs.YtbmdkibmfkmjoaaGreat.Va (Bx2 bx2_new bx2_set0 bx2_set1 ret_v)
open Go.Proofs.YtbmdkibmfkmjoaaGreat.Sc (Rdd grown_set grown_trans slB_grown)

theorem oQ_of {s s1 s2 s3 s4 s5 : ScM.Rs} {p : List St} {v2 v3 v4 v5 : Nat} (e1 : several oStep 4 s = (p, s1)) (e2 : oNum s1 = (v2, s2)) (e3 : oNum s2 = (v3, s3)) (e4 : oNum s3 = (v4, s4)) (e5 : oNum s4 = (v5, s5)) :
    oQ s = (⟨p, wrp v2, wrp v3, wrp v4, wrp v5⟩, s5) := by
  unfold oQ oQP
  simp only [both, e1, e2, e3, e4, e5, qOfL]

set_option maxRecDepth 100000 in
set_option maxHeartbeats 8000000 in
theorem query_any (b : Nat) (A : Option Addr) (xs : List Int) (c : Nat) (s : ScM.Rs) (w : World) (R : Rdd b A c xs w s w) (hx : Bytes w b A xs c) (hb : b < w.heap.size) :
    Calls Tryz.prog 29 #[.pointer (some ⟨b, 0, none⟩)] w fun e w' =>
      (∃ A1 c1, e = .returned (agQ (oQ s).1 A1 c1) ∧ SlUp w.heap.size w' A1 (oQ s).1.p c1) ∧ Rdd b A c xs w (oQ s).2 w' := by
  have hmf : ∀ (fn : Fn) (first cap : Array Value) (w : World), (Instr.makeFunc fn first cap).run Tryz.prog w = .ok (.func fn first cap) w := fun _ _ _ _ => rfl
  have hN0 := RG.bxN_new w 25 [.slice none 0 0, .int .i64 0, .int .i64 0, .int .i64 0, .int .i64 0]
  have ha0 := (Below.refl w.heap.size w).alloc (Nat.le_refl _) (.cells #[.slice none 0 0, .int .i64 0, .int .i64 0, .int .i64 0, .int .i64 0] 25)
  have hR0 := rdd_below R ha0
  have HX := Lib.hid hx
  obtain ⟨⟨p, s1⟩, e1⟩ : ∃ r, r = several oStep 4 s := ⟨_, rfl⟩
  obtain ⟨⟨v2, s2⟩, e2⟩ : ∃ r, r = oNum s1 := ⟨_, rfl⟩
  obtain ⟨⟨v3, s3⟩, e3⟩ : ∃ r, r = oNum s2 := ⟨_, rfl⟩
  obtain ⟨⟨v4, s4⟩, e4⟩ : ∃ r, r = oNum s3 := ⟨_, rfl⟩
  obtain ⟨⟨v5, s5⟩, e5⟩ : ∃ r, r = oNum s4 := ⟨_, rfl⟩
  rw [oQ_of e1.symm e2.symm e3.symm e4.symm e5.symm]
  have c1' := fun W (h : Rdd b A c xs w s W) (hbW : b < W.heap.size) => acc2 h hx fun A' c' R hB => steps_any b A' s.1 c' s W R hB hbW
  have c2' := fun W (h : Rdd b A c xs w s1 W) => number_acc (W := W) h hx
  have c3' := fun W (h : Rdd b A c xs w s2 W) => number_acc (W := W) h hx
  have c4' := fun W (h : Rdd b A c xs w s3 W) => number_acc (W := W) h hx
  have c5' := fun W (h : Rdd b A c xs w s4 W) => number_acc (W := W) h hx
  simp only [← e1] at c1'
  simp only [← e2] at c2'
  simp only [← e3] at c3'
  simp only [← e4] at c4'
  simp only [← e5] at c5'
  obtain ⟨z2, h2⟩ : ∃ z, z = wrp v2 := ⟨_, rfl⟩
  obtain ⟨z3, h3⟩ : ∃ z, z = wrp v3 := ⟨_, rfl⟩
  obtain ⟨z4, h4⟩ : ∃ z, z = wrp v4 := ⟨_, rfl⟩
  obtain ⟨z5, h5⟩ : ∃ z, z = wrp v5 := ⟨_, rfl⟩
  simp only [← h2] at c2' ⊢
  simp only [← h3] at c3' ⊢
  simp only [← h4] at c4' ⊢
  simp only [← h5] at c5' ⊢
  obtain ⟨n, hn⟩ : ∃ n, n = p.length := ⟨_, rfl⟩
  simp only [← hn] at c1'
  have HC1 := Lib.hid c1'
  have HC2 := Lib.hid c2'
  have HC3 := Lib.hid c3'
  have HC4 := Lib.hid c4'
  have HC5 := Lib.hid c5'
  have HNn := Lib.hid hn
  have HN0 := Lib.hid hN0
  have HR0 := Lib.hid hR0
  clear c1' c2' c3' c4' c5' e1 e2 e3 e4 e5 h2 h3 h4 h5 hn hN0 hR0 ha0 R hx
  go_enter Tryz.func29, Tryz.ntmps29
  go_wp2_with fail
  obtain ⟨w0, hw0⟩ : ∃ w0, w0 = w.alloc (.cells #[.slice none 0 0, .int .i64 0, .int .i64 0, .int .i64 0, .int .i64 0] 25) := ⟨_, rfl⟩
  have hz0 : w0.heap.size = w.heap.size + 1 := by rw [hw0]; simp
  rw [show (List.toArray [Value.slice none 0 0, .int .i64 0, .int .i64 0, .int .i64 0, .int .i64 0]) = #[Value.slice none 0 0, .int .i64 0, .int .i64 0, .int .i64 0, .int .i64 0] from rfl, ← hw0] at HN0
  rw [← hw0] at HR0 ⊢
  clear hw0
  refine (HC1.out w0 HR0.out (by omega)).mono ?_
  rintro e w1 ⟨⟨A1, c1, rfl, hu1⟩, hr1, hg1⟩
  rw [hz0] at hu1
  have HR1 := Lib.hid hr1
  have HU1 := Lib.hid hu1
  have HN1 := Lib.hid (RG.BxN.grown HN0.out hg1 (fun e => by injection e with e; omega))
  clear hr1 hg1 hu1 HN0 HR0 HC1
  go_wp2_with fail
  refine (HC2.out w1 HR1.out).mono ?_
  rintro e w2 ⟨rfl, hr2, hg2⟩
  have HR2 := Lib.hid hr2
  have HU2 := Lib.hid (HU1.out.grown hg2 (by omega))
  have HN2 := Lib.hid (RG.BxN.grown HN1.out hg2 (fun e => by injection e with e; omega))
  clear hr2 hg2 HU1 HN1 HR1 HC2
  go_wp2_with fail
  refine (HC3.out w2 HR2.out).mono ?_
  rintro e w3 ⟨rfl, hr3, hg3⟩
  have HR3 := Lib.hid hr3
  have HU3 := Lib.hid (HU2.out.grown hg3 (by omega))
  have HN3 := Lib.hid (RG.BxN.grown HN2.out hg3 (fun e => by injection e with e; omega))
  clear hr3 hg3 HU2 HN2 HR2 HC3
  go_wp2_with fail
  refine (HC4.out w3 HR3.out).mono ?_
  rintro e w4 ⟨rfl, hr4, hg4⟩
  have HR4 := Lib.hid hr4
  have HU4 := Lib.hid (HU3.out.grown hg4 (by omega))
  have HN4 := Lib.hid (RG.BxN.grown HN3.out hg4 (fun e => by injection e with e; omega))
  clear hr4 hg4 HU3 HN3 HR3 HC4
  go_wp2_with fail
  refine (HC5.out w4 HR4.out).mono ?_
  rintro e w5 ⟨rfl, hr5, hg5⟩
  have hu5 := HU4.out.grown hg5 (by omega)
  have hn5 := RG.BxN.grown HN4.out hg5 (fun e => by injection e with e; omega)
  obtain ⟨W7, hW7⟩ : ∃ W7, W7 = put5 w5 w.heap.size (.slice A1 n c1) (.int .i64 z2) (.int .i64 z3) (.int .i64 z4) (.int .i64 z5) := ⟨_, rfl⟩
  have hb7 := bx5_put hn5 (.slice A1 n c1) (.int .i64 z2) (.int .i64 z3) (.int .i64 z4) (.int .i64 z5)
  have hg7 := grown5 w5 w.heap.size (.slice A1 n c1) (.int .i64 z2) (.int .i64 z3) (.int .i64 z4) (.int .i64 z5)
  rw [← hW7] at hb7 hg7
  have HR7 := Lib.hid (rdd_own hr5 hg7 (fun q e => by injection e with e; omega) hb)
  have hu7 := hu5.grown hg7 (by omega)
  have HU7 := Lib.hid (show SlUp w.heap.size W7 A1 p c1 from ⟨RG.SlG.mono hu7.1 fun _ _ h => Nat.le_of_succ_le h, fun a ha => Nat.le_of_succ_le (hu7.2 a ha)⟩)
  have HB7 := Lib.hid hb7
  obtain ⟨n0, n1, n2, n3, n4⟩ := bx5 hn5
  obtain ⟨m0, m1, m2, m3, m4⟩ := bx5_free hn5
  unfold put5 at hW7
  have HW7 := Lib.hid hW7
  clear hr5 hg5 hu5 hn5 hb7 hg7 hu7 hW7 HU4 HN4 HR4 HC5
  go_wp2_with fail
  rw [← HW7.out]
  obtain ⟨g0, g1, g2, g3, g4⟩ := bx5 HB7.out
  exact bodyPost_ret (v := .agg #[.slice A1 n c1, .int .i64 z2, .int .i64 z3, .int .i64 z4, .int .i64 z5]) (by simp [results, Tryz.results29, go_sem, g0, g1, g2, g3, g4]) rfl
    ⟨⟨A1, c1, by rw [HNn.out]; rfl, HU7.out⟩, HR7.out⟩

set_option maxRecDepth 100000 in
set_option maxHeartbeats 16000000 in
theorem Get_any (A : Option Addr) (xs : List Int) (c : Nat) (w : World) (h : SlB w A xs c) :
    Calls Tryz.prog 11 #[.slice A xs.length c] w (GotsQ xs w) := by
  have hxm := h.2.2.2
  have hxc := h.2.1
  unfold maxLen at hxm
  have hgo := gQ_own h.1.1
  have hle := rdr_q.less (s := (xs, false))
  have hN0 := RG.bxN_new w 25 [.slice none 0 0, .int .i64 0, .int .i64 0, .int .i64 0, .int .i64 0]
  have ha0 := (Below.refl w.heap.size w).alloc (Nat.le_refl _) (.cells #[.slice none 0 0, .int .i64 0, .int .i64 0, .int .i64 0, .int .i64 0] 25)
  obtain ⟨w0, hw0⟩ : ∃ w0, w0 = w.alloc (.cells #[.slice none 0 0, .int .i64 0, .int .i64 0, .int .i64 0, .int .i64 0] 25) := ⟨_, rfl⟩
  have hs0 : w0.heap.size = w.heap.size + 1 := by rw [hw0]; simp
  rw [show (List.toArray [Value.slice none 0 0, .int .i64 0, .int .i64 0, .int .i64 0, .int .i64 0]) = #[Value.slice none 0 0, .int .i64 0, .int .i64 0, .int .i64 0, .int .i64 0] from rfl] at hN0
  rw [← hw0] at hN0 ha0
  have ha1 := (Below.refl w0.heap.size w0).alloc (Nat.le_refl _) (.cells #[.slice A xs.length c, .bool false] 59)
  have hB1 := bx2_new w0 59 (.slice A xs.length c) (.bool false)
  have hN1 := RG.BxN.kept hN0 ha1
  obtain ⟨w1, hw1⟩ : ∃ w1, w1 = w0.alloc (.cells #[.slice A xs.length c, .bool false] 59) := ⟨_, rfl⟩
  have hs1 : w1.heap.size = w.heap.size + 2 := by rw [hw1]; simp; omega
  rw [← hw1] at ha1 hB1 hN1
  rw [hs0] at hB1
  have hb1 := bt ha0 ha1
  have HBy := Lib.hid (fun W (hg : w1.grownBy W (some (w.heap.size + 1))) => h.kept (hb1.grown hg hb1.size (fun k e => by injection e with e; omega)) : Bytes w1 (w.heap.size + 1) A xs c)
  have hq := query_any (w.heap.size + 1) A xs c (xs, false) w1 (rdd_first hB1 rfl) HBy.out (by omega)
  rw [hw1, hw0] at hq
  rw [hw0] at hw1
  unfold GotsQ
  obtain ⟨⟨q, left, sh⟩, hoq⟩ : ∃ r, r = oQ (xs, false) := ⟨_, rfl⟩
  rw [← hoq] at hgo hle hq
  simp only at hgo hle hq
  obtain ⟨G, hG⟩ : ∃ G, G = gotQ (gQ xs) := ⟨_, rfl⟩
  rw [← hG] at hgo ⊢
  obtain ⟨xn, hxn⟩ : ∃ n, n = xs.length := ⟨_, rfl⟩
  obtain ⟨m, hm⟩ : ∃ n, n = left.length := ⟨_, rfl⟩
  rw [← hxn] at hgo hle hxc hw1 hq ⊢
  rw [← hm] at hgo hle
  have HGo := Lib.hid hgo
  have HQ := Lib.hid hq
  have HN1 := Lib.hid hN1
  have HB1 := Lib.hid hb1
  have HW1 := Lib.hid hw1
  have HM := Lib.hid hm
  clear hgo hN0 ha0 hw0 hs0 ha1 hB1 hN1 hw1 hb1 hq hoq hG hxn hm h w0
  go_enter Tryz.func11, Tryz.ntmps11
  go_wp2_with fail
  refine HQ.out.mono ?_
  rw [← HW1.out]
  rintro e w2 ⟨⟨A1, c1, rfl, hu2⟩, hr2⟩
  obtain ⟨hg2, A2, c2, hbx2, _⟩ := hr2
  simp only at hbx2
  rw [← HM.out] at hbx2
  have hN2 := RG.BxN.grown HN1.out hg2 (fun e => by injection e with e; omega)
  have hB2 := HB1.out.grown hg2 HB1.out.size (fun k e => by injection e with e; omega)
  have hz2 : w.heap.size + 2 ≤ w2.heap.size := by have := hg2.size; omega
  clear HQ HW1 HN1
  have hwm := fun W (h : Below w2.heap.size w2 W) => wellMade_any q A1 c1 W (hu2.kept h).st
  unfold agQ at hwm
  obtain ⟨qp, qw, qa, qi, qf⟩ := q
  simp only at hu2 hwm
  obtain ⟨k, hk⟩ : ∃ n, n = qp.length := ⟨_, rfl⟩
  unfold agQ
  simp only
  rw [← hk]
  simp only [← hk] at hwm
  have ha3 := (Below.refl w2.heap.size w2).alloc (Nat.le_refl _) (.cells #[.slice A1 k c1, .int .i64 qw, .int .i64 qa, .int .i64 qi, .int .i64 qf] 25)
  have HQ3 := Lib.hid (RG.bxN_new w2 25 [.slice A1 k c1, .int .i64 qw, .int .i64 qa, .int .i64 qi, .int .i64 qf])
  have HX3 := Lib.hid (hbx2.kept ha3)
  have HN3 := Lib.hid (RG.BxN.kept hN2 ha3)
  have HB3 := Lib.hid (bt hB2 ha3)
  have HU3 := Lib.hid (hu2.kept ha3)
  have HWm := Lib.hid (hwm _ ha3)
  have HK := Lib.hid hk
  obtain ⟨⟨p0, p1⟩, _⟩ := HX3.out
  obtain ⟨q0', q1', q2', q3', q4'⟩ := bx5 HQ3.out
  clear hbx2 hN2 hB2 hu2 hwm ha3 hk hg2
  have hzero : ∀ w6 : World, RG.BxN w6 w.heap.size [.slice none 0 0, .int .i64 0, .int .i64 0, .int .i64 0, .int .i64 0] → Below w.heap.size w w6 → ∃ W7, W7 = put5 w6 w.heap.size (.slice none 0 0) (.int .i64 0) (.int .i64 0) (.int .i64 0) (.int .i64 0) ∧ RG.BxN W7 w.heap.size [.slice none 0 0, .int .i64 0, .int .i64 0, .int .i64 0, .int .i64 0] ∧ Below w.heap.size w W7 := fun w6 hn hb =>
    ⟨_, rfl, bx5_put hn _ _ _ _ _, below5 hb (Nat.le_refl _) _ _ _ _ _⟩
  unfold put5 at hzero
  have HZero := Lib.hid hzero
  clear hzero
  cases sh
  rotate_left
  · have HNo := Lib.hid (show G = (QyM.q0, 0, false) from by rw [HGo.out, if_neg (fun h => by cases h.1)])
    obtain ⟨W7, hW7, hn7, hb7⟩ := HZero.out _ HN3.out HB3.out
    obtain ⟨n0, n1, n2, n3, n4⟩ := bx5 HN3.out
    obtain ⟨m0, m1, m2, m3, m4⟩ := bx5_free HN3.out
    have HW7 := Lib.hid hW7
    have HN7 := Lib.hid hn7
    have HB7 := Lib.hid hb7
    clear hW7 hn7 hb7
    go_wp2_with fail
    rw [← HW7.out]
    obtain ⟨g0, g1, g2, g3, g4⟩ := bx5 HN7.out
    exact bodyPost_ret (v := .tuple #[.agg #[.slice none 0 0, .int .i64 0, .int .i64 0, .int .i64 0, .int .i64 0], .int .i64 0, .bool false]) (by simp [results, Tryz.results11, go_sem, g0, g1, g2, g3, g4]) rfl ⟨none, 0, ret_v (by rw [HNo.out]; rfl), by rw [HNo.out]; exact slSt_none _, HB7.out⟩
  · go_wp2_with fail
    refine HWm.out.mono ?_
    rintro e w4 ⟨rfl, hb4⟩
    have HQ4 := Lib.hid (RG.BxN.kept HQ3.out hb4)
    have HX4 := Lib.hid (HX3.out.kept hb4)
    have HN4 := Lib.hid (RG.BxN.kept HN3.out hb4)
    have HB4 := Lib.hid (bt HB3.out hb4)
    have HU4 := Lib.hid (HU3.out.kept hb4)
    clear hb4 HWm HQ3 HX3 HN3 HB3 HU3 p0 p1 q0' q1' q2' q3' q4'
    obtain ⟨⟨p0, p1⟩, _⟩ := HX4.out
    obtain ⟨q0', q1', q2', q3', q4'⟩ := bx5 HQ4.out
    by_cases hmy : May ⟨qp, qw, qa, qi, qf⟩
    · have HYes := Lib.hid (show G = (⟨qp, qw, qa, qi, qf⟩, xn - m, true) from by rw [HGo.out, if_pos (by first | exact ⟨trivial, hmy⟩ | exact ⟨rfl, hmy⟩)])
      rw [decide_eq_true hmy]
      clear hmy HZero HGo
      go_wp2_with fail
      clear p0 p1 q0' q1' q2' q3' q4'
      refine RegB.GS_start (fun x => RG.BxN x w2.heap.size [.slice A1 k c1, .int .i64 qw, .int .i64 qa, .int .i64 qi, .int .i64 qf] ∧ Bx2 x (w.heap.size + 1) (.slice A2 m c2) (.bool false)) (by kernel_rfl) (by repeat (first | exact Reg.frameless_bodyPost | refine Reg.frameless_then ?_ | refine Reg.frameless_inBlock ?_)) (fun W hW => ⟨RG.BxN.kept HQ4.out hW, HX4.out.kept hW⟩) (fun W hW => ?_)
      have HNW := Lib.hid (RG.BxN.kept HN4.out hW)
      have HBW := Lib.hid (bt HB4.out hW)
      have HUW := Lib.hid (HU4.out.kept hW)
      have HSW := Lib.hid (show RG.BxN W w2.heap.size [.slice A1 k c1, .int .i64 qw, .int .i64 qa, .int .i64 qi, .int .i64 qf] ∧ Bx2 W (w.heap.size + 1) (.slice A2 m c2) (.bool false) from ⟨RG.BxN.kept HQ4.out hW, HX4.out.kept hW⟩)
      have x0 : ∀ x : RegB.At (fun x => RG.BxN x w2.heap.size [.slice A1 k c1, .int .i64 qw, .int .i64 qa, .int .i64 qi, .int .i64 qf] ∧ Bx2 x (w.heap.size + 1) (.slice A2 m c2) (.bool false)), x.world.cell? ⟨w2.heap.size, 0, none⟩ = some (.slice A1 k c1) := fun x => (bx5 x.ok.1).1
      have x1 : ∀ x : RegB.At (fun x => RG.BxN x w2.heap.size [.slice A1 k c1, .int .i64 qw, .int .i64 qa, .int .i64 qi, .int .i64 qf] ∧ Bx2 x (w.heap.size + 1) (.slice A2 m c2) (.bool false)), x.world.cell? ⟨w2.heap.size, 1, none⟩ = some (.int .i64 qw) := fun x => (bx5 x.ok.1).2.1
      have x2 : ∀ x : RegB.At (fun x => RG.BxN x w2.heap.size [.slice A1 k c1, .int .i64 qw, .int .i64 qa, .int .i64 qi, .int .i64 qf] ∧ Bx2 x (w.heap.size + 1) (.slice A2 m c2) (.bool false)), x.world.cell? ⟨w2.heap.size, 2, none⟩ = some (.int .i64 qa) := fun x => (bx5 x.ok.1).2.2.1
      have x3 : ∀ x : RegB.At (fun x => RG.BxN x w2.heap.size [.slice A1 k c1, .int .i64 qw, .int .i64 qa, .int .i64 qi, .int .i64 qf] ∧ Bx2 x (w.heap.size + 1) (.slice A2 m c2) (.bool false)), x.world.cell? ⟨w2.heap.size, 3, none⟩ = some (.int .i64 qi) := fun x => (bx5 x.ok.1).2.2.2.1
      have x4 : ∀ x : RegB.At (fun x => RG.BxN x w2.heap.size [.slice A1 k c1, .int .i64 qw, .int .i64 qa, .int .i64 qi, .int .i64 qf] ∧ Bx2 x (w.heap.size + 1) (.slice A2 m c2) (.bool false)), x.world.cell? ⟨w2.heap.size, 4, none⟩ = some (.int .i64 qf) := fun x => (bx5 x.ok.1).2.2.2.2
      have x5 : ∀ x : RegB.At (fun x => RG.BxN x w2.heap.size [.slice A1 k c1, .int .i64 qw, .int .i64 qa, .int .i64 qi, .int .i64 qf] ∧ Bx2 x (w.heap.size + 1) (.slice A2 m c2) (.bool false)), x.world.cell? ⟨w.heap.size + 1, 0, none⟩ = some (.slice A2 m c2) := fun x => x.ok.2.1.1
      haveI : Nonempty (RegB.At (fun x => RG.BxN x w2.heap.size [.slice A1 k c1, .int .i64 qw, .int .i64 qa, .int .i64 qi, .int .i64 qf] ∧ Bx2 x (w.heap.size + 1) (.slice A2 m c2) (.bool false))) := ⟨⟨W, HSW.out⟩⟩
      clear hW HN4 HB4 HU4 HQ4 HX4
      refine RegB.GS_step (i := 0) rfl (by kernel_rfl) (by rfl) (fun K hK => ?_); go_big_quiet_op; refine hK _ ?_; clear hK K
      refine RegB.GS_step (i := 1) rfl (by kernel_rfl) (by rfl) (fun K hK => ?_); go_big_quiet_op; refine hK _ ?_; clear hK K
      refine RegB.GS_step (i := 2) rfl (by kernel_rfl) (by rfl) (fun K hK => ?_); go_big_quiet_op; refine hK _ ?_; clear hK K
      refine RegB.GS_step (i := 3) rfl (by kernel_rfl) (by rfl) (fun K hK => ?_); go_big_quiet_op; refine hK _ ?_; clear hK K
      refine RegB.GS_step (i := 4) rfl (by kernel_rfl) (by rfl) (fun K hK => ?_); go_big_quiet_op; refine hK _ ?_; clear hK K
      refine RegB.GS_step (i := 5) rfl (by kernel_rfl) (by rfl) (fun K hK => ?_); go_big_quiet_op; refine hK _ ?_; clear hK K
      refine RegB.GS_step (i := 6) rfl (by kernel_rfl) (by rfl) (fun K hK => ?_); go_big_quiet_op; refine hK _ ?_; clear hK K
      obtain ⟨W7, hW7⟩ : ∃ W7, W7 = put5 W w.heap.size (.slice A1 k c1) (.int .i64 qw) (.int .i64 qa) (.int .i64 qi) (.int .i64 qf) := ⟨_, rfl⟩
      have hn7 := bx5_put HNW.out (.slice A1 k c1) (.int .i64 qw) (.int .i64 qa) (.int .i64 qi) (.int .i64 qf)
      have hg7 := grown5 W w.heap.size (.slice A1 k c1) (.int .i64 qw) (.int .i64 qa) (.int .i64 qi) (.int .i64 qf)
      have hb7 := below5 HBW.out (Nat.le_refl _) (.slice A1 k c1) (.int .i64 qw) (.int .i64 qa) (.int .i64 qi) (.int .i64 qf)
      rw [← hW7] at hn7 hg7 hb7
      have hS7 : RG.BxN W7 w2.heap.size [.slice A1 k c1, .int .i64 qw, .int .i64 qa, .int .i64 qi, .int .i64 qf] ∧ Bx2 W7 (w.heap.size + 1) (.slice A2 m c2) (.bool false) := ⟨RG.BxN.grown HSW.out.1 hg7 (fun e => by injection e with e; omega), HSW.out.2.grown hg7 (fun e => by injection e with e; omega)⟩
      have HU7 := Lib.hid (HUW.out.grown hg7 (by omega))
      have HS7 := Lib.hid hS7
      have HN7 := Lib.hid hn7
      have HB7 := Lib.hid hb7
      obtain ⟨n0, n1, n2, n3, n4⟩ := bx5 HNW.out
      obtain ⟨m0, m1, m2, m3, m4⟩ := bx5_free HNW.out
      unfold put5 at hW7
      have HW7 := Lib.hid hW7
      clear hS7 hn7 hg7 hb7 hW7 HUW HSW HBW HNW
      refine RegB.GS_event (i := 7) rfl (by kernel_rfl) (by rfl) (fun K hK => ?_)
      go_simp
      rw [← HW7.out]
      refine hK _ _ HS7.out ?_
      clear hK K n0 n1 n2 n3 n4 m0 m1 m2 m3 m4
      refine RegB.GS_step (i := 8) rfl (by kernel_rfl) (by rfl) (fun K hK => ?_); go_big_quiet_op; refine hK _ ?_; clear hK K
      refine RegB.GS_step (i := 9) rfl (by kernel_rfl) (by rfl) (fun K hK => ?_); go_big_quiet_op; refine hK _ ?_; clear hK K
      refine RegB.GS_done (by kernel_rfl) ?_
      clear x0 x1 x2 x3 x4 x5
      obtain ⟨g0, g1, g2, g3, g4⟩ := bx5 HN7.out
      go_wp2_with fail
      have hsub : ((xn : Int) - (m : Int)) = ((xn - m : Nat) : Int) := by omega
      exact bodyPost_ret (v := .tuple #[.agg #[.slice A1 k c1, .int .i64 qw, .int .i64 qa, .int .i64 qi, .int .i64 qf], .int .i64 ((xn : Int) - (m : Int)), .bool true]) (by simp [results, Tryz.results11, go_sem, g0, g1, g2, g3, g4]) rfl ⟨A1, c1, ret_v (by rw [HYes.out, hsub, HK.out]; rfl), by rw [HYes.out]; exact HU7.out.st, HB7.out⟩
    · have HNo := Lib.hid (show G = (QyM.q0, 0, false) from by rw [HGo.out, if_neg (fun h => hmy h.2)])
      rw [decide_eq_false hmy]
      clear hmy HGo
      obtain ⟨W7, hW7, hn7, hb7⟩ := HZero.out _ HN4.out HB4.out
      obtain ⟨n0, n1, n2, n3, n4⟩ := bx5 HN4.out
      obtain ⟨m0, m1, m2, m3, m4⟩ := bx5_free HN4.out
      have HW7 := Lib.hid hW7
      have HN7 := Lib.hid hn7
      have HB7 := Lib.hid hb7
      clear hW7 hn7 hb7 HZero
      go_wp2_with fail
      rw [← HW7.out]
      obtain ⟨g0, g1, g2, g3, g4⟩ := bx5 HN7.out
      exact bodyPost_ret (v := .tuple #[.agg #[.slice none 0 0, .int .i64 0, .int .i64 0, .int .i64 0, .int .i64 0], .int .i64 0, .bool false]) (by simp [results, Tryz.results11, go_sem, g0, g1, g2, g3, g4]) rfl ⟨none, 0, ret_v (by rw [HNo.out]; rfl), by rw [HNo.out]; exact slSt_none _, HB7.out⟩
end Go.Proofs.YtbmdkibmfkmjoaaGreat.Qy

namespace Go.Proofs.YtbmdkibmfkmjoaaGreat.Qy
open Go.RowKit Go.Proofs.YtbmdkibmfkmjoaaGreat.BM Go.Proofs.YtbmdkibmfkmjoaaGreat.LM Go.Proofs.YtbmdkibmfkmjoaaGreat.LeM Go.Proofs.YtbmdkibmfkmjoaaGreat.VaM
open Go.Proofs.YtbmdkibmfkmjoaaGreat.Va (ret_v PutSl Put_sl)

theorem tyI : RG.Ty 54 3 1 8 (.int .i64 0) := ⟨by kernel_rfl, by kernel_rfl, by kernel_rfl, fun _ => by kernel_rfl, rfl, by decide, by decide⟩

/-- Numbers, one behind the other. -/
def NumsAt (w : World) (A : Option Addr) (zs : List Nat) : Prop := IsRow w A (zs.map fun z : Nat => Value.int .i64 (z : Int))
theorem NumsAt.kept {w w' : World} {A : Option Addr} {zs : List Nat} (h : NumsAt w A zs) (hb : Below w.heap.size w w') : NumsAt w' A zs := IsRow.kept h hb
theorem numsAt_new (w : World) (zs : List Nat) (T : TypeId) : NumsAt (w.alloc (.cells (zs.map fun z : Nat => Value.int .i64 (z : Int)).toArray T)) (some ⟨w.heap.size, 0, none⟩) zs := by
  intro _
  refine ⟨w.heap.size, 0, rfl, fun j u hj => ?_⟩
  rw [World.cell?_alloc_at (hn := rfl), Nat.zero_add]
  simpa using hj
theorem numsAt_at {w : World} {A : Option Addr} {zs : List Nat} (h : NumsAt w A zs) (j : Nat) (hj : j < zs.length) :
    ∃ b q, (∀ W n k, j < n → (Instr.indexAt 54 (.slice A n k) (.int .i64 (j : Int))).run Tryz.prog W = .ok (.pointer (some ⟨b, q, none⟩)) W) ∧ w.cell? ⟨b, q, none⟩ = some (.int .i64 ((zs.getD j 0 : Nat) : Int)) := by
  obtain ⟨b, o, rfl, hc⟩ := h (by rw [List.length_map]; omega)
  refine ⟨b, o + j * 1, fun W n k hn => tyI.index W b o n k j hn, ?_⟩
  rw [Nat.mul_one]
  refine hc j _ ?_
  rw [List.getElem?_map, List.getElem?_eq_getElem hj, List.getD_eq_getElem?_getD, List.getElem?_eq_getElem hj]
  rfl

theorem nums_snoc {zs : List Nat} {j : Nat} (hj : j < zs.length) : Gr.puts putL (zs.take (j + 1)) = Gr.puts putL (zs.take j) ++ putL (zs.getD j 0) := by
  rw [List.take_succ_eq_append_getElem hj, Gr.puts_snoc, List.getD_eq_getElem?_getD, List.getElem?_eq_getElem hj]
  rfl
theorem nums_len : ∀ {zs : List Nat}, (∀ z ∈ zs, z ≤ 9223372036854775807) → (Gr.puts putL zs).length ≤ 10 * zs.length
  | [], _ => by simp [Gr.puts]
  | z :: zs, h => by
    have h1 := putL_len64 (n := z) (by have := h z (List.mem_cons_self ..); omega)
    have h2 := nums_len (zs := zs) fun y hy => h y (List.mem_cons_of_mem _ hy)
    rw [Gr.puts, List.length_append, List.length_cons]
    omega
theorem nums_bytes : ∀ {zs : List Nat}, ∀ x ∈ Gr.puts putL zs, (0 : Int) ≤ x ∧ x < 256
  | [], x, hx => by cases hx
  | z :: zs, x, hx => by
    rw [Gr.puts] at hx
    rcases List.mem_append.1 hx with h | h
    · exact putL_bytes _ x h
    · exact nums_bytes x h

/-- Bytes of the call's own. -/
def Owned (w : World) (ys : List Int) : Ending → World → Prop := fun e w' => ∃ v, e = .returned v ∧ w'.ownsRow w.heap.size 5 1 v ys.length (cs ys) ∧ Below w.heap.size w w'

set_option maxRecDepth 100000 in
set_option maxHeartbeats 2000000 in
theorem putNumbers_any (zs : List Nat) (A : Option Addr) (c : Nat) (w : World) (hI : NumsAt w A zs) (hz : ∀ z ∈ zs, z ≤ 9223372036854775807) (h8 : zs.length ≤ 8) :
    Calls Tryz.prog 23 #[.slice A zs.length c] w (Owned w (Gr.puts putL zs)) := by
  have hsn := fun j => @nums_snoc zs j
  have hln := fun j => nums_len (zs := zs.take j) fun z h => hz z (List.mem_of_mem_take h)
  have hzj := fun j (hj : j < zs.length) => hz (zs.getD j 0) (by rw [List.getD_eq_getElem?_getD, List.getElem?_eq_getElem hj]; exact List.getElem_mem hj)
  have hall : Gr.puts putL (zs.take zs.length) = Gr.puts putL zs := by rw [List.take_length]
  unfold Owned
  obtain ⟨Y, hY⟩ : ∃ Y, Y = Gr.puts putL zs := ⟨_, rfl⟩
  rw [← hY] at hall ⊢
  obtain ⟨n, hn⟩ : ∃ n, n = zs.length := ⟨_, rfl⟩
  rw [← hn] at h8 hall ⊢
  simp only [← hn] at hsn hzj
  have HN := Lib.hid hn
  have HSn := Lib.hid hsn
  have HLn := Lib.hid hln
  have HZj := Lib.hid hzj
  have HAll := Lib.hid hall
  have HI := Lib.hid hI
  clear hn hsn hln hzj hall hI hz hY
  go_enter Tryz.func23, Tryz.ntmps23
  go_wp2_with fail
  go_loopw [3, 7] (fun u i wr => ∃ (j k : Nat), i = .int .i64 j ∧ j ≤ n ∧ k = (Gr.puts putL (zs.take j)).length ∧ wr.ownsRow w.heap.size 5 1 u k (cs (Gr.puts putL (zs.take j))) ∧ Below w.heap.size w wr) (fun _ i _ => n - (intOf i).toNat)
  case atStart => exact ⟨0, 0, rfl, Nat.zero_le _, rfl, World.ownsRow_nil _ _ _ _, Below.refl _ _⟩
  case round =>
    obtain ⟨j, k, rfl, hj, hk, hown, hbel⟩ := hrel
    have hk2 : k ≤ 80 := by
      have := HLn.out j
      rw [List.length_take] at this
      omega
    have HO := Lib.hid hown
    have HK := Lib.hid hk
    have HBl := Lib.hid hbel
    clear hown hk hbel
    by_cases hjn : j < n
    · obtain ⟨b, q, hix, hc⟩ := numsAt_at (HI.out.kept HBl.out) j (by rw [← HN.out]; exact hjn)
      have hi := fun W => hix W n c hjn
      have hs := HSn.out j hjn
      have hz := HZj.out j hjn
      obtain ⟨z, hzz⟩ : ∃ z, z = zs.getD j 0 := ⟨_, rfl⟩
      rw [← hzz] at hc hs hz
      have HP := Lib.hid (fun W => Put_sl z W (by omega))
      have hl := putL_len64 (n := z) (by omega)
      have HS := Lib.hid hs
      clear hix hs hzz
      go_wp2_with fail
      refine (HP.out _).mono ?_
      rintro e w2 ⟨A2, c2, rfl, hs2, _, hb2⟩
      have HO2 := Lib.hid (RegA.own_below HO.out hb2)
      have HB2 := Lib.hid (bt HBl.out hb2)
      have HS2 := Lib.hid hs2
      have hz2 := HB2.out.size
      obtain ⟨m, hm⟩ : ∃ m, m = (putL z).length := ⟨_, rfl⟩
      rw [← hm] at hl ⊢
      have HM := Lib.hid hm
      clear hs2 hb2 hm HP hc hi
      go_wp2_with (at_builtin; refine wp_append_b rfl (.tmp 10) (.tmp 16) rfl w.heap.size _ k _ rfl HO2.out A2 m c2 (putL z) rfl HM.out.symm HS2.out.1 HS2.out.2.2.1 (by omega) hz2 ?_; intro u3 w3 hown3 hgrow3; refine pause ?_)
      have HB3 := Lib.hid (HB2.out.grown hgrow3 hz2 (fun q hq => (HO2.out.lt q hq).1))
      rw [← HS.out] at hown3
      have HO3 := Lib.hid hown3
      have HK3 := Lib.hid (show k + m = (Gr.puts putL (zs.take (j + 1))).length from by rw [HS.out, List.length_append, ← HM.out, ← HK.out])
      clear hown3 hgrow3
      unfold Pause
      go_wp2_with fail
      go_roundw
      case rel => exact ⟨j + 1, k + m, by go_num, by omega, HK3.out, HO3.out, HB3.out⟩
      case measure => simp [intOf]; omega
    · obtain rfl : j = n := by omega
      have hown := HO.out
      rw [HAll.out] at hown
      have hkk := HK.out
      rw [HAll.out] at hkk
      rw [hkk] at hown
      have HO2 := Lib.hid hown
      clear hown hkk
      go_wp2_with fail
      go_ret
      exact ⟨_, rfl, HO2.out, HBl.out⟩
end Go.Proofs.YtbmdkibmfkmjoaaGreat.Qy

namespace Go.Proofs.YtbmdkibmfkmjoaaGreat.Qy
open Go.RowKit Go.Proofs.YtbmdkibmfkmjoaaGreat.BM Go.Proofs.YtbmdkibmfkmjoaaGreat.LeM Go.Proofs.YtbmdkibmfkmjoaaGreat.VaM Go.Proofs.YtbmdkibmfkmjoaaGreat.ExM Go.Proofs.YtbmdkibmfkmjoaaGreat.QyM
open Go.Proofs.YtbmdkibmfkmjoaaGreat.ScM (Nm pn pn_len pn_bytes)

theorem pSt_no {x : St} (h : x.g = false) : pSt x = pn x.s ++ (pL x.f ++ (putL x.lo.toNat ++ (putL x.hi.toNat ++ [0]))) := by
  unfold pSt pG
  rw [h]
  simp only [Bool.false_eq_true, if_false, List.append_nil]
  rw [putL_lt (show (0 : Nat) < 128 by decide)]
  rfl
theorem pSt_yes {x : St} (h : x.g = true) : pSt x = pn x.s ++ (pL x.f ++ (putL x.lo.toNat ++ (putL x.hi.toNat ++ ([1] ++ (pn x.t ++ pL x.h))))) := by
  unfold pSt pG
  rw [h]
  simp only [if_true]
  rw [putL_lt (show (1 : Nat) < 128 by decide)]
  rfl

/-- How long a step's bytes are. -/
theorem pSt_len {x : St} (h : OkS x) : (pSt x).length ≤ 1330 := by
  obtain ⟨h1, h2, h3, h4, h5, h6⟩ := h
  have k1 := pn_len h1
  have k2 := (pL_len h2.1 h2.2).2
  have k3 := putL_len64 (n := x.lo.toNat) (by omega)
  have k4 := putL_len64 (n := x.hi.toNat) (by omega)
  cases hg : x.g
  · rw [pSt_no hg]
    simp only [List.length_append, List.length_cons, List.length_nil]
    omega
  · obtain ⟨h7, h8, h9⟩ := h6 hg
    have k5 := pn_len h7
    have k6 := (pL_len h8 h9).2
    rw [pSt_yes hg]
    simp only [List.length_append, List.length_cons, List.length_nil]
    omega

theorem puts_len : ∀ {p : List St}, (∀ x ∈ p, OkS x) → (Gr.puts pSt p).length ≤ 1330 * p.length
  | [], _ => by simp [Gr.puts]
  | x :: p, h => by
    have h1 := pSt_len (h x (List.mem_cons_self ..))
    have h2 := puts_len (p := p) fun y hy => h y (List.mem_cons_of_mem _ hy)
    rw [Gr.puts, List.length_append, List.length_cons]
    omega

theorem pv_bytes {q : Q} (hr : RngQ q) : ∀ x ∈ QyM.pv q, (0 : Int) ≤ x ∧ x < 256 := by
  unfold QyM.pv
  split
  · rename_i h
    exact law_q.bytes ⟨okQ_of h hr, h⟩
  · intro x hx
    cases hx

end Go.Proofs.YtbmdkibmfkmjoaaGreat.Qy

namespace Go.Proofs.YtbmdkibmfkmjoaaGreat.BM
open Go.RowKit Go.Proofs.YtbmdkibmfkmjoaaGreat.VaM Go.Proofs.YtbmdkibmfkmjoaaGreat.LM

set_option maxRecDepth 100000 in
theorem bytes_of_string (s : ByteArray) (w : World) (hs : s.size ≤ 1000000000) :
    ∃ c w', (convert 9 26 (.string s)).run Tryz.prog w = .ok (.slice (some ⟨w.heap.size, 0, none⟩) s.size c) w' ∧ SlB w' (some ⟨w.heap.size, 0, none⟩) (bl s) c ∧ Below w.heap.size w w' ∧ w.heap.size < w'.heap.size := by
  have h := run_bytes_of_string (P := Tryz.prog) w 9 26 5 s Tryz.underlying9 Tryz.underlying26 Tryz.underlying5
  refine ⟨_, _, h, ⟨⟨bl_bytes s, fun hx => ⟨w.heap.size, 0, rfl, fun j hj => ?_⟩⟩, ?_, (fun e => by cases e), ?_⟩, ((Below.refl _ w).drew).alloc (Nat.le_refl _) _, ?_⟩
  · have hj' : j < s.data.size := by rw [bl_len] at hj; exact hj
    have h2 := bytesRow_at s (grownCap w s.size 0 5) j hj'
    rw [show w.heap.size = w.drew.heap.size from rfl, World.cell?_alloc_mark, Nat.zero_add, h2]
    simp only [bl, List.getD_eq_getElem?_getD, List.getElem?_map, Array.getElem?_toList, Array.getElem?_eq_getElem hj', Option.map_some, Option.getD_some]
  · rw [bl_len]
    exact grownCap_ge w _ _ _
  · exact grownCap_le_maxLen w s.size 0 5 (by unfold maxLen; omega)
  · simp
end Go.Proofs.YtbmdkibmfkmjoaaGreat.BM

namespace Go.Proofs.YtbmdkibmfkmjoaaGreat.LM
open Go.RowKit Go.Proofs.YtbmdkibmfkmjoaaGreat.BM

theorem info_sl : (Tryz.prog.info? 26).map (fun i => (i.zero, i.size, i.bytes)) = some (some (.slice none 0 0), 1, 24) := by kernel_rfl

/-- An element: a slice of bytes; p tells of the block in which its bytes lie. -/
def El (p : Nat → Prop) (w : World) (v : Value) (xs : List Int) : Prop :=
  ∃ A c, v = .slice A xs.length c ∧ SlB w A xs c ∧ (0 < xs.length → ∃ b o, A = some ⟨b, o, none⟩ ∧ p b ∧ b < w.heap.size)

theorem El.mono {p q : Nat → Prop} {w : World} {v : Value} {xs : List Int} (h : El p w v xs) (k : ∀ b, b < w.heap.size → p b → q b) : El q w v xs := by
  obtain ⟨A, c, h1, h2, h3⟩ := h
  refine ⟨A, c, h1, h2, fun hx => ?_⟩
  obtain ⟨b, o, e, hp, hb⟩ := h3 hx
  exact ⟨b, o, e, k b hb hp, hb⟩

theorem El.kept {p : Nat → Prop} {w w' : World} {v : Value} {xs : List Int} (h : El p w v xs) (hb : Below w.heap.size w w') : El p w' v xs := by
  obtain ⟨A, c, h1, h2, h3⟩ := h
  refine ⟨A, c, h1, h2.kept hb, fun hx => ?_⟩
  obtain ⟨b, o, e, hp, hlt⟩ := h3 hx
  exact ⟨b, o, e, hp, Nat.lt_of_lt_of_le hlt hb.size⟩

theorem El.grown {p : Nat → Prop} {w w' : World} {r : Option Nat} {v : Value} {xs : List Int} (h : El p w v xs) (hg : w.grownBy w' r) (hp : ∀ b, p b → some b ≠ r) : El p w' v xs := by
  obtain ⟨A, c, h1, h2, h3⟩ := h
  refine ⟨A, c, h1, ⟨⟨h2.1.1, fun hx => ?_⟩, h2.2⟩, fun hx => ?_⟩
  · obtain ⟨b, o, e, hpb, hlt⟩ := h3 hx
    obtain ⟨b', o', e', hc⟩ := h2.1.2 hx
    refine ⟨b', o', e', fun j hj => ?_⟩
    have hbb : b' = b := by
      rw [e] at e'
      injection e' with e'
      injection e' with e1 _
      exact e1.symm
    subst hbb
    exact hg.cell (hc j hj) (hp _ hpb)
  · obtain ⟨b, o, e, hpb, hlt⟩ := h3 hx
    exact ⟨b, o, e, hpb, Nat.lt_of_lt_of_le hlt hg.size⟩

/-- A list of them. -/
def Els (p : Nat → Prop) (w : World) : List Value → List (List Int) → Prop
  | [], [] => True
  | v :: vs, x :: xs => El p w v x ∧ Els p w vs xs
  | [], _ :: _ => False
  | _ :: _, [] => False

theorem Els.len {p : Nat → Prop} {w : World} : ∀ {vs : List Value} {ls : List (List Int)}, Els p w vs ls → vs.length = ls.length
  | [], [], _ => rfl
  | _ :: vs, _ :: ls, h => by rw [List.length_cons, List.length_cons, Els.len h.2]
  | [], _ :: _, h => h.elim
  | _ :: _, [], h => h.elim

theorem Els.map {p q : Nat → Prop} {w w' : World} (k : ∀ v xs, El p w v xs → El q w' v xs) : ∀ {vs : List Value} {ls : List (List Int)}, Els p w vs ls → Els q w' vs ls
  | [], [], _ => trivial
  | _ :: _, _ :: _, h => ⟨k _ _ h.1, Els.map k h.2⟩
  | [], _ :: _, h => h.elim
  | _ :: _, [], h => h.elim

theorem Els.app {p : Nat → Prop} {w : World} {us : List Value} {ms : List (List Int)} (k : Els p w us ms) : ∀ {vs : List Value} {ls : List (List Int)}, Els p w vs ls → Els p w (vs ++ us) (ls ++ ms)
  | [], [], _ => k
  | _ :: _, _ :: _, h => ⟨h.1, Els.app k h.2⟩
  | [], _ :: _, h => h.elim
  | _ :: _, [], h => h.elim

theorem Els.at {p : Nat → Prop} {w : World} : ∀ {vs : List Value} {ls : List (List Int)}, Els p w vs ls → ∀ j, j < ls.length → ∃ v, vs[j]? = some v ∧ El p w v (ls.getD j [])
  | [], [], _, j, hj => by simp at hj
  | v :: vs, x :: ls, h, 0, _ => ⟨v, rfl, h.1⟩
  | v :: vs, x :: ls, h, j + 1, hj => by
    obtain ⟨u, h1, h2⟩ := Els.at h.2 j (by simpa using hj)
    exact ⟨u, by simpa using h1, by simpa using h2⟩
  | [], _ :: _, h, _, _ => h.elim
  | _ :: _, [], h, _, _ => h.elim

theorem Els.one {p : Nat → Prop} {w : World} {vs : List Value} {ls : List (List Int)} (h : Els p w vs ls) : ∀ u ∈ vs, u.oneCell' = true := by
  intro u hu
  obtain ⟨j, hj, rfl⟩ := List.getElem_of_mem hu
  obtain ⟨v, h1, h2⟩ := h.at j (by rw [← h.len]; exact hj)
  rw [List.getElem?_eq_getElem hj] at h1
  injection h1 with h1
  obtain ⟨A, c, e, _⟩ := h2
  rw [h1, e]
  rfl

theorem own_isRow {w : World} {base n : Nat} {A : Option Addr} {m c : Nat} {vs : List Value} (h : w.ownsRow base 26 1 (.slice A m c) n vs) : IsRow w A vs := by
  intro hx
  rcases h.2 with ⟨hv, h0⟩ | ⟨g, cap, cur, hv, hg, hh, hcap, hmx, hrest⟩
  · have h1 := h.1
    omega
  · injection hv with e1 e2 e3
    subst e1
    refine ⟨g, 0, rfl, fun j u hj => ?_⟩
    have hc := h.cells (g := g) rfl j u hj
    rwa [Addr.add_lit] at hc

/-- A slice of slices of bytes. -/
def IsL (p : Nat → Prop) (w : World) (A : Option Addr) (c : Nat) (ls : List (List Int)) : Prop := (∃ vs, IsRow w A vs ∧ Els p w vs ls) ∧ ls.length ≤ c ∧ (A = none → c = 0) ∧ c ≤ maxLen

theorem IsL.kept {p : Nat → Prop} {w w' : World} {A : Option Addr} {c : Nat} {ls : List (List Int)} (h : IsL p w A c ls) (hb : Below w.heap.size w w') : IsL p w' A c ls := by
  obtain ⟨⟨vs, h1, h2⟩, h3⟩ := h
  exact ⟨⟨vs, h1.kept hb, h2.map fun _ _ h => h.kept hb⟩, h3⟩

theorem IsL.mono {p q : Nat → Prop} {w : World} {A : Option Addr} {c : Nat} {ls : List (List Int)} (h : IsL p w A c ls) (k : ∀ b, b < w.heap.size → p b → q b) : IsL q w A c ls := by
  obtain ⟨⟨vs, h1, h2⟩, h3⟩ := h
  exact ⟨⟨vs, h1, h2.map fun _ _ h => h.mono k⟩, h3⟩

theorem isL_none (p : Nat → Prop) (w : World) : IsL p w none 0 [] := ⟨⟨[], (fun h => by simp at h), trivial⟩, Nat.le_refl _, (fun _ => rfl), Nat.zero_le _⟩

/-- The j-th of them. -/
theorem IsL.at {p : Nat → Prop} {w : World} {A : Option Addr} {c : Nat} {ls : List (List Int)} (h : IsL p w A c ls) (j : Nat) (hj : j < ls.length) :
    ∃ b o A' c', A = some ⟨b, o, none⟩ ∧ w.cell? ⟨b, o + j, none⟩ = some (.slice A' (ls.getD j []).length c') ∧ SlB w A' (ls.getD j []) c' := by
  obtain ⟨⟨vs, h1, h2⟩, h3⟩ := h
  obtain ⟨b, o, e, hc⟩ := h1 (by rw [h2.len]; omega)
  obtain ⟨v, hv, A', c', he, hs, _⟩ := h2.at j hj
  rw [he] at hv
  exact ⟨b, o, A', c', e, hc j _ hv, hs⟩

set_option maxRecDepth 100000 in
/-- append onto slices of bytes that are owned, whatever the source. -/
theorem wp_append_l {w : World} {ops : Array Oper} {rest : List Oper} {o : Oper} {a : Act} {Q : Exit → Act → World → Prop} (hgd : o.guard = none) (s x : Operand)
    (ho : o.op = .call { callee := .builtin .append, args := #[s, x], argTypes := #[110, 110] })
    (base : Nat) (v : Value) (n : Nat) (vs : List Value) (ls : List (List Int)) (hs : a.eval s = v) (hown : w.ownsRow base 26 1 v n vs) (hE : Els (ne v) w vs ls)
    (A : Option Addr) (m c : Nat) (us : List Value) (ms : List (List Int)) (hx : a.eval x = .slice A m c) (hm : us.length = m) (hR : IsRow w A us) (hF : Els (ne v) w us ms) (hnil : A = none → c = 0)
    (hsz : n + m ≤ 1000000000) (hbase : base ≤ w.heap.size)
    (h : ∀ v' w', w'.ownsRow base 26 1 v' (n + m) (vs ++ us) → Els (ne v') w' (vs ++ us) (ls ++ ms) → w.grownBy w' v.ownBlock → (v'.ownBlock = v.ownBlock ∨ v'.ownBlock = some w.heap.size) → wpList Tryz.prog ops Q rest (a.put o.dst v') w') : wpList Tryz.prog ops Q (o :: rest) a w := by
  obtain ⟨i0, hi, hz0, hz1, hz2⟩ := info_parts info_sl
  match A, hx, hR, hnil with
  | none, hx, hR, hnil =>
    have hy : us = [] := by
      rcases Nat.eq_zero_or_pos us.length with h0 | h0
      · exact List.eq_nil_of_length_eq_zero h0
      · obtain ⟨b, q, he, _⟩ := hR h0
        cases he
    subst hy
    simp only [List.length_nil] at hm
    subst hm
    obtain rfl := hnil rfl
    have hms : ms = [] := by
      have := hF.len
      exact List.eq_nil_of_length_eq_zero this.symm
    subst hms
    refine wpList_append_own_none hgd s x 110 ho base 26 i0 1 Tryz.underlying110 hi v n vs hs hown hx (h v w ?_ ?_ (World.grownBy.refl _ _) (Or.inl rfl))
    · simpa using hown
    · simpa using hE
  | some ad, hx, hR, _ =>
    refine wpList_append_own_at w hgd s x 110 ho base 26 i0 (.slice none 0 0) 1 24 Tryz.underlying110 hi hz0 hz1 hz2 rfl (by decide) v n vs hs hown ad m c us hx (by rw [hm, Nat.mul_one]) ?_ hF.one (by unfold maxLen; omega) (by omega) hbase ?_
    · intro j u hj
      have hjl : j < us.length := (List.getElem?_eq_some_iff.1 hj).1
      obtain ⟨b, q, he, hc⟩ := hR (by omega)
      injection he with he
      subst he
      rw [Addr.add_lit]
      exact hc j u hj
    · intro v' w' h1 h2 _ h4
      refine h v' w' h1 ?_ h2 h4
      have hall := Els.app hF hE
      exact (hall.map fun _ _ e => e.mono fun b hb hn => (⟨hn, hb⟩ : ne v b ∧ b < w.heap.size)).map fun _ _ e => (e.grown h2 fun b hb => hb.1).mono fun b _ hb => ne_fresh h4 b hb.2 hb.1

set_option maxRecDepth 100000 in
/-- append onto slices of bytes that are owned, whatever the source; p0 tells more of the blocks. -/
theorem wp_append_lp (p0 : Nat → Prop) {w : World} {ops : Array Oper} {rest : List Oper} {o : Oper} {a : Act} {Q : Exit → Act → World → Prop} (hgd : o.guard = none) (s x : Operand)
    (ho : o.op = .call { callee := .builtin .append, args := #[s, x], argTypes := #[110, 110] })
    (base : Nat) (v : Value) (n : Nat) (vs : List Value) (ls : List (List Int)) (hs : a.eval s = v) (hown : w.ownsRow base 26 1 v n vs) (hE : Els (fun b => p0 b ∧ ne v b) w vs ls)
    (A : Option Addr) (m c : Nat) (us : List Value) (ms : List (List Int)) (hx : a.eval x = .slice A m c) (hm : us.length = m) (hR : IsRow w A us) (hF : Els (fun b => p0 b ∧ ne v b) w us ms) (hnil : A = none → c = 0)
    (hsz : n + m ≤ 1000000000) (hbase : base ≤ w.heap.size)
    (h : ∀ v' w', w'.ownsRow base 26 1 v' (n + m) (vs ++ us) → Els (fun b => p0 b ∧ ne v' b) w' (vs ++ us) (ls ++ ms) → w.grownBy w' v.ownBlock → (v'.ownBlock = v.ownBlock ∨ v'.ownBlock = some w.heap.size) → wpList Tryz.prog ops Q rest (a.put o.dst v') w') : wpList Tryz.prog ops Q (o :: rest) a w := by
  obtain ⟨i0, hi, hz0, hz1, hz2⟩ := info_parts info_sl
  match A, hx, hR, hnil with
  | none, hx, hR, hnil =>
    have hy : us = [] := by
      rcases Nat.eq_zero_or_pos us.length with h0 | h0
      · exact List.eq_nil_of_length_eq_zero h0
      · obtain ⟨b, q, he, _⟩ := hR h0
        cases he
    subst hy
    simp only [List.length_nil] at hm
    subst hm
    obtain rfl := hnil rfl
    have hms : ms = [] := by
      have := hF.len
      exact List.eq_nil_of_length_eq_zero this.symm
    subst hms
    refine wpList_append_own_none hgd s x 110 ho base 26 i0 1 Tryz.underlying110 hi v n vs hs hown hx (h v w ?_ ?_ (World.grownBy.refl _ _) (Or.inl rfl))
    · simpa using hown
    · simpa using hE
  | some ad, hx, hR, _ =>
    refine wpList_append_own_at w hgd s x 110 ho base 26 i0 (.slice none 0 0) 1 24 Tryz.underlying110 hi hz0 hz1 hz2 rfl (by decide) v n vs hs hown ad m c us hx (by rw [hm, Nat.mul_one]) ?_ hF.one (by unfold maxLen; omega) (by omega) hbase ?_
    · intro j u hj
      have hjl : j < us.length := (List.getElem?_eq_some_iff.1 hj).1
      obtain ⟨b, q, he, hc⟩ := hR (by omega)
      injection he with he
      subst he
      rw [Addr.add_lit]
      exact hc j u hj
    · intro v' w' h1 h2 _ h4
      refine h v' w' h1 ?_ h2 h4
      have hall := Els.app hF hE
      exact (hall.map fun _ _ e => e.mono fun b hb hn => (⟨hn, hb⟩ : (p0 b ∧ ne v b) ∧ b < w.heap.size)).map fun _ _ e => (e.grown h2 fun b hb => hb.1.2).mono fun b _ hb => ⟨hb.1.1, ne_fresh h4 b hb.2 hb.1.2⟩
end Go.Proofs.YtbmdkibmfkmjoaaGreat.LM

namespace Go.Proofs.YtbmdkibmfkmjoaaGreat.LM
open Go.RowKit Go.Proofs.YtbmdkibmfkmjoaaGreat.BM

theorem isRow_new (w : World) (vs : List Value) : IsRow (w.alloc (.cells vs.toArray 26)) (some ⟨w.heap.size, 0, none⟩) vs := by
  intro _
  refine ⟨w.heap.size, 0, rfl, fun j u hj => ?_⟩
  rw [World.cell?_alloc_at (hn := rfl), Nat.zero_add]
  simpa using hj

theorem el_any {w : World} {A : Option Addr} {xs : List Int} {c : Nat} (h : SlB w A xs c) : El (fun _ => True) w (.slice A xs.length c) xs := by
  refine ⟨A, c, rfl, h, fun hx => ?_⟩
  obtain ⟨b, o, e, hc⟩ := h.1.2 hx
  exact ⟨b, o, e, trivial, World.block_lt_of_cell? w _ (hc 0 hx)⟩
end Go.Proofs.YtbmdkibmfkmjoaaGreat.LM

namespace Go.Proofs.YtbmdkibmfkmjoaaGreat.Std
open Go.RowKit Go.Proofs.YtbmdkibmfkmjoaaGreat.BM Go.Proofs.YtbmdkibmfkmjoaaGreat.LM

set_option maxRecDepth 100000 in
/-- A nil slice grown: nothing in it, in memory of the call's own. -/
theorem Grow_nil (n : Nat) (w : World) (hn : n ≤ 100000000) :
    Calls Tryz.prog 81 #[.slice none 0 0, .int .i64 (n : Int)] w fun e w' => ∃ v, e = .returned v ∧ w'.ownsRow w.heap.size 5 1 v 0 [] ∧ Below w.heap.size w w' := by
  by_cases h0 : n = 0
  · subst h0
    go_enter Tryz.func81, Tryz.ntmps81
    go_wp2
    go_ret
    exact ⟨_, rfl, World.ownsRow_nil _ _ _ _, Below.refl _ _⟩
  · obtain ⟨i0, hi, hz0, hz1, hz2⟩ := info_parts info_u8
    have hold : (Builtin.firstCells i0.size 0 (.slice none 0 0)).run Tryz.prog w.drew = .ok ([] : List Value).toArray w.drew := run_firstCells_none w.drew i0.size 0 0 0
    have hrz : ∀ ty, (Builtin.append_ #[26, 3] ty #[.slice none 0 0, .int .i64 (n : Int)]).run Tryz.prog w =
        .ok (.slice (some ⟨w.heap.size, 0, none⟩) n (grownCap w n 0 5)) (w.drew.alloc (.cells (([] : List Value).toArray ++ Builtin.zeroCells (Value.cells (.int .u8 0)) n ++ Builtin.zeroCells (Value.cells (.int .u8 0)) (grownCap w n 0 5 - n)) 5)) := fun ty => by
      have h := Lib.run_append_grow_zeros w 26 3 ty 5 i0 (.int .u8 0) .i64 .i64 Tryz.underlying26 Tryz.underlying3 hi hz0 none 0 0 [] hold n (by omega) (by omega) (by omega) (by omega)
        (by rw [hz2]; omega) (by have := growslice_fits (need := 0 + n) (bytes := i0.bytes) (old := 0) (by omega) (by rw [hz2]; omega); exact this)
      rw [Nat.zero_add] at h
      exact h
    have hGn : n ≤ grownCap w n 0 5 := grownCap_ge w _ _ _
    have hGm : grownCap w n 0 5 ≤ maxLen := grownCap_le_maxLen w n 0 5 (by unfold maxLen; omega)
    obtain ⟨G, hG⟩ : ∃ G, G = grownCap w n 0 5 := ⟨_, rfl⟩
    rw [← hG] at hrz hGn hGm
    have hG63 : G ≤ 9223372036854775807 := by unfold maxLen at hGm; omega
    have h1 : (0 : Int) < n := by omega
    have Hown := Lib.hid (World.ownsRow_made (base := w.heap.size) (e := 5) (size := 1) w.drew (([] : List Value).toArray ++ Builtin.zeroCells (Value.cells (.int .u8 0)) n ++ Builtin.zeroCells (Value.cells (.int .u8 0)) (G - n)) G (Nat.le_refl _) hGm
      (by have e : (Value.cells (.int .u8 0)).size = 1 := rfl
          simp [size_zeroCells, e]; omega))
    have HB := Lib.hid (((Below.refl _ w).drew).alloc (Nat.le_refl _) (.cells (([] : List Value).toArray ++ Builtin.zeroCells (Value.cells (.int .u8 0)) n ++ Builtin.zeroCells (Value.cells (.int .u8 0)) (G - n)) 5))
    obtain ⟨W1, hW1⟩ : ∃ W1, W1 = w.drew.alloc (.cells (([] : List Value).toArray ++ Builtin.zeroCells (Value.cells (.int .u8 0)) n ++ Builtin.zeroCells (Value.cells (.int .u8 0)) (G - n)) 5) := ⟨_, rfl⟩
    rw [← hW1] at hrz Hown HB
    clear hold hG hW1 hGm h0 hi hz0 hz1 hz2
    go_enter Tryz.func81, Tryz.ntmps81
    go_wp2_with (at_builtin; refine Lib.wpList_append_run _ rfl (.tmp 20) (.tmp 21) _ _ rfl _ _ rfl rfl _ _ (hrz _) ?_)
    go_ret
    exact ⟨_, rfl, Hown.out, HB.out⟩

theorem take_succ_flat (ls : List (List Int)) (k : Nat) (hk : k < ls.length) : (ls.take (k + 1)).flatten = (ls.take k).flatten ++ ls.getD k [] := by
  rw [List.take_succ_eq_append_getElem hk, List.flatten_append, List.flatten_singleton]
  simp [List.getD_eq_getElem?_getD, hk]

theorem flat_le (ls : List (List Int)) (k : Nat) : (ls.take k).flatten.length ≤ ls.flatten.length := by
  have h : ls.flatten = (ls.take k).flatten ++ (ls.drop k).flatten := by rw [← List.flatten_append, List.take_append_drop]
  rw [h, List.length_append]
  omega

theorem flat_bytes {p : Nat → Prop} {w : World} {A : Option Addr} {c : Nat} {ls : List (List Int)} (h : IsL p w A c ls) : ∀ x ∈ ls.flatten, (0 : Int) ≤ x ∧ x < 256 := by
  intro x hx
  obtain ⟨l, hl, hxl⟩ := List.mem_flatten.1 hx
  obtain ⟨j, hj, rfl⟩ := List.getElem_of_mem hl
  obtain ⟨b, o, A', c', _, _, hs⟩ := h.at j hj
  have e : ls.getD j [] = ls[j] := by simp [List.getD_eq_getElem?_getD, hj]
  rw [e] at hs
  exact hs.1.1 x hxl

set_option maxRecDepth 100000 in
set_option maxHeartbeats 1000000 in
/-- Slices, one behind the other, in memory of the call's own. -/
theorem Concat_any {p : Nat → Prop} (A : Option Addr) (c : Nat) (ls : List (List Int)) (w : World) (h : IsL p w A c ls) (hm : ls.flatten.length ≤ 100000000) :
    Calls Tryz.prog 50 #[.slice A ls.length c] w fun e w' => ∃ v, e = .returned v ∧ w'.ownsRow w.heap.size 5 1 v ls.flatten.length (cs ls.flatten) ∧ Below w.heap.size w w' := by
  have hlen : ls.length ≤ 9223372036854775807 := by have h1 := h.2.1; have h2 := h.2.2.2; unfold maxLen at h2; omega
  have hfl := flat_le ls
  have HF := Lib.hid hfl
  obtain ⟨N, hN⟩ : ∃ N, N = ls.flatten.length := ⟨_, rfl⟩
  rw [← hN] at hm HF
  have HN := Lib.hid hN
  have HL := Lib.hid h
  have HG := Lib.hid (Grow_nil N w (by omega))
  clear hfl hN h
  go_enter Tryz.func50, Tryz.ntmps50
  go_wp2_with fail
  go_loop [3, 11] (fun s i => ∃ k : Nat, k ≤ ls.length ∧ i = .int .i64 k ∧ s = .int .i64 ((ls.take k).flatten.length : Nat)) (fun _ i => ls.length - (intOf i).toNat)
  case atStart => exact ⟨0, by omega, rfl, rfl⟩
  case round =>
    obtain ⟨k, hk, rfl, rfl⟩ := hrel
    have hs := HF.out k
    by_cases hlt : k < ls.length
    · obtain ⟨b, o, A', c', rfl, hcell, hsl⟩ := HL.out.at k hlt
      have hs1 := HF.out (k + 1)
      have HS := Lib.hid (take_succ_flat ls k hlt)
      rw [HS.out, List.length_append] at hs1
      obtain ⟨S, hS⟩ : ∃ S, S = (ls.take k).flatten.length := ⟨_, rfl⟩
      rw [← hS] at hs hs1 ⊢
      have HS' := Lib.hid hS
      obtain ⟨L, hL⟩ : ∃ L, L = (ls.getD k []).length := ⟨_, rfl⟩
      rw [← hL] at hs1 hcell
      have HL' := Lib.hid hL
      clear hS hL hsl
      go_wp2_with fail
      go_round
      case rel => exact ⟨k + 1, by omega, by go_num, by rw [HS.out, List.length_append, ← HS'.out, ← HL'.out]; go_num⟩
      case measure => simp [intOf]; omega
    · obtain rfl : k = ls.length := by omega
      rw [List.take_length, ← HN.out]
      clear hs
      go_wp2_with fail
      refine HG.out.mono ?_
      rintro e w1 ⟨v0, rfl, hown0, hb0⟩
      have Hown0 := Lib.hid hown0
      have Hb0 := Lib.hid hb0
      clear hown0 hb0
      go_wp2_with fail
      go_loopw [6, 27] (fun v i wr => ∃ k : Nat, k ≤ ls.length ∧ i = .int .i64 k ∧ wr.ownsRow w.heap.size 5 1 v (ls.take k).flatten.length (cs (ls.take k).flatten) ∧ Below w.heap.size w wr) (fun _ i _ => ls.length - (intOf i).toNat)
      case atStart => exact ⟨0, by omega, rfl, by simpa [cs] using Hown0.out, Hb0.out⟩
      case round =>
        obtain ⟨k, hk, rfl, hown, hb⟩ := hrel
        have hs := HF.out k
        by_cases hlt : k < ls.length
        · obtain ⟨b, o, A', c', rfl, hcell', hsl'⟩ := HL.out.at k hlt
          have hsl := hsl'.kept hb
          have hcell : wr.cell? ⟨b, o + k, none⟩ = some (.slice A' (ls.getD k []).length c') := by
            rw [hb.cell (p := ⟨b, o + k, none⟩) (World.block_lt_of_cell? w _ hcell')]
            exact hcell'
          have hs1 := HF.out (k + 1)
          have hS := take_succ_flat ls k hlt
          obtain ⟨x, hx⟩ : ∃ x, x = ls.getD k [] := ⟨_, rfl⟩
          rw [← hx] at hS hcell hsl
          have HS := Lib.hid hS
          clear hS hx
          rw [HS.out, List.length_append] at hs1
          have Hown := Lib.hid hown
          have Hsl := Lib.hid hsl
          have Hb := Lib.hid hb
          have hbs := hb.size
          clear hcell' hsl' hown hsl hb
          go_wp2_with (at_builtin; refine wp_append_b rfl (.tmp 31) (.tmp 32) rfl w.heap.size _ _ _ rfl Hown.out A' x.length c' x rfl rfl Hsl.out.1 Hsl.out.2.2.1 (by omega) hbs ?_; intro v1 w1 hown1 hgrow1; refine pause ?_)
          have hb1 := Hb.out.grown hgrow1 hbs (fun q hq => (Hown.out.lt q hq).1)
          have Hown1 := Lib.hid hown1
          have Hb1 := Lib.hid hb1
          clear hown1 hgrow1 hb1 hcell
          unfold Pause
          go_wp2
          go_roundw
          case rel => exact ⟨k + 1, by omega, by go_num, by rw [HS.out, List.length_append]; exact Hown1.out, Hb1.out⟩
          case measure => simp [intOf]; omega
        · obtain rfl : k = ls.length := by omega
          rw [List.take_length] at hown
          have Hown := Lib.hid hown
          have Hb := Lib.hid hb
          clear hown hb hs
          go_wp2_with fail
          go_ret
          exact ⟨_, rfl, Hown.out, Hb.out⟩
end Go.Proofs.YtbmdkibmfkmjoaaGreat.Std

namespace Go.Proofs.YtbmdkibmfkmjoaaGreat.Qy
open Go.RowKit Go.Proofs.YtbmdkibmfkmjoaaGreat.BM Go.Proofs.YtbmdkibmfkmjoaaGreat.LM Go.Proofs.YtbmdkibmfkmjoaaGreat.LeM Go.Proofs.YtbmdkibmfkmjoaaGreat.VaM Go.Proofs.YtbmdkibmfkmjoaaGreat.ExM Go.Proofs.YtbmdkibmfkmjoaaGreat.QyM
open Go.Proofs.YtbmdkibmfkmjoaaGreat.Ex (SlO slO_none slO_len)
open Go.Proofs.YtbmdkibmfkmjoaaGreat.Va (ret_v str_e0)
open Go.Proofs.YtbmdkibmfkmjoaaGreat.ScM (Nm pn pn_len pn_bytes)

theorem own_lower {w : World} {base base' n : Nat} {e : TypeId} {size : Nat} {v : Value} {xs : List Value} (h : w.ownsRow base e size v n xs) (hb : base' ≤ base) : w.ownsRow base' e size v n xs := by
  refine ⟨h.1, ?_⟩
  rcases h.2 with h2 | ⟨g, cap, cur, e1, hg, hr⟩
  · exact .inl h2
  · exact .inr ⟨g, cap, cur, e1, Nat.le_trans hb hg, hr⟩

/-- Slices of bytes, listed in a new block. -/
theorem isL_alloc {w : World} {vs : List Value} {ls : List (List Int)} (h : Els (fun _ => True) w vs ls) (hl : vs.length ≤ 1000) : IsL (fun _ => True) (w.alloc (.cells vs.toArray 26)) (some ⟨w.heap.size, 0, none⟩) vs.length ls :=
  ⟨⟨vs, isRow_new w vs, h.map fun _ _ k => k.kept ((Below.refl _ _).alloc (Nat.le_refl _) _)⟩, by rw [h.len]; exact Nat.le_refl _, (fun e => by cases e), by unfold maxLen; omega⟩

set_option maxRecDepth 100000 in
set_option maxHeartbeats 4000000 in
theorem putAsked_any (s : ByteArray) (f : List O) (A : Option Addr) (c : Nat) (w : World) (hs : s.size ≤ 12) (hm : ExM.May f) (hA : SlO w A f c) :
    Calls Tryz.prog 49 #[.string s, .slice A f.length c] w (Owned w (pn s ++ pL f)) := by
  have hp := Ex.PutF_any f A c w hA
  unfold Ex.PuttedF at hp
  have hpv : ExM.pv f = pL f := by rw [ExM.pv, if_pos hm]
  have hl := (pL_len hm hA.rngs).2
  rw [hpv, decide_eq_true hm] at hp
  have hfl : [putL s.size, bl s, pL f].flatten = pn s ++ pL f := by simp [pn]
  have hlen : (pn s ++ pL f).length ≤ 1000 := by rw [List.length_append, pn_len hs]; omega
  have hnum : Gr.puts putL [s.size] = putL s.size := by simp [Gr.puts]
  have hbs := fun W => bytes_of_string s W (by omega)
  unfold Owned
  obtain ⟨Y, hY⟩ : ∃ Y, Y = pn s ++ pL f := ⟨_, rfl⟩
  rw [← hY] at hfl hlen ⊢
  obtain ⟨P, hP⟩ : ∃ P, P = pL f := ⟨_, rfl⟩
  rw [← hP] at hp hfl hl
  obtain ⟨k, hk⟩ : ∃ k, k = P.length := ⟨_, rfl⟩
  rw [← hk] at hp hl
  obtain ⟨n, hn⟩ : ∃ n, n = f.length := ⟨_, rfl⟩
  rw [← hn] at hp ⊢
  have HP := Lib.hid hp
  have HK := Lib.hid hk
  have HFl := Lib.hid hfl
  have HNum := Lib.hid hnum
  have HBs := Lib.hid hbs
  clear hp hk hn hfl hnum hbs hA hm hpv hP hY
  go_enter Tryz.func49, Tryz.ntmps49
  go_wp2_with fail
  refine HP.out.mono ?_
  rintro e w1 ⟨A1, c1, rfl, hs1, _, hb1⟩
  have ha2 := (Below.refl w1.heap.size w1).alloc (Nat.le_refl _) (.cells #[.int .i64 ((s.size : Nat) : Int)] 3)
  have hpn := putNumbers_any [s.size] (some ⟨w1.heap.size, 0, none⟩) 1 _ (numsAt_new w1 [s.size] 3) (fun z hz => by simp only [List.mem_singleton] at hz; omega) (by simp)
  rw [HNum.out] at hpn
  have HPn := Lib.hid hpn
  have HB2 := Lib.hid (bt hb1 ha2)
  have HS2 := Lib.hid (hs1.kept ha2)
  clear hb1 hs1 hpn ha2 HP
  simp only [List.map_cons, List.map_nil, List.length_cons, List.length_nil, Nat.zero_add] at HPn
  go_wp2_with fail
  refine HPn.out.mono ?_
  rintro e w3 ⟨v3, rfl, ho3, hb3⟩
  have hz2 := HB2.out.size
  obtain ⟨A3, c3, rfl, _, hs3, _⟩ := own_slB ho3 (putL_bytes s.size)
  obtain ⟨c4, w4, hcv, hs4, hb4, _⟩ := HBs.out w3
  have HB4 := Lib.hid (bt HB2.out (bt hb3 hb4))
  have HS4 := Lib.hid hs4
  have HS3 := Lib.hid (hs3.kept hb4)
  have HS1 := Lib.hid (HS2.out.kept (bt hb3 hb4))
  clear ho3 hb3 hs3 hs4 hb4 HPn HS2 HB2
  obtain ⟨m, hm⟩ : ∃ m, m = (putL s.size).length := ⟨_, rfl⟩
  rw [← hm]
  have hels : Els (fun _ => True) w4 [.slice A3 m c3, .slice (some ⟨w3.heap.size, 0, none⟩) s.size c4, .slice A1 k c1] [putL s.size, bl s, P] := by
    refine ⟨?_, ?_, ?_, trivial⟩
    · rw [hm]
      exact el_any HS3.out
    · have := el_any HS4.out
      rw [bl_len] at this
      exact this
    · rw [HK.out]
      exact el_any HS1.out
  have hcc := Std.Concat_any _ _ _ _ (isL_alloc hels (by simp)) (by rw [HFl.out]; omega)
  rw [HFl.out] at hcc
  have ha5 := (Below.refl w4.heap.size w4).alloc (Nat.le_refl _) (.cells #[.slice A3 m c3, .slice (some ⟨w3.heap.size, 0, none⟩) s.size c4, .slice A1 k c1] 26)
  have HCc := Lib.hid hcc
  have HB5 := Lib.hid (bt HB4.out ha5)
  clear hels hcc ha5 hm
  simp only [List.length_cons, List.length_nil, Nat.zero_add] at HCc
  go_wp2_with fail
  refine HCc.out.mono ?_
  rintro e w6 ⟨v6, rfl, ho6, hb6⟩
  have hz5 := HB5.out.size
  have HO6 := Lib.hid (own_lower ho6 hz5)
  have HB6 := Lib.hid (bt HB5.out hb6)
  clear ho6 hb6 HCc
  go_wp2_with fail
  go_ret
  exact ⟨v6, rfl, HO6.out, HB6.out⟩

/-- The beginning of a step's bytes. -/
def headSt (x : St) : List Int := (pn x.s ++ pL x.f) ++ (putL x.lo.toNat ++ putL x.hi.toNat)
theorem headSt_no {x : St} (h : x.g = false) : headSt x ++ [0] = pSt x := by
  rw [pSt_no h, headSt]
  simp only [List.append_assoc]
theorem headSt_yes {x : St} (h : x.g = true) : [headSt x, [1], pn x.t ++ pL x.h].flatten = pSt x := by
  rw [pSt_yes h, headSt]
  simp only [List.flatten_cons, List.flatten_nil, List.append_nil, List.append_assoc]

theorem small_put (n : Nat) (h : n < 128) : Gr.puts putL [n] = [(n : Int)] := by
  simp only [Gr.puts, putL_lt h, List.append_nil]

set_option maxRecDepth 100000 in
set_option maxHeartbeats 16000000 in
theorem putStep_any (x : St) (A : Option Addr) (c : Nat) (B : Option Addr) (d : Nat) (w : World) (hx : OkS x) (hm1 : ExM.May x.f) (hA : SlO w A x.f c) (hB : SlO w B x.h d) :
    Calls Tryz.prog 24 #[agSt x A c B d] w (Owned w (pSt x)) := by
  have hX := bxSt_new w x A c B d
  have ha := (Below.refl w.heap.size w).alloc (Nat.le_refl _) (.cells #[.string x.s, .slice A x.f.length c, .int .i64 x.lo, .int .i64 x.hi, .bool x.g, .string x.t, .slice B x.h.length d] 47)
  have hpa1 := fun W (h : Below w.heap.size w W) => putAsked_any x.s x.f A c W hx.1 hm1 (hA.kept h)
  have hpa2 := fun (hg : x.g = true) W (h : Below w.heap.size w W) => putAsked_any x.t x.h B d W (hx.2.2.2.2.2 hg).1 (hx.2.2.2.2.2 hg).2.1 (hB.kept h)
  have hno := @headSt_no x
  have hyes := @headSt_yes x
  have hlen := pSt_len hx
  have hby := law_st.bytes hx
  have h1l : (pn x.s ++ pL x.f).length ≤ 700 := by
    have k1 := pn_len hx.1
    have k2 := (pL_len hm1 hA.rngs).2
    have k3 := hx.1
    rw [List.length_append]
    omega
  have h1b : ∀ y ∈ pn x.s ++ pL x.f, (0 : Int) ≤ y ∧ y < 256 := ScM.bytes_app (pn_bytes _) (pL_bytes hm1)
  have h2b : ∀ y ∈ putL x.lo.toNat ++ putL x.hi.toNat, (0 : Int) ≤ y ∧ y < 256 := ScM.bytes_app (putL_bytes _) (putL_bytes _)
  have hhd : headSt x = (pn x.s ++ pL x.f) ++ (putL x.lo.toNat ++ putL x.hi.toNat) := rfl
  have h3b : x.g = true → ∀ y ∈ pn x.t ++ pL x.h, (0 : Int) ≤ y ∧ y < 256 := fun hg => ScM.bytes_app (pn_bytes _) (pL_bytes (hx.2.2.2.2.2 hg).2.1)
  obtain ⟨klo, hklo⟩ := Int.eq_ofNat_of_zero_le hx.2.2.1.1
  obtain ⟨khi, hkhi⟩ := Int.eq_ofNat_of_zero_le hx.2.2.2.1.1
  have hlo4 : klo ≤ 4 := by have := hx.2.2.1.2; omega
  have hhi4 : khi ≤ 4 := by have := hx.2.2.2.1.2; omega
  have e1 : x.lo.toNat = klo := by omega
  have e2 : x.hi.toNat = khi := by omega
  rw [e1, e2] at hhd h2b
  have hl2 : (putL klo ++ putL khi).length ≤ 20 := by
    have k1 := putL_len64 (n := klo) (by omega)
    have k2 := putL_len64 (n := khi) (by omega)
    rw [List.length_append]
    omega
  have hn2 : Gr.puts putL [klo, khi] = putL klo ++ putL khi := by simp [Gr.puts]
  unfold agSt
  unfold BxSt encSt at hX
  rw [hklo, hkhi] at hX ha ⊢
  obtain ⟨Z, hZ⟩ : ∃ Z, Z = pSt x := ⟨_, rfl⟩
  rw [← hZ] at hno hyes hlen hby ⊢
  obtain ⟨H, hH⟩ : ∃ H, H = headSt x := ⟨_, rfl⟩
  rw [← hH] at hno hyes hhd
  obtain ⟨Y1, hY1⟩ : ∃ Y, Y = pn x.s ++ pL x.f := ⟨_, rfl⟩
  simp only [← hY1] at hhd h1l h1b hpa1
  obtain ⟨Y2, hY2⟩ : ∃ Y, Y = putL klo ++ putL khi := ⟨_, rfl⟩
  rw [← hY2] at hhd hl2 h2b hn2
  obtain ⟨Y3, hY3⟩ : ∃ Y, Y = pn x.t ++ pL x.h := ⟨_, rfl⟩
  rw [← hY3] at hyes h3b
  simp only [← hY3] at hpa2
  clear hx hm1 hA hB hklo hkhi e1 e2 hZ hH hY1 hY2 hY3
  obtain ⟨xs, xf, xlo, xhi, xg, xt, xh⟩ := x
  simp only at hX ha hpa1 hpa2 hno hyes h3b ⊢
  clear xlo xhi
  obtain ⟨n1, hn1⟩ : ∃ n, n = xf.length := ⟨_, rfl⟩
  obtain ⟨n3, hn3⟩ : ∃ n, n = xh.length := ⟨_, rfl⟩
  simp only [← hn1, ← hn3] at hX ha hpa1 hpa2 ⊢
  have HX := Lib.hid hX
  have HB := Lib.hid ha
  have HPa1 := Lib.hid hpa1
  have HPa2 := Lib.hid hpa2
  have HNo := Lib.hid hno
  have HYes := Lib.hid hyes
  have HBy := Lib.hid hby
  have H1b := Lib.hid h1b
  have H2b := Lib.hid h2b
  have H3b := Lib.hid h3b
  have HHd := Lib.hid hhd
  have HN2 := Lib.hid hn2
  unfold Owned at HPa1 HPa2 ⊢
  clear hX ha hpa1 hpa2 hno hyes hby h1b h2b h3b hhd hn2 hn1 hn3
  go_enter Tryz.func24, Tryz.ntmps24
  go_wp2_with fail
  obtain ⟨w1, hw1⟩ : ∃ w1, w1 = w.alloc (.cells #[.string xs, .slice A n1 c, .int .i64 (klo : Int), .int .i64 (khi : Int), .bool xg, .string xt, .slice B n3 d] 47) := ⟨_, rfl⟩
  rw [← hw1] at HX HB ⊢
  clear hw1
  have hws := HB.out.size
  refine RegB.GS_start (fun x => Below w1.heap.size w1 x) (by kernel_rfl) (by repeat (first | exact Reg.frameless_bodyPost | refine Reg.frameless_then ?_ | refine Reg.frameless_inBlock ?_)) (fun W hW => hW) (fun W hW => ?_)
  have HW := Lib.hid hW
  haveI : Nonempty (RegB.At (fun x => Below w1.heap.size w1 x)) := ⟨⟨W, hW⟩⟩
  have x0 := fun x : RegB.At (fun x => Below w1.heap.size w1 x) => (bx7 (RG.BxN.kept HX.out x.ok)).1
  have x1 := fun x : RegB.At (fun x => Below w1.heap.size w1 x) => (bx7 (RG.BxN.kept HX.out x.ok)).2.1
  have x2 := fun x : RegB.At (fun x => Below w1.heap.size w1 x) => (bx7 (RG.BxN.kept HX.out x.ok)).2.2.1
  have x3 := fun x : RegB.At (fun x => Below w1.heap.size w1 x) => (bx7 (RG.BxN.kept HX.out x.ok)).2.2.2.1
  clear hW
  refine RegB.GS_step (i := 0) rfl (by kernel_rfl) (by rfl) (fun K hK => ?_); go_big_quiet_op; refine hK _ ?_; clear hK K
  refine RegB.GS_step (i := 1) rfl (by kernel_rfl) (by rfl) (fun K hK => ?_); go_big_quiet_op; refine hK _ ?_; clear hK K
  refine RegB.GS_step (i := 2) rfl (by kernel_rfl) (by rfl) (fun K hK => ?_); go_big_quiet_op; refine hK _ ?_; clear hK K
  refine RegB.GS_step (i := 3) rfl (by kernel_rfl) (by rfl) (fun K hK => ?_); go_big_quiet_op; refine hK _ ?_; clear hK K
  refine RegB.GS_step (i := 5) rfl (by kernel_rfl) (by rfl) (fun K hK => ?_); go_big_quiet_op; refine hK _ ?_; clear hK K
  refine RegB.GS_step (i := 6) rfl (by kernel_rfl) (by rfl) (fun K hK => ?_); go_big_quiet_op; refine hK _ ?_; clear hK K
  refine RegB.GS_step (i := 7) rfl (by kernel_rfl) (by rfl) (fun K hK => ?_); go_big_quiet_op; refine hK _ ?_; clear hK K
  refine RegB.GS_step (i := 8) rfl (by kernel_rfl) (by rfl) (fun K hK => ?_); go_big_quiet_op; refine hK _ ?_; clear hK K
  refine RegB.GS_fork (i := 4) (j := 9) rfl rfl (by kernel_rfl) (by rfl) (by rfl) (fun K hK => ?_) (fun K hK => ?_)
  focus
    go_simp
    refine (HPa1.out W (bt HB.out HW.out)).mono ?_
    rintro e v4 ⟨u4, rfl, ho4, hb4⟩
    have HB4 := Lib.hid (bt HW.out hb4)
    refine hK _ _ HB4.out ?_
    clear hK K
    have ha5 := (Below.refl v4.heap.size v4).alloc (Nat.le_refl _) (.cells #[.int .i64 (klo : Int), .int .i64 (khi : Int)] 3)
    refine RegB.GS_event (i := 9) rfl (by kernel_rfl) (by rfl) (fun K hK => ?_)
    go_simp
    refine hK _ _ (bt HB4.out ha5) ?_
    clear hK K
    have hnm := putNumbers_any [klo, khi] (some ⟨v4.heap.size, 0, none⟩) 2 _ (numsAt_new v4 [klo, khi] 3) (fun z hz => by simp only [List.mem_cons, List.not_mem_nil, or_false] at hz; omega) (by simp)
    rw [HN2.out] at hnm
    simp only [List.map_cons, List.map_nil, List.length_cons, List.length_nil, Nat.zero_add] at hnm
    obtain ⟨bb, hbb⟩ : ∃ b, b = v4.heap.size := ⟨_, rfl⟩
    obtain ⟨v5, hv5⟩ : ∃ v5, v5 = v4.alloc (.cells #[.int .i64 (klo : Int), .int .i64 (khi : Int)] 3) := ⟨_, rfl⟩
    have hO5 := own_lower (RegA.own_below ho4 ha5) (show w1.heap.size ≤ W.heap.size from HW.out.size)
    have hB5 := bt HB4.out ha5
    rw [← hv5] at hnm hO5 hB5 ⊢
    rw [← hbb] at hnm ⊢
    have HNm := Lib.hid hnm
    have HO5 := Lib.hid hO5
    have HB5 := Lib.hid hB5
    clear hv5 hbb hO5 hnm ho4 hb4 ha5 hB5
  rotate_left
  focus
    go_simp
    have ha4 := (Below.refl W.heap.size W).alloc (Nat.le_refl _) (.cells #[.int .i64 (klo : Int), .int .i64 (khi : Int)] 3)
    have HB4 := Lib.hid (bt HW.out ha4)
    refine hK _ _ HB4.out ?_
    clear hK K
    refine RegB.GS_event (i := 4) rfl (by kernel_rfl) (by rfl) (fun K hK => ?_)
    go_simp
    refine (HPa1.out _ (bt HB.out HB4.out)).mono ?_
    rintro e v5 ⟨u4, rfl, ho4, hb4⟩
    have HB5 := Lib.hid (bt HB4.out hb4)
    refine hK _ _ HB5.out ?_
    clear hK K
    have hnm := putNumbers_any [klo, khi] (some ⟨W.heap.size, 0, none⟩) 2 v5 ((numsAt_new W [klo, khi] 3).kept hb4) (fun z hz => by simp only [List.mem_cons, List.not_mem_nil, or_false] at hz; omega) (by simp)
    rw [HN2.out] at hnm
    simp only [List.length_cons, List.length_nil, Nat.zero_add] at hnm
    have hO5 := own_lower ho4 (show w1.heap.size ≤ _ from Nat.le_trans HW.out.size ha4.size)
    obtain ⟨bb, hbb⟩ : ∃ b, b = W.heap.size := ⟨_, rfl⟩
    rw [← hbb] at hnm ⊢
    have HNm := Lib.hid hnm
    have HO5 := Lib.hid hO5
    clear hbb hO5 hnm ho4 hb4 ha4
  all_goals
    refine RegB.GS_event (i := 10) rfl (by kernel_rfl) (by rfl) (fun K hK => ?_)
    go_simp
    refine HNm.out.mono ?_
    rintro e v6 ⟨u6, rfl, ho6, hb6⟩
    have HB6 := Lib.hid (bt HB5.out hb6)
    refine hK _ _ HB6.out ?_
    clear hK K HNm
    obtain ⟨A6, c6, rfl, _, hs6, _⟩ := own_slB ho6 H2b.out
    have HO6 := Lib.hid (RegA.own_below HO5.out hb6)
    have HS6 := Lib.hid hs6
    have hz6 := HB6.out.size
    obtain ⟨m2, hm2⟩ : ∃ m, m = Y2.length := ⟨_, rfl⟩
    obtain ⟨m1, hm1⟩ : ∃ m, m = Y1.length := ⟨_, rfl⟩
    have hpos : 0 < m2 := by
      rw [hm2, ← HN2.out, Gr.puts, List.length_append]
      have := putL_pos klo
      omega
    rw [← hm2] at hl2 ⊢
    rw [← hm1] at h1l HO6
    have HM2 := Lib.hid hm2
    clear hs6 ho6 hb6 hm2 hm1
    refine RegB.GS_event (i := 11) rfl (by kernel_rfl) (by rfl) (fun K hK => ?_)
    refine RegA.op_append_b (.tmp 8) (.tmp 14) rfl w1.heap.size u4 m1 Y1 rfl HO6.out A6 m2 c6 Y2 rfl HM2.out.symm HS6.out.1 hpos (by omega) hz6 ?_
    intro u7 v7 hown7 hg7
    have HB7 := Lib.hid (HB6.out.grown hg7 hz6 (fun q hq => (HO6.out.lt q hq).1))
    refine hK _ _ HB7.out ?_
    clear hK K
    rw [← HHd.out] at hown7
    obtain ⟨A7, c7, hu7, hl7, hs7, _⟩ := own_slB hown7 (by rw [HHd.out]; exact ScM.bytes_app H1b.out H2b.out)
    rw [hl7] at hown7
    rw [hu7] at hown7 ⊢
    have HO7 := Lib.hid hown7
    have HS7 := Lib.hid hs7
    obtain ⟨k7, hk7⟩ : ∃ k, k = H.length := ⟨_, rfl⟩
    have hkb : k7 ≤ 800 := by omega
    rw [← hk7] at HO7 ⊢
    have HK7 := Lib.hid hk7
    clear hown7 hg7 hu7 hl7 hs7 hk7 HO6 HO5 HS6 x0 x1 x2 x3
    simp only [Act.put, List.setIfInBounds_toArray, List.set_cons_zero, List.set_cons_succ]
    refine RegB.GS_step (i := 12) rfl (by kernel_rfl) (by rfl) (fun K hK => ?_); go_big_quiet_op; refine hK _ ?_; clear hK K
    refine RegB.GS_done (by kernel_rfl) ?_
    obtain ⟨p0, p1, p2, p3, p4, p5, p6⟩ := bx7 (RG.BxN.kept HX.out HB7.out)
    cases xg
    · have HF := Lib.hid (HNo.out rfl)
      have hnm := putNumbers_any [0] (some ⟨v7.heap.size, 0, none⟩) 1 _ (numsAt_new v7 [0] 3) (fun z hz => by simp only [List.mem_singleton] at hz; omega) (by simp)
      rw [small_put 0 (by omega)] at hnm
      simp only [List.map_cons, List.map_nil, List.length_cons, List.length_nil, Nat.zero_add, Int.natCast_zero] at hnm
      have ha8 := (Below.refl v7.heap.size v7).alloc (Nat.le_refl _) (.cells #[.int .i64 0] 3)
      have HNm := Lib.hid hnm
      have HB8 := Lib.hid (bt HB7.out ha8)
      have HO8 := Lib.hid (RegA.own_below HO7.out ha8)
      clear hnm ha8
      go_wp2_with fail
      refine HNm.out.mono ?_
      rintro e v9 ⟨u9, rfl, ho9, hb9⟩
      obtain ⟨A9, c9, rfl, _, hs9, _⟩ := own_slB ho9 (by intro x hx; simp only [List.mem_singleton] at hx; omega)
      have HB9 := Lib.hid (bt HB8.out hb9)
      have HO9 := Lib.hid (RegA.own_below HO8.out hb9)
      have HS9 := Lib.hid hs9
      have hz9 := HB9.out.size
      clear ho9 hb9 hs9 HNm HO8 HB8
      go_wp2_with (at_builtin; refine wp_append_b rfl (.tmp 19) (.tmp 21) rfl w1.heap.size _ k7 _ rfl HO9.out A9 1 c9 [0] rfl rfl HS9.out.1 HS9.out.2.2.1 (by omega) hz9 ?_; intro u10 w10 hown10 hgrow10; refine pause ?_)
      have HB10 := Lib.hid (HB9.out.grown hgrow10 hz9 (fun q hq => (HO9.out.lt q hq).1))
      rw [HF.out] at hown10
      have hll : k7 + 1 = Z.length := by rw [← HF.out, List.length_append, ← HK7.out]; rfl
      rw [hll] at hown10
      have HO10 := Lib.hid (own_lower hown10 hws)
      clear hown10 hgrow10 hll
      unfold Pause
      go_wp2_with fail
      go_ret
      exact ⟨u10, rfl, HO10.out, bt HB.out HB10.out⟩
    · have HF := Lib.hid (HYes.out rfl)
      have HPa3 := Lib.hid (HPa2.out rfl)
      have H3c := Lib.hid (H3b.out rfl)
      clear HYes HNo HPa2 H3b
      go_wp2_with fail
      refine Reg.G_start (by kernel_rfl) (by repeat (first | exact Reg.frameless_bodyPost | refine Reg.frameless_then ?_ | refine Reg.frameless_inBlock ?_)) (fun W8 hW8 => ?_)
      have y5 := Reg.later_cell hW8 p5
      have y6 := Reg.later_cell hW8 p6
      have HW8 := Lib.hid hW8
      clear p0 p1 p2 p3 p4 p5 p6 hW8
      first | (refine Reg.G_step (i := 0) rfl (by kernel_rfl) (by rfl) (fun K hK => ?_); go_big_quiet_op; refine hK _ ?_; clear hK K) | (refine Reg.G_skip (i := 0) rfl (by kernel_rfl) (by rfl) ?_; simp only [Act.put, List.setIfInBounds_toArray, List.set_cons_zero, List.set_cons_succ])
      first | (refine Reg.G_step (i := 3) rfl (by kernel_rfl) (by rfl) (fun K hK => ?_); go_big_quiet_op; refine hK _ ?_; clear hK K) | (refine Reg.G_skip (i := 3) rfl (by kernel_rfl) (by rfl) ?_; simp only [Act.put, List.setIfInBounds_toArray, List.set_cons_zero, List.set_cons_succ])
      first | (refine Reg.G_step (i := 4) rfl (by kernel_rfl) (by rfl) (fun K hK => ?_); go_big_quiet_op; refine hK _ ?_; clear hK K) | (refine Reg.G_skip (i := 4) rfl (by kernel_rfl) (by rfl) ?_; simp only [Act.put, List.setIfInBounds_toArray, List.set_cons_zero, List.set_cons_succ])
      first | (refine Reg.G_step (i := 5) rfl (by kernel_rfl) (by rfl) (fun K hK => ?_); go_big_quiet_op; refine hK _ ?_; clear hK K) | (refine Reg.G_skip (i := 5) rfl (by kernel_rfl) (by rfl) ?_; simp only [Act.put, List.setIfInBounds_toArray, List.set_cons_zero, List.set_cons_succ])
      first | (refine Reg.G_step (i := 6) rfl (by kernel_rfl) (by rfl) (fun K hK => ?_); go_big_quiet_op; refine hK _ ?_; clear hK K) | (refine Reg.G_skip (i := 6) rfl (by kernel_rfl) (by rfl) ?_; simp only [Act.put, List.setIfInBounds_toArray, List.set_cons_zero, List.set_cons_succ])
      refine Reg.G_event (i := 1) rfl (by kernel_rfl) (by rfl) (fun K hK => ?_)
      go_simp
      have ha9 := (Below.refl W8.heap.size W8).alloc (Nat.le_refl _) (.cells #[.int .i64 1] 3)
      refine hK _ _ ha9 ?_
      clear hK K y5 y6
      have hnm := putNumbers_any [1] (some ⟨W8.heap.size, 0, none⟩) 1 _ (numsAt_new W8 [1] 3) (fun z hz => by simp only [List.mem_singleton] at hz; omega) (by simp)
      rw [small_put 1 (by omega)] at hnm
      simp only [List.map_cons, List.map_nil, List.length_cons, List.length_nil, Nat.zero_add, Int.natCast_one] at hnm
      have HNm2 := Lib.hid hnm
      have HB9 := Lib.hid (bt HB7.out (bt HW8.out ha9))
      have HS9 := Lib.hid (HS7.out.kept (bt HW8.out ha9))
      clear hnm ha9
      refine Reg.G_event (i := 2) rfl (by kernel_rfl) (by rfl) (fun K hK => ?_)
      go_simp
      refine HNm2.out.mono ?_
      rintro e v10 ⟨u10, rfl, ho10, hb10⟩
      refine hK _ _ hb10 ?_
      clear hK K HNm2
      obtain ⟨A10, c10, rfl, _, hs10, _⟩ := own_slB ho10 (by intro x hx; simp only [List.mem_singleton] at hx; omega)
      simp only [List.length_cons, List.length_nil, Nat.zero_add]
      have HB10 := Lib.hid (bt HB9.out hb10)
      have HS10 := Lib.hid (HS9.out.kept hb10)
      have HT10 := Lib.hid hs10
      clear ho10 hb10 hs10 HS9 HB9
      refine Reg.G_event (i := 7) rfl (by kernel_rfl) (by rfl) (fun K hK => ?_)
      go_simp
      refine (HPa3.out v10 (bt HB.out HB10.out)).mono ?_
      rintro e v11 ⟨u11, rfl, ho11, hb11⟩
      refine hK _ _ hb11 ?_
      clear hK K
      obtain ⟨A11, c11, rfl, _, hs11, _⟩ := own_slB ho11 H3c.out
      obtain ⟨k11, hk11⟩ : ∃ k, k = Y3.length := ⟨_, rfl⟩
      rw [← hk11]
      have HK11 := Lib.hid hk11
      have HB11 := Lib.hid (bt HB10.out hb11)
      have HS11 := Lib.hid (HS10.out.kept hb11)
      have HT11 := Lib.hid (HT10.out.kept hb11)
      have HU11 := Lib.hid hs11
      clear ho11 hb11 hs11 hk11 HS10 HT10 HB10
      refine Reg.G_event (i := 8) rfl (by kernel_rfl) (by rfl) (fun K hK => ?_)
      go_simp
      have ha12 := (Below.refl v11.heap.size v11).alloc (Nat.le_refl _) (.cells #[.slice A7 k7 c7, .slice A10 1 c10, .slice A11 k11 c11] 26)
      refine hK _ _ ha12 ?_
      clear hK K
      have hels : Els (fun _ => True) v11 [.slice A7 k7 c7, .slice A10 1 c10, .slice A11 k11 c11] [H, [1], Y3] := by
        refine ⟨?_, ?_, ?_, trivial⟩
        · rw [HK7.out]
          exact el_any HS11.out
        · exact el_any HT11.out
        · rw [HK11.out]
          exact el_any HU11.out
      have hcc := Std.Concat_any _ _ _ _ (isL_alloc hels (by simp)) (by rw [HF.out]; omega)
      rw [HF.out] at hcc
      simp only [List.length_cons, List.length_nil, Nat.zero_add] at hcc
      have HCc := Lib.hid hcc
      have HB12 := Lib.hid (bt HB11.out ha12)
      clear hels hcc ha12
      refine Reg.G_event (i := 9) rfl (by kernel_rfl) (by rfl) (fun K hK => ?_)
      go_simp
      refine HCc.out.mono ?_
      rintro e v13 ⟨u13, rfl, ho13, hb13⟩
      refine hK _ _ hb13 ?_
      clear hK K
      have HO13 := Lib.hid (own_lower ho13 (Nat.le_trans hws HB12.out.size))
      have HB13 := Lib.hid (bt HB12.out hb13)
      clear ho13 hb13 HCc
      first | (refine Reg.G_step (i := 10) rfl (by kernel_rfl) (by rfl) (fun K hK => ?_); go_big_quiet_op; refine hK _ ?_; clear hK K) | (refine Reg.G_skip (i := 10) rfl (by kernel_rfl) (by rfl) ?_; simp only [Act.put, List.setIfInBounds_toArray, List.set_cons_zero, List.set_cons_succ])
      refine Reg.G_done rfl ?_
      go_wp2_with fail
      go_ret
      exact ⟨u13, rfl, HO13.out, bt HB.out HB13.out⟩
end Go.Proofs.YtbmdkibmfkmjoaaGreat.Qy

namespace Go.Proofs.YtbmdkibmfkmjoaaGreat.Ex
open Go.RowKit Go.Proofs.YtbmdkibmfkmjoaaGreat.BM Go.Proofs.YtbmdkibmfkmjoaaGreat.VaM Go.Proofs.YtbmdkibmfkmjoaaGreat.Va Go.Proofs.YtbmdkibmfkmjoaaGreat.ExM

theorem ops_iff {l m : List O} (h : l.length = m.length) : l = m ↔ ∀ j, j < l.length → l.getD j o0 = m.getD j o0 := by
  constructor
  · rintro rfl j _
    rfl
  · intro hh
    apply List.ext_getElem h
    intro i h1 h2
    have h3 := hh i h1
    rw [List.getD_eq_getElem?_getD, List.getD_eq_getElem?_getD, List.getElem?_eq_getElem h1, List.getElem?_eq_getElem h2] at h3
    exact h3

set_option maxRecDepth 100000 in
set_option maxHeartbeats 2000000 in
theorem equalO_any (A : Option Addr) (l : List O) (c : Nat) (B : Option Addr) (m : List O) (d : Nat) (w : World) (h : SlO w A l c) (k : SlO w B m d) :
    Calls Tryz.prog 92 #[.slice A l.length c, .slice B m.length d] w fun e w' => e = .returned (.bool (decide (l = m))) ∧ Below w.heap.size w w' := by
  have hl := slO_len h
  have hm := slO_len k
  have hbi := fun hh => ops_iff (l := l) (m := m) hh
  have hno : l.length ≠ m.length → ¬ l = m := fun h1 h2 => h1 (by rw [h2])
  obtain ⟨n, hn⟩ : ∃ n, n = l.length := ⟨_, rfl⟩
  obtain ⟨r, hr⟩ : ∃ r, r = m.length := ⟨_, rfl⟩
  rw [← hn, ← hr] at hbi hno ⊢
  rw [← hn] at hl
  rw [← hr] at hm
  have HN := Lib.hid hn
  have HR := Lib.hid hr
  have HS := Lib.hid h
  have HT := Lib.hid k
  have HBi := Lib.hid hbi
  have HNo := Lib.hid hno
  clear hbi hno hn hr h k
  by_cases hlt : n = r
  · subst hlt
    have HB := Lib.hid (HBi.out rfl)
    clear HBi HNo
    go_enter Tryz.func92, Tryz.ntmps92
    go_wp2_with fail
    go_loopw [13] (fun i wr => ∃ j : Nat, i = .int .i64 j ∧ j ≤ n ∧ (∀ x, x < j → l.getD x o0 = m.getD x o0) ∧ Below w.heap.size w wr) (fun i _ => n - (intOf i).toNat)
    case atStart => exact ⟨0, rfl, Nat.zero_le _, fun x hx => absurd hx (Nat.not_lt_zero x), Below.refl _ _⟩
    case round =>
      obtain ⟨j, rfl, hj, hsame, hbel⟩ := hrel
      have HSm := Lib.hid hsame
      have HBl := Lib.hid hbel
      clear hsame hbel
      by_cases hjr : j < n
      · obtain ⟨b1, q1, hix1, hc1, _⟩ := HS.out.at j (by rw [← HN.out]; omega)
        obtain ⟨b2, q2, hix2, hc2, _⟩ := HT.out.at j (by rw [← HR.out]; omega)
        obtain ⟨⟨oc1, oa1, ⟨k1, n1, s1⟩⟩, hf1⟩ : ∃ f, f = l.getD j o0 := ⟨_, rfl⟩
        obtain ⟨⟨oc2, oa2, ⟨k2, n2, s2⟩⟩, hf2⟩ : ∃ f, f = m.getD j o0 := ⟨_, rfl⟩
        rw [← hf1] at hc1
        rw [← hf2] at hc2
        obtain ⟨c0, c1, c2, c3, c4⟩ := hc2 wr HBl.out
        obtain ⟨e0, e1, e2, e3, e4⟩ := hc1 wr HBl.out
        simp only at c0 c1 c2 c3 c4 e0 e1 e2 e3 e4
        have hi1 := fun W => hix1 W n c (by omega)
        have hi2 := fun W => hix2 W n d hjr
        have hne := fun W => neq_o ⟨oc1, oa1, ⟨k1, n1, s1⟩⟩ ⟨oc2, oa2, ⟨k2, n2, s2⟩⟩ W
        unfold agO at hne
        have HF1 := Lib.hid hf1
        have HF2 := Lib.hid hf2
        clear hc1 hc2 hix1 hix2 hf1 hf2
        by_cases he : (⟨oc1, oa1, ⟨k1, n1, s1⟩⟩ : O) = ⟨oc2, oa2, ⟨k2, n2, s2⟩⟩
        · have hsucc : ∀ x, x < j + 1 → l.getD x o0 = m.getD x o0 := fun x hx => by
            by_cases e : x = j
            · rw [e, ← HF1.out, ← HF2.out, he]
            · exact HSm.out x (by omega)
          simp only [decide_eq_true he, Bool.not_true] at hne
          have HSu := Lib.hid hsucc
          clear he hsucc
          go_wp2_with fail
          go_quiet (fail)
          go_wp2_with fail
          go_roundw
          case rel => exact ⟨j + 1, by go_num, by omega, HSu.out, below_drewN HBl.out _⟩
          case measure => simp [intOf]; omega
        · simp only [decide_eq_false he, Bool.not_false] at hne
          have HNo := Lib.hid (show ¬ l = m from fun h => he (by rw [HF1.out, HF2.out]; exact HB.out.1 h j hjr))
          clear he
          go_wp2_with fail
          go_quiet (fail)
          go_wp2_with fail
          go_ret
          exact ⟨ret_v (x := .bool false) (by rw [decide_eq_false HNo.out]), below_drewN HBl.out _⟩
      · obtain rfl : j = n := by omega
        have HYes := Lib.hid (HB.out.2 HSm.out)
        go_wp2_with fail
        go_ret
        exact ⟨ret_v (x := .bool true) (by rw [decide_eq_true HYes.out]), HBl.out⟩
  · have HNo' := Lib.hid (HNo.out hlt)
    have hd1 : ((n : Int) == r) = false := by rw [beq_eq_false_iff_ne]; omega
    go_enter Tryz.func92, Tryz.ntmps92
    go_wp2_with fail
    go_ret
    exact ⟨ret_v (x := .bool false) (by rw [decide_eq_false HNo'.out]), Below.refl _ _⟩

set_option maxRecDepth 100000 in
theorem Same_any (a b : List O) (A : Option Addr) (c : Nat) (B : Option Addr) (d : Nat) (w : World) (h : SlO w A a c) (k : SlO w B b d) :
    Calls Tryz.prog 65 #[.slice A a.length c, .slice B b.length d] w fun e w' => e = .returned (.bool (decide (a = b))) ∧ Below w.heap.size w w' := by
  have HE := Lib.hid (equalO_any A a c B b d w h k)
  clear h k
  go_enter Tryz.func65, Tryz.ntmps65
  go_wp2_with fail
  refine HE.out.mono ?_
  rintro e w1 ⟨rfl, hb1⟩
  go_wp2_with fail
  go_ret
  exact ⟨rfl, hb1⟩
end Go.Proofs.YtbmdkibmfkmjoaaGreat.Ex

namespace Go.Proofs.YtbmdkibmfkmjoaaGreat.Qy
open Go.RowKit Go.Proofs.YtbmdkibmfkmjoaaGreat.BM Go.Proofs.YtbmdkibmfkmjoaaGreat.LM Go.Proofs.YtbmdkibmfkmjoaaGreat.VaM Go.Proofs.YtbmdkibmfkmjoaaGreat.ExM Go.Proofs.YtbmdkibmfkmjoaaGreat.QyM
open Go.Proofs.YtbmdkibmfkmjoaaGreat.Ex (SlO slO_none slO_len)
open Go.Proofs.YtbmdkibmfkmjoaaGreat.Va (ret_v toList_beq)

/-- The numbers behind the steps, in order. -/
def agB (q : Q) : Value := .agg #[.int .i64 q.w, .int .i64 q.a, .int .i64 q.i, .int .i64 q.f]

set_option maxRecDepth 100000 in
set_option maxHeartbeats 1000000 in
theorem behindSteps_any (q : Q) (A : Option Addr) (c : Nat) (w : World) :
    Calls Tryz.prog 25 #[agQ q A c] w fun e w' => e = .returned (agB q) ∧ Below w.heap.size w w' := by
  have hX := bxQ_new w q A c
  have ha := (Below.refl w.heap.size w).alloc (Nat.le_refl _) (.cells #[.slice A q.p.length c, .int .i64 q.w, .int .i64 q.a, .int .i64 q.i, .int .i64 q.f] 25)
  unfold agQ agB
  unfold BxQ encQ at hX
  obtain ⟨qp, qw, qa, qi, qf⟩ := q
  simp only at hX ha ⊢
  obtain ⟨n, hn⟩ : ∃ n, n = qp.length := ⟨_, rfl⟩
  simp only [← hn] at hX ha ⊢
  have HB := Lib.hid ha
  have HX := Lib.hid hX
  obtain ⟨p0, p1, p2, p3, p4⟩ := bx5 hX
  obtain ⟨u1, hu1⟩ : ∃ u, u = w.alloc (.cells #[.slice A n c, .int .i64 qw, .int .i64 qa, .int .i64 qi, .int .i64 qf] 25) := ⟨_, rfl⟩
  have hs1 : u1.heap.size = w.heap.size + 1 := by rw [hu1]; simp
  have hn4 := RG.bxN_new u1 52 [.int .i64 qw, .int .i64 qa, .int .i64 qi, .int .i64 qf]
  have hb4 := (Below.refl u1.heap.size u1).alloc (Nat.le_refl _) (.cells #[.int .i64 qw, .int .i64 qa, .int .i64 qi, .int .i64 qf] 52)
  rw [← hu1] at ha
  have hbb := bt ha hb4
  rw [hs1, hu1] at hn4
  rw [hu1] at hbb
  have HN4 := Lib.hid hn4
  have HBB := Lib.hid hbb
  clear hX ha hn hu1 hs1 hn4 hb4 hbb u1
  go_enter Tryz.func25, Tryz.ntmps25
  go_wp2_with fail
  have g0 := (HN4.out 0 _ rfl).1
  have g1 := (HN4.out 1 _ rfl).1
  have g2 := (HN4.out 2 _ rfl).1
  have g3 := (HN4.out 3 _ rfl).1
  exact bodyPost_ret (v := .agg #[.int .i64 qw, .int .i64 qa, .int .i64 qi, .int .i64 qf]) (by simp [results, Tryz.results25, go_sem, g0, g1, g2, g3]) rfl ⟨rfl, HBB.out⟩

set_option maxRecDepth 100000 in
/-- ==, of the numbers behind the steps. -/
theorem eql_b (a b : Q) (w : World) : (Op.equalIn 10000 52 (agB a) (agB b)).run Tryz.prog w = .ok (decide (a.w = b.w ∧ a.a = b.a ∧ a.i = b.i ∧ a.f = b.f)) w := by
  have u3 := Tryz.underlying3
  have a3 := Tryz.isAgg3
  have z3 := Tryz.sizeOf3
  unfold agB
  rw [show (10000 : Nat) = 9999 + 1 from rfl, Op.equalIn]
  simp only [Sem.run_bind, run_underlying Tryz.underlying52, Result.andThen_ok]
  simp only [Std.Legacy.Range.forIn_eq_forIn_range', Std.Legacy.Range.size, Nat.sub_zero, Nat.add_sub_cancel, Nat.div_one, List.range'_succ, List.range'_zero, List.forIn_cons, List.forIn_nil]
  go_simp
  by_cases h1 : a.w = b.w
  · by_cases h2 : a.a = b.a
    · by_cases h3 : a.i = b.i
      · by_cases h4 : a.f = b.f
        · simp [h1, h2, h3, h4]
        · simp [h1, h2, h3, h4]
      · simp [h1, h2, h3]
    · simp [h1, h2]
  · simp [h1]

theorem andWays (z1 p z2 z3 z4 z5 : Bool) : ((z1 = false) ∨ (z1 = true ∧ p = false)) ∨ (z1 = true ∧ p = true ∧ (z2 = false ∨ (z2 = true ∧ z3 = false) ∨ (z2 = true ∧ z3 = true ∧ z4 = false) ∨ (z2 = true ∧ z3 = true ∧ z4 = true ∧ z5 = false))) ∨ (z1 = true ∧ p = true ∧ z2 = true ∧ z3 = true ∧ z4 = true ∧ z5 = true) := by
  cases z1 <;> cases p <;> cases z2 <;> cases z3 <;> cases z4 <;> cases z5 <;> simp

set_option maxRecDepth 100000 in
set_option maxHeartbeats 8000000 in
theorem sameStep_any (x y : St) (A : Option Addr) (c : Nat) (B : Option Addr) (d : Nat) (A' : Option Addr) (c' : Nat) (B' : Option Addr) (d' : Nat) (w : World) (hA : SlO w A x.f c) (hB : SlO w B x.h d) (hA' : SlO w A' y.f c') (hB' : SlO w B' y.h d') :
    Calls Tryz.prog 40 #[agSt x A c B d, agSt y A' c' B' d'] w fun e w' => e = .returned (.bool (decide (x = y))) ∧ Below w.heap.size w w' := by
  obtain ⟨zp, e1⟩ : ∃ z, decide (x.f = y.f) = z := ⟨_, rfl⟩
  obtain ⟨zq, e2⟩ : ∃ z, decide (x.h = y.h) = z := ⟨_, rfl⟩
  obtain ⟨z1, e3⟩ : ∃ z, (x.s.toList == y.s.toList) = z := ⟨_, rfl⟩
  obtain ⟨z2, e4⟩ : ∃ z, (x.lo == y.lo) = z := ⟨_, rfl⟩
  obtain ⟨z3, e5⟩ : ∃ z, (x.hi == y.hi) = z := ⟨_, rfl⟩
  obtain ⟨z4, e6⟩ : ∃ z, (x.g == y.g) = z := ⟨_, rfl⟩
  obtain ⟨z5, e7⟩ : ∃ z, (x.t.toList == y.t.toList) = z := ⟨_, rfl⟩
  have hr : decide (x = y) = (z1 && (zp && (z2 && (z3 && (z4 && (z5 && zq)))))) := by
    rw [← e1, ← e2, ← e3, ← e4, ← e5, ← e6, ← e7, toList_beq, toList_beq, Bool.eq_iff_iff]
    simp only [Bool.and_eq_true, decide_eq_true_eq, beq_iff_eq]
    rw [St.ext_iff']
  rw [hr]
  have hm1 := fun W (h : Below w.heap.size w W) => Ex.Same_any x.f y.f A c A' c' W (hA.kept h) (hA'.kept h)
  have hm2 := fun W (h : Below w.heap.size w W) => Ex.Same_any x.h y.h B d B' d' W (hB.kept h) (hB'.kept h)
  simp only [e1] at hm1
  simp only [e2] at hm2
  have hX := bxSt_new w x A c B d
  have hb1 := (Below.refl w.heap.size w).alloc (Nat.le_refl _) (.cells #[.string x.s, .slice A x.f.length c, .int .i64 x.lo, .int .i64 x.hi, .bool x.g, .string x.t, .slice B x.h.length d] 47)
  obtain ⟨u1, hu1⟩ : ∃ u, u = w.alloc (.cells #[.string x.s, .slice A x.f.length c, .int .i64 x.lo, .int .i64 x.hi, .bool x.g, .string x.t, .slice B x.h.length d] 47) := ⟨_, rfl⟩
  have hs1 : u1.heap.size = w.heap.size + 1 := by rw [hu1]; simp
  rw [← hu1] at hX hb1
  have hY := bxSt_new u1 y A' c' B' d'
  rw [hs1] at hY
  have hb2 := (Below.refl u1.heap.size u1).alloc (Nat.le_refl _) (.cells #[.string y.s, .slice A' y.f.length c', .int .i64 y.lo, .int .i64 y.hi, .bool y.g, .string y.t, .slice B' y.h.length d'] 47)
  have hX2 := hX.kept hb2
  have hbb := bt hb1 hb2
  rw [hu1] at hX2 hY hbb
  unfold BxSt encSt at hX2 hY
  unfold agSt
  clear hX hb1 hb2 hs1 hu1 u1 hr e1 e2 hA hB hA' hB'
  obtain ⟨xs, xf, xlo, xhi, xg, xt, xh⟩ := x
  obtain ⟨ys, yf, ylo, yhi, yg, yt, yh⟩ := y
  simp only at hX2 hY hbb hm1 hm2 e3 e4 e5 e6 e7 ⊢
  obtain ⟨n1, hn1⟩ : ∃ n, n = xf.length := ⟨_, rfl⟩
  obtain ⟨n2, hn2⟩ : ∃ n, n = yf.length := ⟨_, rfl⟩
  obtain ⟨n3, hn3⟩ : ∃ n, n = xh.length := ⟨_, rfl⟩
  obtain ⟨n4, hn4⟩ : ∃ n, n = yh.length := ⟨_, rfl⟩
  simp only [← hn1, ← hn2, ← hn3, ← hn4] at hX2 hY hbb hm1 hm2 ⊢
  have HX := Lib.hid hX2
  have HY := Lib.hid hY
  have HB := Lib.hid hbb
  have HM1 := Lib.hid hm1
  have HM2 := Lib.hid hm2
  obtain ⟨r0, r1, r2, r3, r4, r5, r6⟩ := bx7 hX2
  obtain ⟨s0, s1, s2, s3, s4, s5, s6⟩ := bx7 hY
  clear hX2 hY hbb hm1 hm2 hn1 hn2 hn3 hn4
  rcases andWays z1 zp z2 z3 z4 z5 with hbad | ⟨rfl, rfl, hmid⟩ | ⟨rfl, rfl, rfl, rfl, rfl, rfl⟩
  · rcases hbad with rfl | ⟨rfl, rfl⟩
    · go_enter Tryz.func40, Tryz.ntmps40
      go_wp2_with fail
      go_ret
      exact ⟨rfl, HB.out⟩
    · go_enter Tryz.func40, Tryz.ntmps40
      go_wp2_with fail
      refine (HM1.out _ HB.out).mono ?_
      rintro e w2 ⟨rfl, hb2⟩
      have HB2 := Lib.hid (bt HB.out hb2)
      clear hb2 r0 r1 r2 r3 r4 r5 r6 s0 s1 s2 s3 s4 s5 s6
      go_wp2_with fail
      go_ret
      exact ⟨rfl, HB2.out⟩
  · have HF := Lib.hid (show (z2 && (z3 && (z4 && (z5 && zq)))) = false from by rcases hmid with h | ⟨h, h'⟩ | ⟨h, h', h''⟩ | ⟨h, h', h'', h3⟩ <;> simp [*])
    rw [HF.out]
    rcases hmid with rfl | ⟨rfl, rfl⟩ | ⟨rfl, rfl, rfl⟩ | ⟨rfl, rfl, rfl, rfl⟩
    all_goals
      try (cases xg <;> cases yg <;> first | exact absurd e6 (by decide) | skip)
    all_goals
      go_enter Tryz.func40, Tryz.ntmps40
      go_wp2_with fail
      refine (HM1.out _ HB.out).mono ?_
      rintro e w2 ⟨rfl, hb2⟩
      have HB2 := Lib.hid (bt HB.out hb2)
      clear r0 r1 r2 r3 r4 r5 r6 s0 s1 s2 s3 s4 s5 s6
      obtain ⟨r0, r1, r2, r3, r4, r5, r6⟩ := bx7 (RG.BxN.kept HX.out hb2)
      obtain ⟨s0, s1, s2, s3, s4, s5, s6⟩ := bx7 (RG.BxN.kept HY.out hb2)
      clear hb2
      go_wp2_with fail
      go_ret
      exact ⟨rfl, HB2.out⟩
  · cases xg <;> cases yg <;> first | exact absurd e6 (by decide) | skip
    all_goals
      go_enter Tryz.func40, Tryz.ntmps40
      go_wp2_with fail
      refine (HM1.out _ HB.out).mono ?_
      rintro e w2 ⟨rfl, hb2⟩
      have HB2 := Lib.hid (bt HB.out hb2)
      clear r0 r1 r2 r3 r4 r5 r6 s0 s1 s2 s3 s4 s5 s6
      obtain ⟨r0, r1, r2, r3, r4, r5, r6⟩ := bx7 (RG.BxN.kept HX.out hb2)
      obtain ⟨s0, s1, s2, s3, s4, s5, s6⟩ := bx7 (RG.BxN.kept HY.out hb2)
      clear hb2
      go_wp2_with fail
      refine (HM2.out _ HB2.out).mono ?_
      rintro e w3 ⟨rfl, hb3⟩
      have HB3 := Lib.hid (bt HB2.out hb3)
      clear hb3
      go_wp2_with fail
      go_ret
      exact ⟨rfl, HB3.out⟩
end Go.Proofs.YtbmdkibmfkmjoaaGreat.Qy

namespace Go.Proofs.YtbmdkibmfkmjoaaGreat.Qy
open Go.RowKit Go.Proofs.YtbmdkibmfkmjoaaGreat.BM Go.Proofs.YtbmdkibmfkmjoaaGreat.LM Go.Proofs.YtbmdkibmfkmjoaaGreat.LeM Go.Proofs.YtbmdkibmfkmjoaaGreat.VaM Go.Proofs.YtbmdkibmfkmjoaaGreat.ExM Go.Proofs.YtbmdkibmfkmjoaaGreat.QyM
open Go.Proofs.YtbmdkibmfkmjoaaGreat.Ex (SlO slO_none slO_len)
open Go.Proofs.YtbmdkibmfkmjoaaGreat.Va (ret_v str_e0)

set_option maxRecDepth 100000 in
set_option maxHeartbeats 16000000 in
theorem Put_any (q : Q) (A : Option Addr) (c : Nat) (w : World) (hT : SlSt w A q.p c) (hr : RngQ q) :
    Calls Tryz.prog 9 #[agQ q A c] w (Putted q w) := by
  have hlen := slSt_len hT
  have hwm := fun W (h : Below w.heap.size w W) => wellMade_any q A c W (hT.kept h)
  have hbs := fun W => behindSteps_any q A c W
  have hX := bxQ_new w q A c
  have ha := (Below.refl w.heap.size w).alloc (Nat.le_refl _) (.cells #[.slice A q.p.length c, .int .i64 q.w, .int .i64 q.a, .int .i64 q.i, .int .i64 q.f] 25)
  unfold Putted
  by_cases hmay : May q
  · have hpv : QyM.pv q = pQ q := by rw [QyM.pv, if_pos hmay]
    have hokq := okQ_of hmay hr
    have hby := law_q.bytes ⟨hokq, hmay⟩
    rw [decide_eq_true hmay, hpv]
    simp only [decide_eq_true hmay] at hwm
    have hstep := fun j (hj : j < q.p.length) K k L l W (hO : SlO W K (q.p.getD j t0).f k) (hO2 : SlO W L (q.p.getD j t0).h l) => putStep_any (q.p.getD j t0) K k L l W (hokq.2.1 _ (getD_mem hj)) (hokq.2.1 _ (getD_mem hj)).2.1.1 hO hO2
    have hsn := fun j (hj : j < q.p.length) => (show Gr.puts pSt (q.p.take (j + 1)) = Gr.puts pSt (q.p.take j) ++ pSt (q.p.getD j t0) from by rw [take_snocSt hj, Gr.puts_snoc])
    have hpl := fun j => puts_len (p := q.p.take j) fun x hx => hokq.2.1 x (List.mem_of_mem_take hx)
    have hsl := fun j (hj : j < q.p.length) => pSt_len (hokq.2.1 _ (getD_mem hj))
    have hsb := fun j (hj : j < q.p.length) => law_st.bytes (hokq.2.1 _ (getD_mem hj))
    have h4 := hmay.1
    have hq : pQ q = putL q.p.length ++ (Gr.puts pSt q.p ++ (putL q.w.toNat ++ (putL q.a.toNat ++ (putL q.i.toNat ++ putL q.f.toNat)))) := rfl
    have hall : Gr.puts pSt (q.p.take q.p.length) = Gr.puts pSt q.p := by rw [List.take_length]
    obtain ⟨hy1, hw1, ha1, hi1, hf1, hy2, hy3⟩ := hmay
    obtain ⟨kw, ekw⟩ := Int.eq_ofNat_of_zero_le hw1.1
    obtain ⟨ka, eka⟩ := Int.eq_ofNat_of_zero_le ha1.1
    obtain ⟨ki, eki⟩ := Int.eq_ofNat_of_zero_le hi1.1
    obtain ⟨kf, ekf⟩ := Int.eq_ofNat_of_zero_le hf1.1
    have hkk : kw ≤ 1125899906842624 ∧ ka ≤ 4 ∧ ki ≤ 4 ∧ kf ≤ 6 := ⟨by omega, by omega, by omega, by omega⟩
    have hnt : Gr.puts putL [kw, ka, ki, kf] = putL kw ++ (putL ka ++ (putL ki ++ putL kf)) := by simp [Gr.puts]
    rw [ekw, eka, eki, ekf] at hq
    simp only [Int.toNat_natCast] at hq
    rw [← hnt] at hq
    obtain ⟨Z, hZ⟩ : ∃ Z, Z = pQ q := ⟨_, rfl⟩
    rw [← hZ] at hq hby ⊢
    unfold agQ at hwm hbs ⊢
    unfold agB at hbs
    unfold BxQ encQ at hX
    rw [ekw, eka, eki, ekf] at hX ha ⊢
    simp only [ekw, eka, eki, ekf] at hwm hbs
    clear hr hokq hy1 hy2 hy3 hw1 ha1 hi1 hf1 ekw eka eki ekf hpv hZ hnt
    obtain ⟨qp, qw, qa, qi, qf⟩ := q
    simp only at hT hlen hwm hbs hX ha hstep hsn hpl hsl hsb h4 hq hall ⊢
    clear qw qa qi qf
    obtain ⟨n, hn⟩ : ∃ n, n = qp.length := ⟨_, rfl⟩
    simp only [← hn] at hlen hwm hbs hX ha hstep hsn hsl hsb h4 hq hall ⊢
    obtain ⟨P, hP⟩ : ∃ P, P = putL n := ⟨_, rfl⟩
    rw [← hP] at hq
    have hPl : P.length ≤ 10 := by rw [hP]; exact putL_len64 (by omega)
    have HN := Lib.hid hn
    have HX := Lib.hid hX
    have HB := Lib.hid ha
    have HWm := Lib.hid hwm
    have HBs := Lib.hid hbs
    have HT := Lib.hid hT
    have HSt := Lib.hid hstep
    have HSn := Lib.hid hsn
    have HPl := Lib.hid hpl
    have HSl := Lib.hid hsl
    have HSb := Lib.hid hsb
    have HQ := Lib.hid hq
    have HAll := Lib.hid hall
    have HBy := Lib.hid hby
    have HPn := Lib.hid (show Gr.puts putL [n] = P from by rw [hP]; simp [Gr.puts])
    have HPb := Lib.hid (show ∀ x ∈ P, (0 : Int) ≤ x ∧ x < 256 from by rw [hP]; exact putL_bytes n)
    obtain ⟨p0, p1, p2, p3, p4⟩ := bx5 hX
    clear hn hX ha hwm hbs hT hstep hsn hpl hsl hsb hq hall hby hP
    go_enter Tryz.func9, Tryz.ntmps9
    go_wp2_with fail
    refine (HWm.out _ HB.out).mono ?_
    obtain ⟨w1, hw1⟩ : ∃ w1, w1 = w.alloc (.cells #[.slice A n c, .int .i64 (kw : Int), .int .i64 (ka : Int), .int .i64 (ki : Int), .int .i64 (kf : Int)] 25) := ⟨_, rfl⟩
    rw [← hw1] at HB HX ⊢
    have HXk := Lib.hid (fun W h => bx5 (RG.BxN.kept HX.out (w' := W) h))
    clear hw1 HX p0 p1 p2 p3 p4
    rintro e w2 ⟨rfl, hb2⟩
    have HB2 := Lib.hid hb2
    obtain ⟨p0, p1, p2, p3, p4⟩ := HXk.out w2 hb2
    have ha3 := (Below.refl w2.heap.size w2).alloc (Nat.le_refl _) (.cells #[.int .i64 (n : Int)] 3)
    have hnm := putNumbers_any [n] (some ⟨w2.heap.size, 0, none⟩) 1 _ (numsAt_new w2 [n] 3) (fun z hz => by simp only [List.mem_singleton] at hz; omega) (by simp)
    rw [HPn.out] at hnm
    simp only [List.map_cons, List.map_nil, List.length_cons, List.length_nil, Nat.zero_add] at hnm
    have HNm := Lib.hid hnm
    have HB3 := Lib.hid (bt hb2 ha3)
    clear hb2 ha3 hnm HWm
    unfold Owned at HNm
    go_wp2_with fail
    refine HNm.out.mono ?_
    rintro e w4 ⟨u4, rfl, ho4, hb4⟩
    have hz3 := HB3.out.size
    have HO4 := Lib.hid (own_lower ho4 hz3)
    have HB4 := Lib.hid (bt HB3.out hb4)
    obtain ⟨r0, r1, r2, r3, r4⟩ := HXk.out w4 HB4.out
    clear ho4 hb4 HNm p0 p1 p2 p3 p4 HB2
    go_wp2_with fail
    go_loopw [4, 18] (fun u i wr => ∃ (j k : Nat), i = .int .i64 j ∧ j ≤ n ∧ k = (P ++ Gr.puts pSt (qp.take j)).length ∧ wr.ownsRow w1.heap.size 5 1 u k (cs (P ++ Gr.puts pSt (qp.take j))) ∧ Below w1.heap.size w1 wr) (fun _ i _ => n - (intOf i).toNat)
    case atStart => exact ⟨0, P.length, rfl, Nat.zero_le _, by simp [Gr.puts], by simpa [Gr.puts] using HO4.out, HB4.out⟩
    case round =>
      obtain ⟨j, k, rfl, hj, hk, hown, hbel⟩ := hrel
      have hk2 : k ≤ 5400 := by
        have h1 := HPl.out j
        rw [hk, List.length_append]
        rw [List.length_take] at h1
        have h2 : min j qp.length ≤ 4 := by omega
        omega
      have HO := Lib.hid hown
      have HK := Lib.hid hk
      have HBl := Lib.hid hbel
      obtain ⟨p0, p1, p2, p3, p4⟩ := HXk.out wr hbel
      clear hown hk hbel HO4 HB4 r0 r1 r2 r3 r4
      by_cases hjn : j < n
      · obtain ⟨b1, q1, A1, c1, C1, d1, hix, hc, _⟩ := HT.out.at j (by rw [← HN.out]; exact hjn)
        obtain ⟨hcell, hA1, hC1⟩ := hc wr (bt HB.out HBl.out)
        have hi := fun W => hix W n c hjn
        have hst := HSt.out j hjn A1 c1 C1 d1 wr hA1 hC1
        have hsn := HSn.out j hjn
        have hsl := HSl.out j hjn
        have hsb := HSb.out j hjn
        unfold Owned agSt at hst
        obtain ⟨Y, hY⟩ : ∃ Y, Y = pSt (qp.getD j t0) := ⟨_, rfl⟩
        rw [← hY] at hst hsn hsl hsb
        obtain ⟨x, hx⟩ : ∃ x, x = qp.getD j t0 := ⟨_, rfl⟩
        rw [← hx] at hst hcell
        unfold CellSt at hcell
        obtain ⟨xs, xf, lo, hi', xg, xt, xh⟩ := x
        simp only at hcell hst
        obtain ⟨x0, x1, x2, x3, x4, x5, x6⟩ := hcell
        obtain ⟨n1, hn1⟩ : ∃ n, n = xf.length := ⟨_, rfl⟩
        obtain ⟨n2, hn2⟩ : ∃ n, n = xh.length := ⟨_, rfl⟩
        simp only [← hn1] at x1 hst
        simp only [← hn2] at x6 hst
        have HSt1 := Lib.hid hst
        have HS1 := Lib.hid hsn
        have HY1 := Lib.hid hsb
        clear hc hix hA1 hC1 hst hsn hsb hx hn1 hn2 hY
        go_wp2_with fail
        refine HSt1.out.mono ?_
        rintro e w5 ⟨u5, rfl, ho5, hb5⟩
        obtain ⟨A5, c5, rfl, _, hs5, _⟩ := own_slB ho5 HY1.out
        have HO5 := Lib.hid (RegA.own_below HO.out hb5)
        have HB5 := Lib.hid (bt HBl.out hb5)
        have HS5 := Lib.hid hs5
        have hz5 := HB5.out.size
        obtain ⟨m, hm⟩ : ∃ m, m = Y.length := ⟨_, rfl⟩
        rw [← hm] at hsl ⊢
        have HM := Lib.hid hm
        clear ho5 hb5 hs5 hm HSt1 x0 x1 x2 x3 x4 x5 x6 p0 p1 p2 p3 p4 hi
        go_wp2_with (at_builtin; refine wp_append_b rfl (.tmp 21) (.tmp 27) rfl w1.heap.size _ k _ rfl HO5.out A5 m c5 Y rfl HM.out.symm HS5.out.1 HS5.out.2.2.1 (by omega) hz5 ?_; intro u6 w6 hown6 hgrow6; refine pause ?_)
        have HB6 := Lib.hid (HB5.out.grown hgrow6 hz5 (fun q hq => (HO5.out.lt q hq).1))
        rw [List.append_assoc, ← HS1.out] at hown6
        have HO6 := Lib.hid hown6
        have HK6 := Lib.hid (show k + m = (P ++ Gr.puts pSt (qp.take (j + 1))).length from by rw [HS1.out, ← List.append_assoc, List.length_append, ← HM.out, ← HK.out])
        clear hown6 hgrow6
        unfold Pause
        go_wp2_with fail
        go_roundw
        case rel => exact ⟨j + 1, k + m, by go_num, by omega, HK6.out, HO6.out, HB6.out⟩
        case measure => simp [intOf]; omega
      · obtain rfl : j = n := by omega
        have hown := HO.out
        rw [HAll.out] at hown
        have hkk' := HK.out
        rw [HAll.out] at hkk'
        have HO2 := Lib.hid hown
        have HK2 := Lib.hid hkk'
        clear hown hkk'
        go_wp2_with fail
        refine (HBs.out wr).mono ?_
        rintro e w5 ⟨rfl, hb5⟩
        have HO5 := Lib.hid (RegA.own_below HO2.out hb5)
        have HB5 := Lib.hid (bt HBl.out hb5)
        clear hb5 p0 p1 p2 p3 p4
        have ha6 := (Below.refl w5.heap.size w5).alloc (Nat.le_refl _) (.cells #[.int .i64 (kw : Int), .int .i64 (ka : Int), .int .i64 (ki : Int), .int .i64 (kf : Int)] 52)
        have hnm := putNumbers_any [kw, ka, ki, kf] (some ⟨w5.heap.size, 0, none⟩) 4 _ (numsAt_new w5 [kw, ka, ki, kf] 52) (fun z hz => by simp only [List.mem_cons, List.not_mem_nil, or_false] at hz; omega) (by simp)
        simp only [List.map_cons, List.map_nil, List.length_cons, List.length_nil, Nat.zero_add, Nat.reduceAdd] at hnm
        have hyl := nums_len (zs := [kw, ka, ki, kf]) (fun z hz => by simp only [List.mem_cons, List.not_mem_nil, or_false] at hz; omega)
        obtain ⟨Y, hY⟩ : ∃ Y, Y = Gr.puts putL [kw, ka, ki, kf] := ⟨_, rfl⟩
        have hyb : ∀ x ∈ Y, (0 : Int) ≤ x ∧ x < 256 := by rw [hY]; exact nums_bytes
        rw [← hY] at hnm hyl
        simp only [List.length_cons, List.length_nil, Nat.zero_add, Nat.reduceAdd] at hyl
        have HNm := Lib.hid hnm
        have HY := Lib.hid hY
        have HYb := Lib.hid hyb
        have HO6 := Lib.hid (RegA.own_below HO5.out ha6)
        have HB6 := Lib.hid (bt HB5.out ha6)
        unfold Owned at HNm
        clear hnm hY hyb ha6 HO5 HB5
        go_wp2_with fail
        refine HNm.out.mono ?_
        rintro e w7 ⟨u7, rfl, ho7, hb7⟩
        obtain ⟨A7, c7, rfl, _, hs7, _⟩ := own_slB ho7 HYb.out
        have HO7 := Lib.hid (RegA.own_below HO6.out hb7)
        have HB7 := Lib.hid (bt HB6.out hb7)
        have HS7 := Lib.hid hs7
        have hz7 := HB7.out.size
        obtain ⟨m, hm⟩ : ∃ m, m = Y.length := ⟨_, rfl⟩
        rw [← hm] at hyl ⊢
        have HM := Lib.hid hm
        clear ho7 hb7 hs7 hm HNm HO6 HB6
        go_wp2_with (at_builtin; refine wp_append_b rfl (.tmp 32) (.tmp 34) rfl w1.heap.size _ k _ rfl HO7.out A7 m c7 Y rfl HM.out.symm HS7.out.1 HS7.out.2.2.1 (by omega) hz7 ?_; intro u8 w8 hown8 hgrow8; refine pause ?_)
        have HB8 := Lib.hid (bt HB.out (HB7.out.grown hgrow8 hz7 (fun q hq => (HO7.out.lt q hq).1)))
        have he : (P ++ Gr.puts pSt qp) ++ Y = Z := by rw [HQ.out, HY.out, List.append_assoc]
        rw [he] at hown8
        obtain ⟨A8, c8, rfl, hl8, hs8, _⟩ := own_slB hown8 HBy.out
        have HS8 := Lib.hid hs8
        have HL8 := Lib.hid hl8
        clear hown8 hgrow8 he hs8 hl8
        unfold Pause
        go_wp2_with fail
        go_ret2
        exact ⟨A8, c8, rfl, HS8.out, HB8.out⟩
  · have hpv : QyM.pv q = [] := by rw [QyM.pv, if_neg hmay]
    rw [decide_eq_false hmay, hpv]
    simp only [decide_eq_false hmay] at hwm
    unfold agQ at hwm ⊢
    unfold BxQ encQ at hX
    clear hpv hmay hr hT hbs
    obtain ⟨qp, qw, qa, qi, qf⟩ := q
    simp only at hlen hwm hX ha ⊢
    obtain ⟨n, hn⟩ : ∃ n, n = qp.length := ⟨_, rfl⟩
    simp only [← hn] at hlen hwm hX ha ⊢
    have HB := Lib.hid ha
    have HWm := Lib.hid hwm
    obtain ⟨p0, p1, p2, p3, p4⟩ := bx5 hX
    clear hn hX ha hwm
    go_enter Tryz.func9, Tryz.ntmps9
    go_wp2_with fail
    refine (HWm.out _ HB.out).mono ?_
    rintro e w2 ⟨rfl, hb2⟩
    have HB2 := Lib.hid (bt HB.out hb2)
    clear hb2 HWm
    go_wp2_with fail
    go_ret2
    exact ⟨none, 0, rfl, slB_none _, HB2.out⟩
end Go.Proofs.YtbmdkibmfkmjoaaGreat.Qy

namespace Go.Proofs.YtbmdkibmfkmjoaaGreat.Sc
open Go.RowKit Go.Proofs.YtbmdkibmfkmjoaaGreat.BM Go.Proofs.YtbmdkibmfkmjoaaGreat.VaM Go.Proofs.YtbmdkibmfkmjoaaGreat.Va Go.Proofs.YtbmdkibmfkmjoaaGreat.ScM

theorem info_f : (Tryz.prog.info? 72).map (fun i => (i.zero, i.size, i.bytes)) = some (some (.agg #[.string ⟨#[]⟩, .int .i64 0]), 2, 24) := by kernel_rfl

/-- A field's own cells, and those of several. -/
def fcs : List F → List Value
  | [] => []
  | f :: l => .string f.s :: .int .i64 f.k :: fcs l

theorem fcs_len : ∀ l : List F, (fcs l).length = l.length * 2
  | [] => rfl
  | f :: l => by rw [fcs, List.length_cons, List.length_cons, fcs_len l, List.length_cons]; omega

theorem fcs_app : ∀ l m : List F, fcs (l ++ m) = fcs l ++ fcs m
  | [], _ => rfl
  | f :: l, m => by rw [List.cons_append, fcs, fcs_app l m]; rfl

theorem fcs_at : ∀ (l : List F) (j : Nat), j < l.length → (fcs l)[j * 2]? = some (.string (l.getD j d0).s) ∧ (fcs l)[j * 2 + 1]? = some (.int .i64 (l.getD j d0).k)
  | [], _, h => absurd h (Nat.not_lt_zero _)
  | f :: l, 0, _ => ⟨rfl, rfl⟩
  | f :: l, j + 1, h => by
    have h1 := fcs_at l j (by simpa using h)
    rw [show (j + 1) * 2 = j * 2 + 1 + 1 from by omega, fcs]
    simpa using h1

theorem fcs_one : ∀ l : List F, ∀ u ∈ fcs l, u.oneCell' = true
  | [], u, h => by cases h
  | f :: l, u, h => by
    rcases List.mem_cons.1 h with rfl | h
    · rfl
    · rcases List.mem_cons.1 h with rfl | h
      · rfl
      · exact fcs_one l u h

/-- Cells at an address are a row of fields. -/
theorem isF_cells {w : World} {b o : Nat} {l : List F} (h : ∀ (j : Nat) (u : Value), (fcs l)[j]? = some u → w.cell? ⟨b, o + j, none⟩ = some u) : IsF w (some ⟨b, o, none⟩) l := by
  intro _
  refine ⟨b, o, rfl, fun j hj => ?_⟩
  obtain ⟨h1, h2⟩ := fcs_at l j hj
  exact ⟨h _ _ h1, by have := h _ _ h2; rwa [← Nat.add_assoc] at this⟩

theorem cells_isF {w : World} {b o : Nat} {l : List F} (h : IsF w (some ⟨b, o, none⟩) l) : ∀ (j : Nat) (u : Value), (fcs l)[j]? = some u → w.cell? ⟨b, o + j, none⟩ = some u := by
  intro j u hj
  have hlt := (List.getElem?_eq_some_iff.1 hj).1
  rw [fcs_len] at hlt
  obtain ⟨b', o', e, hc⟩ := h (by omega)
  injection e with e
  injection e with e1 e2
  subst e1
  subst e2
  have h1 := hc (j / 2) (by omega)
  have h2 := fcs_at l (j / 2) (by omega)
  rcases Nat.mod_two_eq_zero_or_one j with hm | hm
  · have e : j = j / 2 * 2 := by omega
    rw [e] at hj ⊢
    rw [h2.1] at hj
    rw [← hj]
    exact h1.1
  · have e : j = j / 2 * 2 + 1 := by omega
    rw [e] at hj ⊢
    rw [h2.2] at hj
    rw [← hj, ← Nat.add_assoc]
    exact h1.2

/-- What is owned reads as a slice of fields. -/
theorem own_slF {w : World} {base n : Nat} {v : Value} {l : List F} (h : w.ownsRow base 72 2 v n (fcs l)) (hs : ∀ f ∈ l, f.s.size ≤ maxLen) :
    ∃ A c, v = .slice A l.length c ∧ n = l.length ∧ SlF w A l c ∧ (∀ a, A = some a → base ≤ a.block ∧ a.block < w.heap.size) := by
  have hl : l.length = n := by have := h.1; rw [fcs_len] at this; omega
  subst hl
  rcases h.2 with ⟨hv, h0⟩ | ⟨g, cap, cur, rfl, hg, hh, hcap, hmx, hrest⟩
  · subst hv
    refine ⟨none, 0, by rw [h0], rfl, ⟨fun hx => by omega, by omega, fun _ => rfl, Nat.zero_le _, hs⟩, fun a ha => by cases ha⟩
  · refine ⟨some ⟨g, 0, none⟩, cap, rfl, rfl, ⟨isF_cells (fun j u hj => ?_), hcap, (fun h => by cases h), hmx, hs⟩, fun a ha => ?_⟩
    · have hc := h.cells (g := g) rfl j u hj
      rw [Addr.add_lit] at hc
      exact hc
    · injection ha with ha
      subst ha
      exact ⟨hg, (h.lt g rfl).2⟩

/-- A new field. -/
theorem isF_new (w : World) (s : ByteArray) (k : Int) : IsF (w.alloc (.cells #[.string s, .int .i64 k] 72)) (some ⟨w.heap.size, 0, none⟩) [⟨s, k⟩] := by
  obtain ⟨⟨y0, y1⟩, _⟩ := bx2_new w 72 (.string s) (.int .i64 k)
  refine fun _ => ⟨w.heap.size, 0, rfl, fun r hr => ?_⟩
  obtain rfl : r = 0 := by simpa using hr
  exact ⟨y0, y1⟩

theorem isF_grown {w w' : World} {b o : Nat} {l : List F} {r : Option Nat} (h : IsF w (some ⟨b, o, none⟩) l) (hg : w.grownBy w' r) (hne : ∀ k, r = some k → k ≠ b) : IsF w' (some ⟨b, o, none⟩) l := by
  intro h0
  obtain ⟨b', o', e, hc⟩ := h h0
  injection e with e
  injection e with e1 e2
  subst e1
  subst e2
  have hn : some b ≠ r := fun e => hne b e.symm rfl
  exact ⟨b, o, rfl, fun j hj => ⟨hg.cell (hc j hj).1 hn, hg.cell (hc j hj).2 hn⟩⟩

/-- What is owned is a slice. -/
theorem own_is {w : World} {base n size : Nat} {e : TypeId} {v : Value} {xs : List Value} (h : w.ownsRow base e size v n xs) : ∃ A c, v = .slice A n c := by
  rcases h.2 with ⟨rfl, rfl⟩ | ⟨g, cap, cur, rfl, _⟩
  · exact ⟨none, 0, rfl⟩
  · exact ⟨_, cap, rfl⟩

/-- append of fields onto a row of the call's own: the operation alone. -/
theorem op_append_f {w : World} {o : Oper} {a : Act} {K : Act → World → Prop} {Q : Exit → Act → World → Prop} (s x : Operand)
    (ho : o.op = .call { callee := .builtin .append, args := #[s, x], argTypes := #[38, 38] })
    (base : Nat) (v : Value) (n : Nat) (l : List F) (hs : a.eval s = v) (hown : w.ownsRow base 72 2 v n (fcs l))
    (b q m c : Nat) (r : List F) (hx : a.eval x = .slice (some ⟨b, q, none⟩) m c) (hm : r.length = m) (hB : IsF w (some ⟨b, q, none⟩) r)
    (hsz : n + m ≤ 1000000000) (hbase : base ≤ w.heap.size)
    (h : ∀ v' w', w'.ownsRow base 72 2 v' (n + m) (fcs (l ++ r)) → w.grownBy w' v.ownBlock → K (a.put o.dst v') w') : o.wp Tryz.prog a w K Q := by
  obtain ⟨i0, hi, hz0, hz1, hz2⟩ := info_parts info_f
  obtain ⟨v', w', hr, h2, h3, _⟩ := run_append_own (P := Tryz.prog) w base 38 o.type 72 i0 (.agg #[.string ⟨#[]⟩, .int .i64 0]) 2 24 Tryz.underlying38 hi hz0 hz1 hz2 rfl (by decide) v n (fcs l) hown ⟨b, q, none⟩ m c (fcs r) (by rw [fcs_len, hm])
    (fun j u hj => by rw [Addr.add_lit]; exact cells_isF hB j u hj) (fcs_one r) (by unfold maxLen; omega) (by omega) hbase
  unfold Oper.wp execOp
  simp only [ho, resolve, invoke, builtin, Sem.run_bind, Sem.run_pure, Result.andThen_ok, List.map_toArray, List.map_cons, List.map_nil, hs, hx, hr]
  exact h v' w' (by rw [fcs_app]; exact h2) h3

/-- append of fields onto a row of the call's own, whatever the source: the operation alone. -/
theorem op_append_a {w : World} {o : Oper} {a : Act} {K : Act → World → Prop} {Q : Exit → Act → World → Prop} (s x : Operand)
    (ho : o.op = .call { callee := .builtin .append, args := #[s, x], argTypes := #[38, 38] })
    (base : Nat) (v : Value) (n : Nat) (l : List F) (hs : a.eval s = v) (hown : w.ownsRow base 72 2 v n (fcs l))
    (A : Option Addr) (m c : Nat) (r : List F) (hx : a.eval x = .slice A m c) (hm : r.length = m) (hB : IsF w A r) (hnil : A = none → c = 0)
    (hsz : n + m ≤ 1000000000) (hbase : base ≤ w.heap.size)
    (h : ∀ v' w', w'.ownsRow base 72 2 v' (n + m) (fcs (l ++ r)) → w.grownBy w' v.ownBlock → K (a.put o.dst v') w') : o.wp Tryz.prog a w K Q := by
  obtain ⟨i0, hi, hz0, hz1, hz2⟩ := info_parts info_f
  have key : ∃ v' w', (Builtin.append_ #[38, 38] o.type #[v, .slice A m c]).run Tryz.prog w = .ok v' w' ∧ w'.ownsRow base 72 2 v' (n + m) (fcs (l ++ r)) ∧ w.grownBy w' v.ownBlock := by
    by_cases h0 : 0 < r.length
    · obtain ⟨b, q, rfl, hc⟩ := hB h0
      obtain ⟨v', w', hr, h2, h3, _⟩ := run_append_own (P := Tryz.prog) w base 38 o.type 72 i0 (.agg #[.string ⟨#[]⟩, .int .i64 0]) 2 24 Tryz.underlying38 hi hz0 hz1 hz2 rfl (by decide) v n (fcs l) hown ⟨b, q, none⟩ m c (fcs r) (by rw [fcs_len, hm])
        (fun j u hj => by rw [Addr.add_lit]; exact cells_isF hB j u hj) (fcs_one r) (by unfold maxLen; omega) (by omega) hbase
      exact ⟨v', w', hr, by rw [fcs_app]; exact h2, h3⟩
    · obtain rfl : r = [] := List.eq_nil_of_length_eq_zero (by omega)
      obtain rfl : m = 0 := by simpa using hm.symm
      match A, hnil with
      | none, hnil =>
        obtain rfl := hnil rfl
        exact ⟨v, w, run_append_owned_none (w := w) base 38 o.type 72 i0 2 Tryz.underlying38 hi v n (fcs l) hown, by simpa using hown, World.grownBy.refl _ _⟩
      | some ad, _ =>
        obtain ⟨v', w', hr, h2, h3, _⟩ := run_append_own (P := Tryz.prog) w base 38 o.type 72 i0 (.agg #[.string ⟨#[]⟩, .int .i64 0]) 2 24 Tryz.underlying38 hi hz0 hz1 hz2 rfl (by decide) v n (fcs l) hown ad 0 c [] rfl
          (fun j u hj => by simp at hj) (fun u hu => by cases hu) (by unfold maxLen; omega) (by omega) hbase
        exact ⟨v', w', hr, by simpa using h2, h3⟩
  obtain ⟨v', w', hr, h2, h3⟩ := key
  unfold Oper.wp execOp
  simp only [ho, resolve, invoke, builtin, Sem.run_bind, Sem.run_pure, Result.andThen_ok, List.map_toArray, List.map_cons, List.map_nil, hs, hx, hr]
  exact h v' w' h2 h3

/-- append of fields onto a row of the call's own, whatever the source. -/
theorem wp_append_f {w : World} {ops : Array Oper} {rest : List Oper} {o : Oper} {a : Act} {Q : Exit → Act → World → Prop} (hgd : o.guard = none) (s x : Operand)
    (ho : o.op = .call { callee := .builtin .append, args := #[s, x], argTypes := #[38, 38] })
    (base : Nat) (v : Value) (n : Nat) (l : List F) (hs : a.eval s = v) (hown : w.ownsRow base 72 2 v n (fcs l))
    (A : Option Addr) (m c : Nat) (r : List F) (hx : a.eval x = .slice A m c) (hm : r.length = m) (hB : IsF w A r) (hnil : A = none → c = 0)
    (hsz : n + m ≤ 1000000000) (hbase : base ≤ w.heap.size)
    (h : ∀ v' w', w'.ownsRow base 72 2 v' (n + m) (fcs (l ++ r)) → w.grownBy w' v.ownBlock → wpList Tryz.prog ops Q rest (a.put o.dst v') w') : wpList Tryz.prog ops Q (o :: rest) a w := by
  obtain ⟨i0, hi, hz0, hz1, hz2⟩ := info_parts info_f
  by_cases h0 : 0 < r.length
  · obtain ⟨b, q, rfl, hc⟩ := hB h0
    refine wpList_append_own w hgd s x 38 ho base 72 i0 (.agg #[.string ⟨#[]⟩, .int .i64 0]) 2 24 Tryz.underlying38 hi hz0 hz1 hz2 rfl (by decide) v n (fcs l) hs hown ⟨b, q, none⟩ m c (fcs r) hx (by rw [fcs_len, hm]) ?_ (fcs_one r) (by unfold maxLen; omega) (by omega) hbase ?_
    · intro j u hj
      rw [Addr.add_lit]
      exact cells_isF hB j u hj
    · intro v' w' h1 h2 _
      exact h v' w' (by rw [fcs_app]; exact h1) h2
  · obtain rfl : r = [] := List.eq_nil_of_length_eq_zero (by omega)
    obtain rfl : m = 0 := by simpa using hm.symm
    match A, hx, hnil with
    | none, hx, hnil =>
      obtain rfl := hnil rfl
      refine wpList_append_own_none hgd s x 38 ho base 72 i0 2 Tryz.underlying38 hi v n (fcs l) hs hown hx (h v w ?_ (World.grownBy.refl _ _))
      simpa using hown
    | some ad, hx, _ =>
      refine wpList_append_own w hgd s x 38 ho base 72 i0 (.agg #[.string ⟨#[]⟩, .int .i64 0]) 2 24 Tryz.underlying38 hi hz0 hz1 hz2 rfl (by decide) v n (fcs l) hs hown ad 0 c [] hx rfl (fun j u hj => by simp at hj) (fun u hu => by cases hu) (by unfold maxLen; omega) (by omega) hbase ?_
      intro v' w' h1 h2 _
      exact h v' w' (by simpa using h1) h2
/-- append of fields onto a row of the call's own, whatever the source, as many as there is memory for. -/
theorem wp_append_fb {w : World} {ops : Array Oper} {rest : List Oper} {o : Oper} {a : Act} {Q : Exit → Act → World → Prop} (hgd : o.guard = none) (s x : Operand)
    (ho : o.op = .call { callee := .builtin .append, args := #[s, x], argTypes := #[38, 38] })
    (base : Nat) (v : Value) (n : Nat) (l : List F) (hs : a.eval s = v) (hown : w.ownsRow base 72 2 v n (fcs l))
    (A : Option Addr) (m c : Nat) (r : List F) (hx : a.eval x = .slice A m c) (hm : r.length = m) (hB : IsF w A r) (hnil : A = none → c = 0)
    (hsz : (n + m) * 24 ≤ 140737488355328) (hbase : base ≤ w.heap.size)
    (h : ∀ v' w', w'.ownsRow base 72 2 v' (n + m) (fcs (l ++ r)) → w.grownBy w' v.ownBlock → wpList Tryz.prog ops Q rest (a.put o.dst v') w') : wpList Tryz.prog ops Q (o :: rest) a w := by
  obtain ⟨i0, hi, hz0, hz1, hz2⟩ := info_parts info_f
  have h63 : n + m ≤ maxLen := by unfold maxLen; omega
  by_cases h0 : 0 < r.length
  · obtain ⟨b, q, rfl, hc⟩ := hB h0
    refine wpList_append_own w hgd s x 38 ho base 72 i0 (.agg #[.string ⟨#[]⟩, .int .i64 0]) 2 24 Tryz.underlying38 hi hz0 hz1 hz2 rfl (by decide) v n (fcs l) hs hown ⟨b, q, none⟩ m c (fcs r) hx (by rw [fcs_len, hm]) ?_ (fcs_one r) h63 hsz hbase ?_
    · intro j u hj
      rw [Addr.add_lit]
      exact cells_isF hB j u hj
    · intro v' w' h1 h2 _
      exact h v' w' (by rw [fcs_app]; exact h1) h2
  · obtain rfl : r = [] := List.eq_nil_of_length_eq_zero (by omega)
    obtain rfl : m = 0 := by simpa using hm.symm
    match A, hx, hnil with
    | none, hx, hnil =>
      obtain rfl := hnil rfl
      refine wpList_append_own_none hgd s x 38 ho base 72 i0 2 Tryz.underlying38 hi v n (fcs l) hs hown hx (h v w ?_ (World.grownBy.refl _ _))
      simpa using hown
    | some ad, hx, _ =>
      refine wpList_append_own w hgd s x 38 ho base 72 i0 (.agg #[.string ⟨#[]⟩, .int .i64 0]) 2 24 Tryz.underlying38 hi hz0 hz1 hz2 rfl (by decide) v n (fcs l) hs hown ad 0 c [] hx rfl (fun j u hj => by simp at hj) (fun u hu => by cases hu) h63 hsz hbase ?_
      intro v' w' h1 h2 _
      exact h v' w' (by simpa using h1) h2
end Go.Proofs.YtbmdkibmfkmjoaaGreat.Sc

namespace Go.Proofs.YtbmdkibmfkmjoaaGreat.Sc
open Go.RowKit Go.Proofs.YtbmdkibmfkmjoaaGreat.BM Go.Proofs.YtbmdkibmfkmjoaaGreat.VaM Go.Proofs.YtbmdkibmfkmjoaaGreat.Va Go.Proofs.YtbmdkibmfkmjoaaGreat.ScM

/-- Is there memory for as many fields again? -/
def Room (l : List F) : Prop := l.length * 24 ≤ 140737488351232

/-- Fields in a block that was not there. -/
def Own (H : Nat) (w : World) (A : Option Addr) (l : List F) (c : Nat) : Prop := SlF w A l c ∧ ∀ a, A = some a → H ≤ a.block

theorem Own.kept {H : Nat} {w w' : World} {A : Option Addr} {l : List F} {c : Nat} (h : Own H w A l c) (hb : Below w.heap.size w w') : Own H w' A l c := ⟨h.1.kept hb, h.2⟩
theorem Own.low {H K : Nat} {w : World} {A : Option Addr} {l : List F} {c : Nat} (h : Own H w A l c) (hk : K ≤ H) : Own K w A l c := ⟨h.1, fun a ha => Nat.le_trans hk (h.2 a ha)⟩

set_option maxRecDepth 100000 in
set_option maxHeartbeats 1000000 in
theorem CloneF_any (l : List F) (A : Option Addr) (c : Nat) (w : World) (h : SlF w A l c) (hr : Room l) :
    Calls Tryz.prog 95 #[.slice A l.length c] w fun e w' => ∃ A' c', e = .returned (.slice A' l.length c') ∧ Own w.heap.size w' A' l c' ∧ Below w.heap.size w w' := by
  cases A with
  | none =>
    obtain rfl := h.2.2.1 rfl
    have hl0 : l.length = 0 := by have := h.2.1; omega
    obtain rfl : l = [] := List.eq_nil_of_length_eq_zero hl0
    have hq : ∀ W, (binOp .eql 38 (.slice none 0 0) (.slice none 0 0)).run Tryz.prog W = .ok (.bool true) W := fun W => by kernel_rfl
    clear h hl0 hr
    rw [List.length_nil]
    go_enter Tryz.func95, Tryz.ntmps95
    go_wp2_with fail
    go_ret
    exact ⟨none, 0, rfl, ⟨slF_none _, fun a ha => by cases ha⟩, Below.refl _ _⟩
  | some ad =>
    have hown := World.ownsRow_lit (e := 72) (base := w.heap.size) (size := 2) w #[] 0 (Nat.le_refl _) (Nat.zero_le _) rfl
    have hb1 := (Below.refl w.heap.size w).alloc (Nat.le_refl _) (.cells #[] 72)
    have HR := Lib.hid (h.kept hb1).1
    have HN := Lib.hid h.2.2.2.2
    have hz := hb1.size
    have HO := Lib.hid hown
    have HB1 := Lib.hid hb1
    unfold Room at hr
    obtain ⟨n, hn⟩ : ∃ n, n = l.length := ⟨_, rfl⟩
    rw [← hn] at hr ⊢
    have HL := Lib.hid hn
    have hq : ∀ W, (binOp .eql 38 (.slice (some ad) n c) (.slice none 0 0)).run Tryz.prog W = .ok (.bool false) W := fun W => by kernel_rfl
    clear hown hb1 h hn
    go_enter Tryz.func95, Tryz.ntmps95
    go_wp2_with (at_builtin; refine wp_append_fb rfl (.tmp 5) (.tmp 6) rfl w.heap.size _ 0 [] rfl HO.out (some ad) n c l rfl HL.out.symm HR.out (fun h => by cases h) (by omega) hz ?_; intro u4 w4 hown4 hgrow4; refine pause ?_)
    rw [Nat.zero_add, List.nil_append] at hown4
    obtain ⟨A4, c4, rfl, _, hs4, hb4⟩ := own_slF hown4 HN.out
    have HF := Lib.hid (show Own w.heap.size w4 A4 l c4 from ⟨hs4, fun a ha => (hb4 a ha).1⟩)
    have HB4 := Lib.hid (HB1.out.grown hgrow4 hz (fun q hq => by injection hq with hq; simp only at hq; omega))
    rw [← HL.out]
    clear hown4 hgrow4 hs4 hb4
    unfold Pause
    go_wp2_with fail
    go_ret
    exact ⟨A4, c4, rfl, HF.out, HB4.out⟩
end Go.Proofs.YtbmdkibmfkmjoaaGreat.Sc

namespace Go.Proofs.YtbmdkibmfkmjoaaGreat.Sc
open Go.RowKit Go.Proofs.YtbmdkibmfkmjoaaGreat.BM Go.Proofs.YtbmdkibmfkmjoaaGreat.LM Go.Proofs.YtbmdkibmfkmjoaaGreat.VaM Go.Proofs.YtbmdkibmfkmjoaaGreat.Va Go.Proofs.YtbmdkibmfkmjoaaGreat.ScM Go.Proofs.YtbmdkibmfkmjoaaGreat.RgM

/-- Of which blocks the fields of a row's schemas are: of those that were there at first, and none is the row's own. -/
def PS (H : Nat) (v : Value) (b : Nat) : Prop := b < H ∧ ne v b

/-- What came in, in whatever world comes later. -/
theorem slS_elems {w : World} {A : Option Addr} {l : List Sc} {c : Nat} (h : SlS w A l c) : ∃ us, ∀ W, Below w.heap.size w W → IsRow W A us ∧ RG.Elems KS (fun b => b < w.heap.size ∧ ne (.slice none 0 0) b) W l us := by
  obtain ⟨⟨us, h1, h2⟩, _⟩ := h
  exact ⟨us, fun W hW => ⟨h1.kept hW, (h2.map fun _ _ e => KS.mono e fun b hb _ => ⟨hb, fun e => by cases e⟩).map fun _ _ e => KS.kept e hW⟩⟩

/-- A schema that came in, as an element. -/
theorem relS_of {w : World} {A : Option Addr} {s : Sc} {c : Nat} (h : SlF w A s.f c) (hf : Fine s) {v : Value} {base : Nat} (hv : ∀ b, v.ownBlock = some b → base ≤ b) (hb : w.heap.size ≤ base) : RelS (fun b => b < w.heap.size ∧ ne v b) w s [.string s.s, .int .i64 s.v, .slice A s.f.length c] := by
  refine ⟨A, c, rfl, h, hf, fun h0 a ha => ?_⟩
  have h1 := relS_lt h h0 ha
  refine ⟨h1, fun e => ?_⟩
  have := hv _ e.symm
  omega

/-- Where a row of the call's own lies. -/
theorem own_base {w : World} {base n size : Nat} {e : TypeId} {v : Value} {xs : List Value} (h : w.ownsRow base e size v n xs) : ∀ b, v.ownBlock = some b → base ≤ b := by
  intro b hb
  rcases h.2 with ⟨rfl, _⟩ | ⟨g, cap, cur, rfl, hg, _⟩
  · cases hb
  · have e : some g = some b := hb
    injection e with e
    omega

theorem own_later {w w' : World} {base n : Nat} {e : TypeId} {size : Nat} {v : Value} {xs : List Value} (h : w.ownsRow base e size v n xs) (hb : Below w.heap.size w w') : w'.ownsRow base e size v n xs :=
  h.kept (row := none) ⟨hb.os, hb.tape, hb.output, hb.size, fun k hk _ => hb.block k hk⟩ (by cases v.ownBlock <;> simp)

theorem slS_mono {w : World} {p : Nat → Prop} {A : Option Addr} {l : List Sc} {c : Nat} (h : RG.SlG KS p w A l c) : SlS w A l c := h.mono fun _ _ _ => True.intro

/-- Three places of a row. -/
def set3 (vs : List Value) (k : Nat) (u0 u1 u2 : Value) : List Value := ((vs.set k u0).set (k + 1) u1).set (k + 2) u2

theorem elems_set {p : Nat → Prop} {w w' : World} {s : Sc} {u0 u1 u2 : Value} (hs : KS.rel p w' s [u0, u1, u2]) (hk : ∀ t cs, KS.rel p w t cs → KS.rel p w' t cs) : ∀ (l : List Sc) (vs : List Value) (i : Nat), i < l.length → RG.Elems KS p w l vs → RG.Elems KS p w' (l.set i s) (set3 vs (i * 3) u0 u1 u2)
  | [], _, i, h, _ => absurd h (Nat.not_lt_zero _)
  | t :: l, vs, 0, _, ⟨cs, rest, e, h1, h2⟩ => by
    obtain ⟨A, c, rfl, _⟩ := h1
    refine ⟨[u0, u1, u2], rest, ?_, hs, h2.map hk⟩
    rw [e]
    rfl
  | t :: l, vs, i + 1, h, ⟨cs, rest, e, h1, h2⟩ => by
    have h3 := elems_set hs hk l rest i (by simpa using h) h2
    have h1' := hk _ _ h1
    obtain ⟨A, c, rfl, _⟩ := h1
    refine ⟨_, set3 rest (i * 3) u0 u1 u2, ?_, h1', h3⟩
    rw [e, show (i + 1) * 3 = i * 3 + 1 + 1 + 1 from by omega]
    rfl

/-- Three places of a row of the call's own are stored. -/
theorem own_set3 {w : World} {base g n cap : Nat} {e : TypeId} {vs : List Value} (h : w.ownsRow base e 3 (.slice (some ⟨g, 0, none⟩) n cap) n vs) (k : Nat) (u0 u1 u2 : Value) :
    (((w.setCell ⟨g, k, none⟩ u0).setCell ⟨g, k + 1, none⟩ u1).setCell ⟨g, k + 2, none⟩ u2).ownsRow base e 3 (.slice (some ⟨g, 0, none⟩) n cap) n (set3 vs k u0 u1 u2) ∧ w.grownBy (((w.setCell ⟨g, k, none⟩ u0).setCell ⟨g, k + 1, none⟩ u1).setCell ⟨g, k + 2, none⟩ u2) (some g) := by
  obtain ⟨h1, g1⟩ := h.stored k u0
  obtain ⟨h2, g2⟩ := h1.stored (k + 1) u1
  obtain ⟨h3, g3⟩ := h2.stored (k + 2) u2
  have tr : ∀ {a b c : World}, a.grownBy b (some g) → b.grownBy c (some g) → a.grownBy c (some g) := fun h k =>
    ⟨k.os.trans h.os, k.tape.trans h.tape, k.output.trans h.output, Nat.le_trans h.size k.size, fun i hi hne => (k.block i (Nat.lt_of_lt_of_le hi h.size) hne).trans (h.block i hi hne)⟩
  exact ⟨h3, tr (tr g1 g2) g3⟩

/-- What a store at an element's place wants. -/
theorem own_at {w : World} {base n : Nat} {v : Value} {l : List Sc} {vs : List Value} {p : Nat → Prop} (h : w.ownsRow base 40 3 v n vs) (hE : RG.Elems KS p w l vs) (i : Nat) (hi : i < l.length) :
    ∃ g c q, v = .slice (some ⟨g, 0, none⟩) n c ∧ q = i * 3 ∧ base ≤ g ∧ (∀ W, (Instr.indexAt 22 (.slice (some ⟨g, 0, none⟩) n c) (.int .i64 (i : Int))).run Tryz.prog W = .ok (.pointer (some ⟨g, q, none⟩)) W) ∧
      (∃ u0 u1 u2, w.cell? ⟨g, q, none⟩ = some u0 ∧ w.cell? ⟨g, q + 1, none⟩ = some u1 ∧ w.cell? ⟨g, q + 2, none⟩ = some u2) ∧ w.frozen? ⟨g, q, none⟩ = false ∧ w.frozen? ⟨g, q + 1, none⟩ = false ∧ w.frozen? ⟨g, q + 2, none⟩ = false := by
  have hlen := hE.len
  have hn := h.1
  have hl3 : l.length * KS.size = l.length * 3 := rfl
  rw [hlen, hl3] at hn
  have hnl : l.length = n := by omega
  obtain ⟨A, c, rfl⟩ := RG.own_is h
  rcases h.2 with ⟨_, h0⟩ | ⟨g, cap, cur, hv, hg, _⟩
  · omega
  · injection hv with hv _ hc
    subst hv
    subst hc
    refine ⟨g, c, i * 3, rfl, rfl, hg, fun W => ?_, ?_, h.frozenAt _, h.frozenAt _, h.frozenAt _⟩
    · have := tyS.index W g 0 n c i (by omega)
      rw [Nat.zero_add] at this
      exact this
    · have hc : ∀ k, k < n * 3 → ∃ u, w.cell? ⟨g, k, none⟩ = some u := fun k hk => by
        rw [h.cellAt k hk]
        exact ⟨vs[k]'(by rw [hlen, hl3, hnl]; exact hk), List.getElem?_eq_getElem _⟩
      obtain ⟨u0, e0⟩ := hc (i * 3) (by omega)
      obtain ⟨u1, e1⟩ := hc (i * 3 + 1) (by omega)
      obtain ⟨u2, e2⟩ := hc (i * 3 + 2) (by omega)
      exact ⟨u0, u1, u2, e0, e1, e2⟩
end Go.Proofs.YtbmdkibmfkmjoaaGreat.Sc

namespace Go.Proofs.YtbmdkibmfkmjoaaGreat.Rg
open Go.RowKit Go.Proofs.YtbmdkibmfkmjoaaGreat.BM Go.Proofs.YtbmdkibmfkmjoaaGreat.LM Go.Proofs.YtbmdkibmfkmjoaaGreat.VaM Go.Proofs.YtbmdkibmfkmjoaaGreat.Va Go.Proofs.YtbmdkibmfkmjoaaGreat.Sc Go.Proofs.YtbmdkibmfkmjoaaGreat.RgM
open Go.Proofs.YtbmdkibmfkmjoaaGreat.ScM (Sc)

/-- Fields stay, where another block is written. -/
theorem slF_off {w : World} {A : Option Addr} {l : List ScM.F} {c : Nat} {p : Addr} (h : SlF w A l c) (hp : ∀ a, A = some a → a.block ≠ p.block) (u : Value) : SlF (w.setCell p u) A l c := by
  refine ⟨fun hx => ?_, h.2⟩
  obtain ⟨g, o, e, hc⟩ := h.1 hx
  have hne := hp _ e
  have n : ∀ q, (⟨g, q, none⟩ : Addr) ≠ p := fun q e => hne (by rw [← e])
  exact ⟨g, o, e, fun j hj => ⟨by rw [World.cell?_setCell_other (h := (n _).symm)]; exact (hc j hj).1, by rw [World.cell?_setCell_other (h := (n _).symm)]; exact (hc j hj).2⟩⟩

set_option maxRecDepth 100000 in
set_option maxHeartbeats 2000000 in
theorem own_any (s : Sc) (A : Option Addr) (c : Nat) (w : World) (hF : SlF w A s.f c) (hr : Room s.f) :
    Calls Tryz.prog 72 #[.agg #[.string s.s, .int .i64 s.v, .slice A s.f.length c]] w fun e w' => ∃ A' c', e = .returned (.agg #[.string s.s, .int .i64 s.v, .slice A' s.f.length c']) ∧ Own w.heap.size w' A' s.f c' ∧ Below w.heap.size w w' := by
  obtain ⟨nm, v, f⟩ := s
  simp only at hF hr ⊢
  have hcl := fun W (h : Below w.heap.size w W) => CloneF_any f A c W (hF.kept h) hr
  have HCl := Lib.hid hcl
  obtain ⟨n, hn⟩ : ∃ n, n = f.length := ⟨_, rfl⟩
  rw [← hn] at HCl ⊢
  clear hcl hF hr hn
  have hb1 := (Below.refl w.heap.size w).alloc (Nat.le_refl _) (.cells #[.string nm, .int .i64 v, .slice A n c] 40)
  have hx1 := bx_new_t w 40 (.string nm) (.int .i64 v) (.slice A n c)
  obtain ⟨u1, hu1⟩ : ∃ u, u = w.alloc (.cells #[.string nm, .int .i64 v, .slice A n c] 40) := ⟨_, rfl⟩
  have hs1 : u1.heap.size = w.heap.size + 1 := by rw [hu1]; simp
  rw [← hu1] at hb1 hx1
  have hb2 := (Below.refl u1.heap.size u1).alloc (Nat.le_refl _) (.cells #[.string ⟨#[]⟩, .int .i64 0, .slice none 0 0] 40)
  have hz2 := bx_new_t u1 40 (.string ⟨#[]⟩) (.int .i64 0) (.slice none 0 0)
  rw [hs1] at hz2
  have hx2 := hx1.kept hb2
  have hbb := bt hb1 hb2
  rw [hu1] at hx2 hz2 hbb
  have HX2 := Lib.hid hx2
  have HZ2 := Lib.hid hz2
  have HB2 := Lib.hid hbb
  clear hb1 hx1 hs1 hb2 hz2 hx2 hbb hu1 u1
  obtain ⟨⟨p0, p1, p2⟩, _⟩ := HX2.out
  go_enter Tryz.func72, Tryz.ntmps72
  go_wp2_with fail
  obtain ⟨w2, hw2⟩ : ∃ w2, w2 = (w.alloc (.cells #[.string nm, .int .i64 v, .slice A n c] 40)).alloc (.cells #[.string ⟨#[]⟩, .int .i64 0, .slice none 0 0] 40) := ⟨_, rfl⟩
  rw [← hw2] at HX2 HZ2 HB2 ⊢
  clear hw2 p0 p1 p2
  refine (HCl.out w2 HB2.out).mono ?_
  rintro e w3 ⟨A3, c3, rfl, hO3, hb3⟩
  have HO3 := Lib.hid hO3
  have HX3 := Lib.hid (HX2.out.kept hb3)
  have HZ3 := Lib.hid (HZ2.out.kept hb3)
  have HB3 := Lib.hid (bt HB2.out hb3)
  have hlt := HZ2.out.lt
  have HAp := Lib.hid (show ∀ a, A3 = some a → w.heap.size + 1 < a.block from fun a ha => Nat.lt_of_lt_of_le hlt (hO3.2 a ha))
  clear hO3 hb3 HX2 HZ2 HB2 HCl hlt
  have hs4 := slF_off (p := ⟨w.heap.size, 2, none⟩) HO3.out.1 (fun a ha => by have := HAp.out a ha; simp only; omega) (.slice A3 n c3)
  have hb4 := HB3.out.setCell (p := ⟨w.heap.size, 2, none⟩) (Nat.le_refl _) (.slice A3 n c3)
  have hx4 := bx_set2 HX3.out (.slice A3 n c3)
  have hz4 := HZ3.out.off (p := ⟨w.heap.size, 2, none⟩) (by simp only; omega) (.slice A3 n c3)
  have HX4 := Lib.hid hx4
  have HZ4 := Lib.hid hz4
  have HB4 := Lib.hid hb4
  have HS4 := Lib.hid hs4
  obtain ⟨⟨y0, y1, y2⟩, y3, y4, y5⟩ := HX3.out
  obtain ⟨⟨p0, p1, p2⟩, _⟩ := HX4.out
  obtain ⟨⟨q0, q1, q2⟩, q3, q4, q5⟩ := HZ4.out
  have hst := bx_store HZ4.out (.string nm) (.int .i64 v) (.slice A3 n c3)
  have HF := Lib.hid (stored3 HB4.out (Nat.le_succ _) (.string nm) (.int .i64 v) (.slice A3 n c3))
  have HSl := Lib.hid (slF_off (p := ⟨w.heap.size + 1, 2, none⟩) (slF_off (p := ⟨w.heap.size + 1, 1, none⟩) (slF_off (p := ⟨w.heap.size + 1, 0, none⟩) HS4.out (fun a ha => by have := HAp.out a ha; simp only; omega) (.string nm)) (fun a ha => by have := HAp.out a ha; simp only; omega) (.int .i64 v)) (fun a ha => by have := HAp.out a ha; simp only; omega) (.slice A3 n c3))
  obtain ⟨⟨g0, g1, g2⟩, _⟩ := hst
  have G0 := Lib.hid g0
  have G1 := Lib.hid g1
  have G2 := Lib.hid g2
  clear hs4 hb4 hx4 hz4 g0 g1 g2
  go_wp2_with fail
  obtain ⟨W2, hW2⟩ : ∃ W2, W2 = (((w3.setCell ⟨w.heap.size, 2, none⟩ (.slice A3 n c3)).setCell ⟨w.heap.size + 1, 0, none⟩ (.string nm)).setCell ⟨w.heap.size + 1, 1, none⟩ (.int .i64 v)).setCell ⟨w.heap.size + 1, 2, none⟩ (.slice A3 n c3) := ⟨_, rfl⟩
  rw [← hW2] at HF HSl G0 G1 G2 ⊢
  have g0 := G0.out
  have g1 := G1.out
  have g2 := G2.out
  clear hW2 p0 p1 p2 y0 y1 y2 y3 y4 y5 q0 q1 q2 q3 q4 q5
  exact bodyPost_ret (v := .agg #[.string nm, .int .i64 v, .slice A3 n c3]) (by simp [results, Tryz.results72, go_sem, g0, g1, g2]) rfl ⟨A3, c3, rfl, ⟨HSl.out, fun a ha => by have := HAp.out a ha; omega⟩, HF.out⟩

/-- Schemas of the call's own. -/
def OwnL (base : Nat) (l : List Sc) (us : List Value) (n : Nat) (u : Value) (w : World) : Prop :=
  w.ownsRow base 40 3 u n us ∧ RG.Elems KS (fun b => True ∧ ne u b) w l us

theorem OwnL.kept {base : Nat} {l : List Sc} {us : List Value} {n : Nat} {u : Value} {w w' : World} (h : OwnL base l us n u w) (hb : Below w.heap.size w w') : OwnL base l us n u w' :=
  ⟨own_later h.1 hb, h.2.map fun _ _ e => KS.kept e hb⟩

/-- The block of a row of the call's own is there. -/
theorem own_lt {w : World} {base n size : Nat} {e : TypeId} {v : Value} {xs : List Value} (h : w.ownsRow base e size v n xs) : ∀ b, v.ownBlock = some b → b < w.heap.size := by
  intro b hb
  rcases h.2 with ⟨rfl, _⟩ | ⟨g, cap, cur, rfl, _⟩
  · cases hb
  · have e : some g = some b := hb
    injection e with e
    subst e
    exact (h.lt g rfl).2

/-- A schema whose fields lie in a new block, as an element. -/
theorem relS_own {w : World} {A : Option Addr} {s : Sc} {c H : Nat} (h : Own H w A s.f c) (hf : Fine s) {v : Value} (hv : ∀ b, v.ownBlock = some b → b < H) : KS.rel (fun b => True ∧ ne v b) w s [.string s.s, .int .i64 s.v, .slice A s.f.length c] := by
  refine ⟨A, c, rfl, h.1, hf, fun _ a ha => ⟨True.intro, fun e => ?_⟩⟩
  have h1 := h.2 a ha
  have h2 := hv _ e.symm
  omega

/-- Is there memory for as many fields of any of them again? -/
def RoomL (l : List Sc) : Prop := ∀ i, i < l.length → Room (l.getD i s0).f

theorem take_snocS {l : List Sc} {j : Nat} (h : j < l.length) : l.take (j + 1) = l.take j ++ [l.getD j s0] := by
  rw [List.take_add_one, List.getElem?_eq_getElem h, getD_lt h]
  rfl
end Go.Proofs.YtbmdkibmfkmjoaaGreat.Rg

namespace Go.Proofs.YtbmdkibmfkmjoaaGreat.Rg
open Go.RowKit Go.Proofs.YtbmdkibmfkmjoaaGreat.BM Go.Proofs.YtbmdkibmfkmjoaaGreat.LM Go.Proofs.YtbmdkibmfkmjoaaGreat.VaM Go.Proofs.YtbmdkibmfkmjoaaGreat.Va Go.Proofs.YtbmdkibmfkmjoaaGreat.Sc Go.Proofs.YtbmdkibmfkmjoaaGreat.RgM
open Go.Proofs.YtbmdkibmfkmjoaaGreat.ScM (Sc Fit)

theorem room_may {s : Sc} (h : ScM.May s) : Room s.f := by
  have := h.2.2.2.1
  unfold Room
  omega

theorem roomL_may {l : List Sc} (h : May l) : RoomL l := fun i hi => room_may (h.1 i hi).1

end Go.Proofs.YtbmdkibmfkmjoaaGreat.Rg

namespace Go.Proofs.YtbmdkibmfkmjoaaGreat.Rg
open Go.RowKit Go.Proofs.YtbmdkibmfkmjoaaGreat.BM Go.Proofs.YtbmdkibmfkmjoaaGreat.VaM Go.Proofs.YtbmdkibmfkmjoaaGreat.Va Go.Proofs.YtbmdkibmfkmjoaaGreat.Sc Go.Proofs.YtbmdkibmfkmjoaaGreat.RgM
open Go.Proofs.YtbmdkibmfkmjoaaGreat.ScM (Sc)

/-- What is found, as an answer. -/
def Found (l : List Sc) (nm : ByteArray) (w : World) (e : Ending) (w' : World) : Prop :=
  ∃ A c, e = .returned (.tuple #[.agg #[.string (find l nm).1.s, .int .i64 (find l nm).1.v, .slice A (find l nm).1.f.length c], .bool (find l nm).2]) ∧ SlF w' A (find l nm).1.f c ∧ Fine (find l nm).1 ∧ Below w.heap.size w w'

theorem fine_s0 : Fine s0 := ⟨by unfold maxLen; decide, by decide, by decide⟩

theorem find_of {l : List Sc} {nm : ByteArray} {i : Nat} (h : At l nm = some i) : find l nm = (l.getD i s0, true) := by unfold find; rw [h]
theorem find_no {l : List Sc} {nm : ByteArray} (h : At l nm = none) : find l nm = (s0, false) := by unfold find; rw [h]

theorem eq_iff {a b : List Sc} (h : a.length = b.length) : a = b ↔ ∀ j, j < a.length → a.getD j s0 = b.getD j s0 := by
  constructor
  · intro e j _
    rw [e]
  · intro hall
    refine List.ext_getElem h (fun j h1 h2 => ?_)
    have := hall j h1
    rw [getD_lt h1, getD_lt h2] at this
    exact this
end Go.Proofs.YtbmdkibmfkmjoaaGreat.Rg

namespace Go.Proofs.YtbmdkibmfkmjoaaGreat.Rg
open Go.RowKit Go.Proofs.YtbmdkibmfkmjoaaGreat.BM Go.Proofs.YtbmdkibmfkmjoaaGreat.VaM Go.Proofs.YtbmdkibmfkmjoaaGreat.RgM
open Go.Proofs.YtbmdkibmfkmjoaaGreat.ScM (Sc)

theorem atI_some {l : List Sc} {n : ByteArray} {j : Nat} (hj : j < l.length) (h : (l.getD j s0).s = n) (hne : ∀ x, x < j → (l.getD x s0).s ≠ n) : atI l n = (j : Int) := by
  unfold atI
  rw [at_some.2 ⟨hj, h, hne⟩]

theorem atI_none {l : List Sc} {n : ByteArray} (hne : ∀ x, x < l.length → (l.getD x s0).s ≠ n) : atI l n = -1 := by
  unfold atI
  rw [at_none.2 hne]
end Go.Proofs.YtbmdkibmfkmjoaaGreat.Rg

namespace Go.Proofs.YtbmdkibmfkmjoaaGreat.Sc
open Go.RowKit Go.Proofs.YtbmdkibmfkmjoaaGreat.BM Go.Proofs.YtbmdkibmfkmjoaaGreat.VaM Go.Proofs.YtbmdkibmfkmjoaaGreat.Va Go.Proofs.YtbmdkibmfkmjoaaGreat.ScM

set_option maxRecDepth 100000 in
theorem mayField_any (s : ByteArray) (k : Int) (w : World) (hs : s.size ≤ maxLen) :
    Calls Tryz.prog 67 #[.agg #[.string s, .int .i64 k]] w fun e w' => e = .returned (.bool (decide (FOk ⟨s, k⟩))) ∧ Below w.heap.size w w' := by
  have HB := Lib.hid ((Below.refl w.heap.size w).alloc (Nat.le_refl _) (.cells #[.string s, .int .i64 k] 72))
  have HX := Lib.hid (bx2_new w 72 (.string s) (.int .i64 k))
  have HN := Lib.hid (fun W => Name_any s W hs)
  have hd : decide (FOk ⟨s, k⟩) = (decide (Nm s) && (decide (0 ≤ k) && decide (k < 4))) := by
    rw [Bool.eq_iff_iff, decide_eq_true_iff]
    simp [FOk]
  have HD := Lib.hid hd
  obtain ⟨N, hN⟩ : ∃ N, N = decide (Nm s) := ⟨_, rfl⟩
  simp only [← hN] at HN HD
  clear hd hN
  go_enter Tryz.func67, Tryz.ntmps67
  go_wp2_with fail
  refine (HN.out _).mono ?_
  rintro e w1 ⟨rfl, hb⟩
  have HB1 := Lib.hid (bt HB.out hb)
  obtain ⟨⟨p0, p1⟩, _⟩ := HX.out.kept hb
  clear hb HB HX
  cases N
  · go_wp2_with fail
    go_ret
    exact ⟨ret_v (x := .bool false) (by rw [HD.out]; rfl), HB1.out⟩
  · have hw : k < 0 ∨ (0 ≤ k ∧ k < 4) ∨ (0 ≤ k ∧ 4 ≤ k) := by omega
    rcases hw with h0 | ⟨h0, h4⟩ | ⟨h0, h4⟩
    · have d0 : decide (0 ≤ k) = false := by rw [decide_eq_false_iff_not]; omega
      go_wp2_with fail
      go_ret
      exact ⟨ret_v (x := .bool false) (by rw [HD.out]; simp [d0]), HB1.out⟩
    · go_wp2_with fail
      go_ret
      exact ⟨ret_v (x := .bool true) (by rw [HD.out]; simp [h0, h4]), HB1.out⟩
    · have d4 : decide (k < 4) = false := by rw [decide_eq_false_iff_not]; omega
      go_wp2_with fail
      go_ret
      exact ⟨ret_v (x := .bool false) (by rw [HD.out]; simp [h0, d4]), HB1.out⟩

theorem has_take {l : List F} {s : ByteArray} : ∀ {j : Nat} (_ : j ≤ l.length), (¬ Has (l.take j) s ↔ ∀ i, i < j → (l.getD i d0).s ≠ s) := by
  intro j hj
  constructor
  · intro h i hi e
    refine h ⟨l.getD i d0, ?_, e⟩
    have e2 : (l.take j).getD i d0 = l.getD i d0 := by
      rw [List.getD_eq_getElem?_getD, List.getD_eq_getElem?_getD, List.getElem?_take, if_pos hi]
    rw [← e2]
    exact getD_mem (by rw [List.length_take]; omega)
  · rintro h ⟨f, hf, e⟩
    obtain ⟨i, hi, rfl⟩ := List.getElem_of_mem hf
    rw [List.length_take] at hi
    refine h i (by omega) ?_
    rw [← e, List.getElem_take, List.getD_eq_getElem?_getD, List.getElem?_eq_getElem (by omega)]
    rfl

set_option maxRecDepth 100000 in
theorem has_any (A : Option Addr) (l : List F) (c : Nat) (s : ByteArray) (w : World) (h : SlF w A l c) :
    Calls Tryz.prog 68 #[.slice A l.length c, .string s] w fun e w' => e = .returned (.bool (decide (Has l s))) ∧ Below w.heap.size w w' := by
  have hl := slF_len h
  have hno : ¬ Has l s ↔ ∀ i, i < l.length → (l.getD i d0).s ≠ s := by
    have h1 := has_take (s := s) (Nat.le_refl l.length)
    rw [List.take_length] at h1
    exact h1
  obtain ⟨n, hn⟩ : ∃ n, n = l.length := ⟨_, rfl⟩
  rw [← hn] at hl hno ⊢
  have HNo := Lib.hid hno
  have HLen := Lib.hid hn
  have HS := Lib.hid h
  clear hno hn h
  go_enter Tryz.func68, Tryz.ntmps68
  go_wp2_with fail
  go_loopw [9] (fun i wr => ∃ j : Nat, i = .int .i64 j ∧ j ≤ n ∧ (∀ r, r < j → (l.getD r d0).s ≠ s) ∧ Below w.heap.size w wr) (fun i _ => n - (intOf i).toNat)
  case atStart => exact ⟨0, rfl, Nat.zero_le _, fun r hr => absurd hr (Nat.not_lt_zero r), Below.refl _ _⟩
  case round =>
    obtain ⟨j, rfl, hj, hne, hbel⟩ := hrel
    have HNe := Lib.hid hne
    have HBl := Lib.hid hbel
    clear hne hbel
    by_cases hjn : j < n
    · obtain ⟨b, q, hix, hc, _⟩ := HS.out.at j (by rw [← HLen.out]; exact hjn)
      obtain ⟨⟨fs, fk⟩, hf⟩ : ∃ f, f = l.getD j d0 := ⟨_, rfl⟩
      rw [← hf] at hc
      obtain ⟨c0, c1⟩ := hc wr HBl.out
      simp only at c0 c1
      have hi := fun W => hix W n c hjn
      have HF := Lib.hid hf
      obtain ⟨⟨p0, p1⟩, _⟩ := bx2_new wr 72 (.string fs) (.int .i64 fk)
      have HB2 := Lib.hid (bt HBl.out ((Below.refl wr.heap.size wr).alloc (Nat.le_refl _) (.cells #[.string fs, .int .i64 fk] 72)))
      clear hc hix hf
      by_cases he : fs = s
      · have hee : (fs.toList == s.toList) = true := by rw [he]; simp
        have HY := Lib.hid (show Has l s from Classical.byContradiction fun hh => HNo.out.1 hh j hjn (by rw [← HF.out]; exact he))
        clear he
        go_wp2_with fail
        go_ret
        exact ⟨ret_v (x := .bool true) (by rw [decide_eq_true HY.out]), HB2.out⟩
      · have hee := str_ne he
        have HX := Lib.hid he
        clear he
        go_wp2_with fail
        go_roundw
        case rel =>
          refine ⟨j + 1, by go_num, by omega, fun r hr => ?_, HB2.out⟩
          by_cases e : r = j
          · rw [e, ← HF.out]
            exact HX.out
          · exact HNe.out r (by omega)
        case measure => simp [intOf]; omega
    · obtain rfl : j = n := by omega
      have HY := Lib.hid (HNo.out.2 HNe.out)
      go_wp2_with fail
      go_ret
      exact ⟨ret_v (x := .bool false) (by rw [decide_eq_false HY.out]), HBl.out⟩

set_option maxRecDepth 100000 in
set_option maxHeartbeats 2000000 in
theorem May_any (s : Sc) (A : Option Addr) (c : Nat) (w : World) (hS : SlF w A s.f c) (hz : Fine s) :
    Calls Tryz.prog 41 #[.agg #[.string s.s, .int .i64 s.v, .slice A s.f.length c]] w fun e w' => e = .returned (.bool (decide (May s))) ∧ Below w.heap.size w w' := by
  obtain ⟨nm, v, l⟩ := s
  simp only at hS ⊢
  have hl := slF_len hS
  have hcap := hS.2.1
  have HN := Lib.hid (fun W => Name_any nm W hz.1)
  have hmay : May ⟨nm, v, l⟩ ↔ Nm nm ∧ 1 ≤ v ∧ v ≤ 1000 ∧ l.length ≤ 6 ∧ Gd l l.length := Iff.rfl
  obtain ⟨n, hn⟩ : ∃ n, n = l.length := ⟨_, rfl⟩
  rw [← hn] at hl hmay hcap ⊢
  have HLen := Lib.hid hn
  have HS := Lib.hid hS
  have HMay := Lib.hid hmay
  have HX0 := Lib.hid (bx_new_t w 40 (.string nm) (.int .i64 v) (.slice A n c))
  have HB0 := Lib.hid ((Below.refl w.heap.size w).alloc (Nat.le_refl _) (.cells #[.string nm, .int .i64 v, .slice A n c] 40))
  clear hn hS hmay hz
  go_enter Tryz.func41, Tryz.ntmps41
  go_wp2_with fail
  refine (HN.out _).mono ?_
  rintro e w1 ⟨rfl, hb1⟩
  have HX1 := Lib.hid (HX0.out.kept hb1)
  have HB1 := Lib.hid (bt HB0.out hb1)
  obtain ⟨⟨p0, p1, p2⟩, _⟩ := HX1.out
  clear hb1 HX0 HB0 HN
  have hways : ¬ Nm nm ∨ (Nm nm ∧ v < 1) ∨ (Nm nm ∧ 1 ≤ v ∧ 1000 < v) ∨ (Nm nm ∧ 1 ≤ v ∧ v ≤ 1000 ∧ 6 < n) ∨ (Nm nm ∧ 1 ≤ v ∧ v ≤ 1000 ∧ n ≤ 6) := by
    by_cases h : Nm nm
    · simp only [h, true_and, not_true, false_or]
      omega
    · exact Or.inl h
  rcases hways with m1 | ⟨m1, m2⟩ | ⟨m1, m2, m3⟩ | ⟨m1, m2, m3, m4⟩ | ⟨m1, m2, m3, m4⟩
  · rw [decide_eq_false m1]
    have HM := Lib.hid (show ¬ May ⟨nm, v, l⟩ from fun h => m1 (HMay.out.1 h).1)
    clear m1
    go_wp2_with fail
    go_ret
    exact ⟨ret_v (x := .bool false) (by rw [decide_eq_false HM.out]), HB1.out⟩
  · rw [decide_eq_true m1]
    have HM := Lib.hid (show ¬ May ⟨nm, v, l⟩ from fun h => by have := (HMay.out.1 h).2.1; omega)
    clear m1
    go_wp2_with fail
    go_ret
    exact ⟨ret_v (x := .bool false) (by rw [decide_eq_false HM.out]), HB1.out⟩
  · rw [decide_eq_true m1]
    have HM := Lib.hid (show ¬ May ⟨nm, v, l⟩ from fun h => by have := (HMay.out.1 h).2.2.1; omega)
    clear m1
    go_wp2_with fail
    go_ret
    exact ⟨ret_v (x := .bool false) (by rw [decide_eq_false HM.out]), HB1.out⟩
  · rw [decide_eq_true m1]
    have HM := Lib.hid (show ¬ May ⟨nm, v, l⟩ from fun h => by have := (HMay.out.1 h).2.2.2.1; omega)
    clear m1
    go_wp2_with fail
    go_ret
    exact ⟨ret_v (x := .bool false) (by rw [decide_eq_false HM.out]), HB1.out⟩
  · rw [decide_eq_true m1]
    have HM := Lib.hid (show May ⟨nm, v, l⟩ ↔ Gd l n from ⟨fun h => (HMay.out.1 h).2.2.2.2, fun h => HMay.out.2 ⟨m1, m2, m3, m4, h⟩⟩)
    clear m1 HMay
    go_wp2_with fail
    clear p0 p1 p2
    go_loopw [28] (fun i wr => ∃ j : Nat, i = .int .i64 j ∧ j ≤ n ∧ Gd l j ∧ Below w1.heap.size w1 wr) (fun i _ => n - (intOf i).toNat)
    case atStart => exact ⟨0, rfl, Nat.zero_le _, fun r hr => absurd hr (Nat.not_lt_zero r), Below.refl _ _⟩
    case round =>
      obtain ⟨j, rfl, hj, hgood, hbel⟩ := hrel
      have HG := Lib.hid hgood
      have HBl := Lib.hid hbel
      clear hgood hbel
      by_cases hjn : j < n
      · obtain ⟨b, q, hix, hc, hsz⟩ := HS.out.at j (by rw [← HLen.out]; exact hjn)
        have hiff : GdAt l j ↔ FOk (l.getD j d0) ∧ ¬ Has (l.take j) (l.getD j d0).s := Iff.rfl
        obtain ⟨⟨fs, fk⟩, hf⟩ : ∃ f, f = l.getD j d0 := ⟨_, rfl⟩
        rw [← hf] at hc hsz hiff
        obtain ⟨c0, c1⟩ := hc wr (bt HB1.out HBl.out)
        simp only at c0 c1 hsz hiff
        have hi := fun W => hix W n c hjn
        have HIff := Lib.hid hiff
        have HF := Lib.hid (fun W => mayField_any fs fk W hsz)
        have ha2 := (Below.refl wr.heap.size wr).alloc (Nat.le_refl _) (.cells #[.string fs, .int .i64 fk] 72)
        have HX2 := Lib.hid ((HX1.out.kept HBl.out).kept ha2)
        have HY2 := Lib.hid (bx2_new wr 72 (.string fs) (.int .i64 fk))
        have HB2 := Lib.hid (bt HBl.out ha2)
        have hlt : (l.take j).length = j := by rw [List.length_take, ← HLen.out]; omega
        have hHas := fun W (hW : Below w.heap.size w W) => has_any A (l.take j) c fs W ((HS.out.take j).kept hW)
        simp only [hlt] at hHas
        have HHas := Lib.hid hHas
        have hcut := fun W => cut_f W A n c j (by omega)
        clear hc hix hf ha2 hiff hlt hHas
        go_wp2_with fail
        obtain ⟨b2, hb2⟩ : ∃ b2, b2 = wr.heap.size := ⟨_, rfl⟩
        obtain ⟨w2, hw2⟩ : ∃ w2, w2 = wr.alloc (.cells #[.string fs, .int .i64 fk] 72) := ⟨_, rfl⟩
        rw [← hw2] at HX2 HY2 HB2 ⊢
        rw [← hb2] at HY2 ⊢
        clear hw2 hb2 c0 c1 hi
        by_cases hok : FOk ⟨fs, fk⟩
        · rw [decide_eq_true hok] at HF
          have HOk := Lib.hid hok
          clear hok
          refine Reg.G_start (by kernel_rfl) (by repeat (first | exact Reg.frameless_bodyPost | refine Reg.frameless_then ?_ | refine Reg.frameless_inBlock ?_)) (fun W hW => ?_)
          obtain ⟨⟨y0, y1⟩, _⟩ := HY2.out
          have x0 := Reg.later_cell hW y0
          have x1 := Reg.later_cell hW y1
          clear y0 y1
          first | (refine Reg.G_step (i := 0) rfl (by kernel_rfl) (by rfl) (fun K hK => ?_); go_big_quiet_op; refine hK _ ?_; clear hK K) | (refine Reg.G_skip (i := 0) rfl (by kernel_rfl) (by rfl) ?_; simp only [Act.put, List.setIfInBounds_toArray, List.set_cons_zero, List.set_cons_succ])
          refine Reg.G_event (i := 1) rfl (by kernel_rfl) (by rfl) (fun K hK => ?_)
          go_simp
          refine (HF.out _).mono ?_
          rintro e v0 ⟨rfl, hv0⟩
          refine hK _ _ hv0 ?_
          clear hK K x0 x1
          have hw0 := bt hW hv0
          obtain ⟨⟨y0, _⟩, _⟩ := HY2.out.kept hW
          obtain ⟨⟨_, _, z2⟩, _⟩ := HX2.out.kept hW
          have x0 := Reg.later_cell hv0 y0
          have x2 := Reg.later_cell hv0 z2
          clear y0 z2
          first | (refine Reg.G_step (i := 2) rfl (by kernel_rfl) (by rfl) (fun K hK => ?_); go_big_quiet_op; refine hK _ ?_; clear hK K) | (refine Reg.G_skip (i := 2) rfl (by kernel_rfl) (by rfl) ?_; simp only [Act.put, List.setIfInBounds_toArray, List.set_cons_zero, List.set_cons_succ])
          first | (refine Reg.G_step (i := 3) rfl (by kernel_rfl) (by rfl) (fun K hK => ?_); go_big_quiet_op; refine hK _ ?_; clear hK K) | (refine Reg.G_skip (i := 3) rfl (by kernel_rfl) (by rfl) ?_; simp only [Act.put, List.setIfInBounds_toArray, List.set_cons_zero, List.set_cons_succ])
          first | (refine Reg.G_step (i := 4) rfl (by kernel_rfl) (by rfl) (fun K hK => ?_); go_big_quiet_op; refine hK _ ?_; clear hK K) | (refine Reg.G_skip (i := 4) rfl (by kernel_rfl) (by rfl) ?_; simp only [Act.put, List.setIfInBounds_toArray, List.set_cons_zero, List.set_cons_succ])
          first | (refine Reg.G_step (i := 5) rfl (by kernel_rfl) (by rfl) (fun K hK => ?_); go_big_quiet_op; refine hK _ ?_; clear hK K) | (refine Reg.G_skip (i := 5) rfl (by kernel_rfl) (by rfl) ?_; simp only [Act.put, List.setIfInBounds_toArray, List.set_cons_zero, List.set_cons_succ])
          first | (refine Reg.G_step (i := 6) rfl (by kernel_rfl) (by rfl) (fun K hK => ?_); go_big_quiet_op; refine hK _ ?_; clear hK K) | (refine Reg.G_skip (i := 6) rfl (by kernel_rfl) (by rfl) ?_; simp only [Act.put, List.setIfInBounds_toArray, List.set_cons_zero, List.set_cons_succ])
          first | (refine Reg.G_step (i := 7) rfl (by kernel_rfl) (by rfl) (fun K hK => ?_); go_big_quiet_op; refine hK _ ?_; clear hK K) | (refine Reg.G_skip (i := 7) rfl (by kernel_rfl) (by rfl) ?_; simp only [Act.put, List.setIfInBounds_toArray, List.set_cons_zero, List.set_cons_succ])
          first | (refine Reg.G_step (i := 8) rfl (by kernel_rfl) (by rfl) (fun K hK => ?_); go_big_quiet_op; refine hK _ ?_; clear hK K) | (refine Reg.G_skip (i := 8) rfl (by kernel_rfl) (by rfl) ?_; simp only [Act.put, List.setIfInBounds_toArray, List.set_cons_zero, List.set_cons_succ])
          first | (refine Reg.G_step (i := 9) rfl (by kernel_rfl) (by rfl) (fun K hK => ?_); go_big_quiet_op; refine hK _ ?_; clear hK K) | (refine Reg.G_skip (i := 9) rfl (by kernel_rfl) (by rfl) ?_; simp only [Act.put, List.setIfInBounds_toArray, List.set_cons_zero, List.set_cons_succ])
          refine Reg.G_event (i := 10) rfl (by kernel_rfl) (by rfl) (fun K hK => ?_)
          go_simp
          refine (HHas.out _ (bt HB1.out (bt HB2.out hw0))).mono ?_
          rintro e v1 ⟨rfl, hv1⟩
          refine hK _ _ hv1 ?_
          clear hK K x0 x2
          have hw1 := bt hw0 hv1
          first | (refine Reg.G_step (i := 11) rfl (by kernel_rfl) (by rfl) (fun K hK => ?_); go_big_quiet_op; refine hK _ ?_; clear hK K) | (refine Reg.G_skip (i := 11) rfl (by kernel_rfl) (by rfl) ?_; simp only [Act.put, List.setIfInBounds_toArray, List.set_cons_zero, List.set_cons_succ])
          refine Reg.G_done (by kernel_rfl) ?_
          have HB3 := Lib.hid (bt HB2.out hw1)
          by_cases hh : Has (l.take j) fs
          · rw [decide_eq_true hh]
            have HNo := Lib.hid (show ¬ May ⟨nm, v, l⟩ from fun h => (HIff.out.1 (HM.out.1 h j hjn)).2 hh)
            clear hh hw0 hw1 hv0 hv1 hW
            go_wp2_with fail
            go_ret
            exact ⟨ret_v (x := .bool false) (by rw [decide_eq_false HNo.out]), bt HB1.out HB3.out⟩
          · rw [decide_eq_false hh]
            have HGo := Lib.hid (HG.out.succ (HIff.out.2 ⟨HOk.out, hh⟩))
            clear hh hw0 hw1 hv0 hv1 hW
            go_wp2_with fail
            go_roundw
            case rel => exact ⟨j + 1, by go_num, by omega, HGo.out, HB3.out⟩
            case measure => simp [intOf]; omega
        · rw [decide_eq_false hok] at HF
          have HNo := Lib.hid (show ¬ May ⟨nm, v, l⟩ from fun h => hok (HIff.out.1 (HM.out.1 h j hjn)).1)
          clear hok
          refine Reg.G_start (by kernel_rfl) (by repeat (first | exact Reg.frameless_bodyPost | refine Reg.frameless_then ?_ | refine Reg.frameless_inBlock ?_)) (fun W hW => ?_)
          obtain ⟨⟨y0, y1⟩, _⟩ := HY2.out
          have x0 := Reg.later_cell hW y0
          have x1 := Reg.later_cell hW y1
          clear y0 y1
          first | (refine Reg.G_step (i := 0) rfl (by kernel_rfl) (by rfl) (fun K hK => ?_); go_big_quiet_op; refine hK _ ?_; clear hK K) | (refine Reg.G_skip (i := 0) rfl (by kernel_rfl) (by rfl) ?_; simp only [Act.put, List.setIfInBounds_toArray, List.set_cons_zero, List.set_cons_succ])
          refine Reg.G_event (i := 1) rfl (by kernel_rfl) (by rfl) (fun K hK => ?_)
          go_simp
          refine (HF.out _).mono ?_
          rintro e v0 ⟨rfl, hv0⟩
          refine hK _ _ hv0 ?_
          clear hK K x0 x1
          have hw0 := bt hW hv0
          first | (refine Reg.G_step (i := 2) rfl (by kernel_rfl) (by rfl) (fun K hK => ?_); go_big_quiet_op; refine hK _ ?_; clear hK K) | (refine Reg.G_skip (i := 2) rfl (by kernel_rfl) (by rfl) ?_; simp only [Act.put, List.setIfInBounds_toArray, List.set_cons_zero, List.set_cons_succ])
          first | (refine Reg.G_step (i := 3) rfl (by kernel_rfl) (by rfl) (fun K hK => ?_); go_big_quiet_op; refine hK _ ?_; clear hK K) | (refine Reg.G_skip (i := 3) rfl (by kernel_rfl) (by rfl) ?_; simp only [Act.put, List.setIfInBounds_toArray, List.set_cons_zero, List.set_cons_succ])
          first | (refine Reg.G_step (i := 4) rfl (by kernel_rfl) (by rfl) (fun K hK => ?_); go_big_quiet_op; refine hK _ ?_; clear hK K) | (refine Reg.G_skip (i := 4) rfl (by kernel_rfl) (by rfl) ?_; simp only [Act.put, List.setIfInBounds_toArray, List.set_cons_zero, List.set_cons_succ])
          first | (refine Reg.G_step (i := 5) rfl (by kernel_rfl) (by rfl) (fun K hK => ?_); go_big_quiet_op; refine hK _ ?_; clear hK K) | (refine Reg.G_skip (i := 5) rfl (by kernel_rfl) (by rfl) ?_; simp only [Act.put, List.setIfInBounds_toArray, List.set_cons_zero, List.set_cons_succ])
          first | (refine Reg.G_step (i := 6) rfl (by kernel_rfl) (by rfl) (fun K hK => ?_); go_big_quiet_op; refine hK _ ?_; clear hK K) | (refine Reg.G_skip (i := 6) rfl (by kernel_rfl) (by rfl) ?_; simp only [Act.put, List.setIfInBounds_toArray, List.set_cons_zero, List.set_cons_succ])
          first | (refine Reg.G_step (i := 7) rfl (by kernel_rfl) (by rfl) (fun K hK => ?_); go_big_quiet_op; refine hK _ ?_; clear hK K) | (refine Reg.G_skip (i := 7) rfl (by kernel_rfl) (by rfl) ?_; simp only [Act.put, List.setIfInBounds_toArray, List.set_cons_zero, List.set_cons_succ])
          first | (refine Reg.G_step (i := 8) rfl (by kernel_rfl) (by rfl) (fun K hK => ?_); go_big_quiet_op; refine hK _ ?_; clear hK K) | (refine Reg.G_skip (i := 8) rfl (by kernel_rfl) (by rfl) ?_; simp only [Act.put, List.setIfInBounds_toArray, List.set_cons_zero, List.set_cons_succ])
          first | (refine Reg.G_step (i := 9) rfl (by kernel_rfl) (by rfl) (fun K hK => ?_); go_big_quiet_op; refine hK _ ?_; clear hK K) | (refine Reg.G_skip (i := 9) rfl (by kernel_rfl) (by rfl) ?_; simp only [Act.put, List.setIfInBounds_toArray, List.set_cons_zero, List.set_cons_succ])
          refine Reg.G_skip (i := 10) rfl (by kernel_rfl) (by rfl) ?_
          simp only [Act.put, List.setIfInBounds_toArray, List.set_cons_zero, List.set_cons_succ]
          first | (refine Reg.G_step (i := 11) rfl (by kernel_rfl) (by rfl) (fun K hK => ?_); go_big_quiet_op; refine hK _ ?_; clear hK K) | (refine Reg.G_skip (i := 11) rfl (by kernel_rfl) (by rfl) ?_; simp only [Act.put, List.setIfInBounds_toArray, List.set_cons_zero, List.set_cons_succ])
          refine Reg.G_done (by kernel_rfl) ?_
          have HB3 := Lib.hid (bt HB2.out hw0)
          clear hw0 hv0 hW
          go_wp2_with fail
          go_ret
          exact ⟨ret_v (x := .bool false) (by rw [decide_eq_false HNo.out]), bt HB1.out HB3.out⟩
      · obtain rfl : j = n := by omega
        have HYes := Lib.hid (HM.out.2 HG.out)
        go_wp2_with fail
        go_ret
        exact ⟨ret_v (x := .bool true) (by rw [decide_eq_true HYes.out]), bt HB1.out HBl.out⟩
end Go.Proofs.YtbmdkibmfkmjoaaGreat.Sc
