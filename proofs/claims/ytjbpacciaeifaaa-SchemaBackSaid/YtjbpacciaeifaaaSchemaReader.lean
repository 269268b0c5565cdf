/- The reader's four methods; asked: its two cells are there, and what is left reads as bytes. -/
import Derived.Test.YtjbpacciaeifaaaSchemaRd
import Derived.Test.YtjbpacciaeifaaaBx
import Derived.Test.YtjbpacciaeifaaaStrMem
import Derived.Test.YtjbpacciaeifaaaSlCut
import Derived.Test.YtjbpacciaeifaaaLeMem
import Derived.Test.YtjbpacciaeifaaaRegAppend
namespace Go.Proofs.Ytjbpacciaeifaaa.Sc
open Go.RowKit Go.Proofs.Ytjbpacciaeifaaa.BM Go.Proofs.Ytjbpacciaeifaaa.LM Go.Proofs.Ytjbpacciaeifaaa.LeM Go.Proofs.Ytjbpacciaeifaaa.VaM Go.Proofs.Ytjbpacciaeifaaa.Va Go.Proofs.Ytjbpacciaeifaaa.ScM

theorem grown_set (w : World) (b i : Nat) (u : Value) : w.grownBy (w.setCell ⟨b, i, none⟩ u) (some b) := by
  have h := (Below.refl 0 w).setCell (p := ⟨b, i, none⟩) (Nat.zero_le _) u
  exact ⟨h.os, h.tape, h.output, h.size, fun k _ hne => Below.heap_setCell w _ u k (fun e => hne (by rw [e]))⟩

theorem grown_trans {a b c : World} {r : Option Nat} (h : a.grownBy b r) (k : b.grownBy c r) : a.grownBy c r :=
  ⟨k.os.trans h.os, k.tape.trans h.tape, k.output.trans h.output, Nat.le_trans h.size k.size, fun i hi hne => (k.block i (Nat.lt_of_lt_of_le hi h.size) hne).trans (h.block i hi hne)⟩

/-- What a method leaves of the reader. -/
def Rdd (b : Nat) (A : Option Addr) (c : Nat) (xs : List Int) (w : World) (r : Rs) (w' : World) : Prop :=
  w.grownBy w' (some b) ∧ ∃ A' c', Bx2 w' b (.slice A' r.1.length c') (.bool r.2) ∧ ∀ W, SlB W A xs c → SlB W A' r.1 c'

set_option maxRecDepth 100000 in
theorem take_any (b : Nat) (A : Option Addr) (xs : List Int) (c : Nat) (sh : Bool) (k : Nat) (w : World) (hB : Bx2 w b (.slice A xs.length c) (.bool sh)) (hx : SlB w A xs c) :
    Calls Try.prog 41 #[.pointer (some ⟨b, 0, none⟩), .int .i64 (k : Int)] w fun e w' => ∃ A1 c1, e = .returned (.slice A1 (rTake k (xs, sh)).1.length c1) ∧ (∀ W, SlB W A xs c → SlB W A1 (rTake k (xs, sh)).1 c1) ∧ Rdd b A c xs w (rTake k (xs, sh)).2 w' := by
  have hxc := hx.2.1
  have hm := hx.2.2.2
  unfold maxLen at hm
  by_cases hlt : xs.length < k
  · have hr : rTake k (xs, sh) = ([], (xs, true)) := by unfold rTake; rw [if_pos hlt]
    rw [hr]
    obtain ⟨n, hn⟩ : ∃ n, n = xs.length := ⟨_, rfl⟩
    have HP := Lib.hid (bx2_set1 hB (.bool true))
    rw [← hn] at hB hxc hlt
    have HN := Lib.hid hn
    obtain ⟨⟨p0, p1⟩, p2, p3⟩ := hB
    clear hr hx hn
    go_enter Try.func41, Try.ntmps41
    go_wp2_with fail
    go_ret
    exact ⟨none, 0, rfl, (fun W _ => slB_none W), grown_set _ _ _ _, A, c, HP.out, fun W h => h⟩
  · have hr : rTake k (xs, sh) = (xs.take k, (xs.drop k, sh)) := by unfold rTake; rw [if_neg hlt]
    rw [hr]
    have hlt1 : (xs.take k).length = k := by rw [List.length_take]; omega
    have hlt2 : (xs.drop k).length = xs.length - k := List.length_drop
    simp only [hlt1]
    have HP := Lib.hid (bx2_set0 hB (.slice (dropA A k c) (xs.drop k).length (c - k)))
    have HE := Lib.hid hlt2
    have hH := fun W (h : SlB W A xs c) => Cut.slB_head h k c (by omega) (Nat.le_refl _) (by omega)
    have hD := fun W (h : SlB W A xs c) => Cut.slB_drop h k (by omega)
    have hsl1 := fun W => slice_hi W A xs.length c k (by omega)
    have hsl2 := fun W => slice_lo W A xs.length c k (by omega)
    obtain ⟨D, hDe⟩ : ∃ D, D = dropA A k c := ⟨_, rfl⟩
    rw [← hDe] at HP hsl2
    simp only [← hDe] at hD
    obtain ⟨n, hn⟩ : ∃ n, n = xs.length := ⟨_, rfl⟩
    rw [← hn] at hB hxc hlt hsl1 hsl2 HE
    have HN := Lib.hid hn
    have HH := Lib.hid hH
    have HD := Lib.hid hD
    obtain ⟨⟨p0, p1⟩, p2, p3⟩ := hB
    clear hr hx hn hH hD hDe hlt1 hlt2
    go_enter Try.func41, Try.ntmps41
    go_wp2_with fail
    go_ret
    refine ⟨A, c, rfl, HH.out, grown_set _ _ _ _, D, c - k, ?_, HD.out⟩
    have h := HP.out
    rw [HE.out] at h
    simp only [HE.out]
    exact h

set_option maxRecDepth 100000 in
theorem number_any (b : Nat) (A : Option Addr) (xs : List Int) (c : Nat) (sh : Bool) (m : Nat) (w : World) (hB : Bx2 w b (.slice A xs.length c) (.bool sh)) (hx : SlB w A xs c) (hm : m ≤ 1000) :
    Calls Try.prog 30 #[.pointer (some ⟨b, 0, none⟩), .int .u64 (m : Int)] w fun e w' => e = .returned (.int .i64 ((rNum m (xs, sh)).1 : Int)) ∧ Rdd b A c xs w (rNum m (xs, sh)).2 w' := by
  have hxc := hx.2.1
  have hmx := hx.2.2.2
  unfold maxLen at hmx
  have hget := LeG.Get_any A xs c w (by omega) hx.1
  have HX := Lib.hid hB
  cases hg : getS xs with
  | none =>
    have hr : rNum m (xs, sh) = (0, (xs, true)) := by unfold rNum; simp only [hg]
    rw [hr]
    rw [hg] at hget
    obtain ⟨n, hn⟩ : ∃ n, n = xs.length := ⟨_, rfl⟩
    have HP := Lib.hid (bx2_set1 hB (.bool true))
    rw [← hn] at hB hget
    have HG := Lib.hid hget
    obtain ⟨⟨p0, p1⟩, p2, p3⟩ := hB
    clear hr hx hn hg hget
    go_enter Try.func30, Try.ntmps30
    go_wp2_with fail
    refine HG.out.mono ?_
    rintro e w1 ⟨rfl, rfl⟩
    simp only [LeG.gotV]
    go_wp2_with fail
    go_ret
    exact ⟨rfl, grown_set _ _ _ _, A, c, HP.out, fun W h => h⟩
  | some p =>
    obtain ⟨v, u⟩ := p
    obtain ⟨h1, h2, h3⟩ := (getS_iff xs hx.1.1 v u).1 hg
    rw [hg] at hget
    by_cases hv : v ≤ m
    · have hr : rNum m (xs, sh) = (v, (xs.drop u, sh)) := by unfold rNum; simp only [hg, if_pos hv]
      rw [hr]
      have hlt2 : (xs.drop u).length = xs.length - u := List.length_drop
      have HP := Lib.hid (bx2_set0 hB (.slice (dropA A u c) (xs.drop u).length (c - u)))
      have HE := Lib.hid hlt2
      have hD := fun W (h : SlB W A xs c) => Cut.slB_drop h u h2
      have hsl2 := fun W => slice_lo W A xs.length c u h2
      obtain ⟨D, hDe⟩ : ∃ D, D = dropA A u c := ⟨_, rfl⟩
      rw [← hDe] at HP hsl2
      simp only [← hDe] at hD
      obtain ⟨n, hn⟩ : ∃ n, n = xs.length := ⟨_, rfl⟩
      rw [← hn] at hB hget hsl2 HE h2
      have HG := Lib.hid hget
      have HD := Lib.hid hD
      obtain ⟨⟨p0, p1⟩, p2, p3⟩ := hB
      clear hr hx hn hg hget hD hDe hlt2 h3 h1
      go_enter Try.func30, Try.ntmps30
      go_wp2_with fail
      refine HG.out.mono ?_
      rintro e w1 ⟨rfl, rfl⟩
      simp only [LeG.gotV]
      go_wp2_with fail
      go_ret
      refine ⟨rfl, grown_set _ _ _ _, D, c - u, ?_, HD.out⟩
      have h := HP.out
      rw [HE.out] at h
      simp only [HE.out]
      exact h
    · have hr : rNum m (xs, sh) = (0, (xs, true)) := by unfold rNum; simp only [hg, if_neg hv]
      rw [hr]
      obtain ⟨n, hn⟩ : ∃ n, n = xs.length := ⟨_, rfl⟩
      have HP := Lib.hid (bx2_set1 hB (.bool true))
      rw [← hn] at hB hget
      have HG := Lib.hid hget
      obtain ⟨⟨p0, p1⟩, p2, p3⟩ := hB
      clear hr hx hn hg hget h3 h2
      go_enter Try.func30, Try.ntmps30
      go_wp2_with fail
      refine HG.out.mono ?_
      rintro e w1 ⟨rfl, rfl⟩
      simp only [LeG.gotV]
      go_wp2_with fail
      go_ret
      exact ⟨rfl, grown_set _ _ _ _, A, c, HP.out, fun W h => h⟩

theorem Rdd.trans {b : Nat} {A : Option Addr} {c : Nat} {xs : List Int} {w w1 w2 : World} {r1 r2 : Rs} {A' : Option Addr} {c' : Nat} (hg : w.grownBy w1 (some b)) (hW : ∀ W, SlB W A xs c → SlB W A' r1.1 c') (k : Rdd b A' c' r1.1 w1 r2 w2) : Rdd b A c xs w r2 w2 := by
  obtain ⟨h1, A2, c2, h2, h3⟩ := k
  exact ⟨grown_trans hg h1, A2, c2, h2, fun W h => h3 W (hW W h)⟩

/-- Bytes elsewhere stay. -/
theorem slB_grown {w w' : World} {A : Option Addr} {xs : List Int} {c b : Nat} (h : SlB w A xs c) (hg : w.grownBy w' (some b)) (hb : ∀ a, A = some a → a.block ≠ b) : SlB w' A xs c := by
  refine ⟨⟨h.1.1, fun hx => ?_⟩, h.2⟩
  obtain ⟨g, o, e, hc⟩ := h.1.2 hx
  exact ⟨g, o, e, fun j hj => hg.cell (hc j hj) (fun e' => hb _ e (by injection e'))⟩

set_option maxRecDepth 100000 in
theorem name_any (b : Nat) (A : Option Addr) (xs : List Int) (c : Nat) (sh : Bool) (w : World) (hB : Bx2 w b (.slice A xs.length c) (.bool sh)) (hx : ∀ W, w.grownBy W (some b) → SlB W A xs c) :
    Calls Try.prog 29 #[.pointer (some ⟨b, 0, none⟩)] w fun e w' => e = .returned (.string (rName (xs, sh)).1) ∧ Rdd b A c xs w (rName (xs, sh)).2 w' := by
  have hnum := number_any b A xs c sh 12 w hB (hx w (World.grownBy.refl _ _)) (by omega)
  have hle := rNum_le 12 (xs, sh)
  have hrn : rName (xs, sh) = (strOfNums (rTake (rNum 12 (xs, sh)).1 (rNum 12 (xs, sh)).2).1, (rTake (rNum 12 (xs, sh)).1 (rNum 12 (xs, sh)).2).2) := rfl
  obtain ⟨⟨n, ys, s1⟩, hr⟩ : ∃ r, r = rNum 12 (xs, sh) := ⟨_, rfl⟩
  rw [← hr] at hnum hle hrn
  simp only at hnum hle hrn
  have HNum := Lib.hid hnum
  have HX := Lib.hid hx
  rw [hrn]
  clear hB hx hnum hr hrn
  go_enter Try.func29, Try.ntmps29
  go_wp2_with fail
  refine HNum.out.mono ?_
  rintro e w1 ⟨rfl, hg1, A1, c1, hb1, hs1⟩
  have htk := take_any b A1 ys c1 s1 n w1 hb1 (hs1 w1 (HX.out w1 hg1))
  have HTk := Lib.hid htk
  have HG1 := Lib.hid hg1
  have HS1 := Lib.hid hs1
  clear htk hg1 hb1 hs1 HNum
  go_wp2_with fail
  refine HTk.out.mono ?_
  rintro e w2 ⟨A2, c2, rfl, hs2, hg2, A3, c3, hb3, hs3⟩
  have hcv := conv_any (hs2 w2 (HS1.out w2 (HX.out w2 (grown_trans HG1.out hg2)))).1 c2 9 Try.underlying9
  have HP := Lib.hid (show Rdd b A c xs w (rTake n (ys, s1)).2 w2 from ⟨grown_trans HG1.out hg2, A3, c3, hb3, fun W h => hs3 W (HS1.out W h)⟩)
  obtain ⟨t, ht⟩ : ∃ t, t = (rTake n (ys, s1)).1 := ⟨_, rfl⟩
  rw [← ht] at hcv ⊢
  obtain ⟨S, hS⟩ : ∃ S, S = strOfNums t := ⟨_, rfl⟩
  rw [← hS] at hcv
  have HT := Lib.hid ht
  have HS := Lib.hid hS
  clear hs2 hg2 hb3 hs3 HTk ht hS
  go_wp2_with fail
  go_ret
  exact ⟨ret_v (x := .string S) (by rw [HS.out, HT.out]), HP.out⟩

theorem take1 {xs : List Int} {sh : Bool} (h : (rTake 1 (xs, sh)).2.2 = false) : ∃ y, (rTake 1 (xs, sh)).1 = [y] := by
  unfold rTake at h ⊢
  split at h
  · cases h
  · rename_i hl
    rw [if_neg hl]
    simp only at hl ⊢
    match xs, hl with
    | [], hl => simp at hl
    | x :: r, _ => exact ⟨x, by simp⟩

set_option maxRecDepth 100000 in
theorem kind_any (b : Nat) (A : Option Addr) (xs : List Int) (c : Nat) (sh : Bool) (w : World) (hB : Bx2 w b (.slice A xs.length c) (.bool sh)) (hx : ∀ W, w.grownBy W (some b) → SlB W A xs c) :
    Calls Try.prog 31 #[.pointer (some ⟨b, 0, none⟩)] w fun e w' => e = .returned (.int .i64 (rKind (xs, sh)).1) ∧ Rdd b A c xs w (rKind (xs, sh)).2 w' := by
  have htk := take_any b A xs c sh 1 w hB (hx w (World.grownBy.refl _ _))
  have hrn : rKind (xs, sh) = (if (rTake 1 (xs, sh)).2.2 = true then 0 else (rTake 1 (xs, sh)).1.getD 0 0, (rTake 1 (xs, sh)).2) := rfl
  have ht1 := take1 (xs := xs) (sh := sh)
  obtain ⟨⟨t, ys, s1⟩, hr⟩ : ∃ r, r = rTake 1 (xs, sh) := ⟨_, rfl⟩
  rw [← hr] at htk hrn ht1
  simp only at htk hrn ht1
  have HTk := Lib.hid htk
  have HX := Lib.hid hx
  have HT1 := Lib.hid ht1
  rw [hrn]
  clear hB hx htk hr hrn ht1
  go_enter Try.func31, Try.ntmps31
  go_wp2_with fail
  refine HTk.out.mono ?_
  rintro e w2 ⟨A2, c2, rfl, hs2, hg2, A3, c3, hb3, hs3⟩
  have HP := Lib.hid (show Rdd b A c xs w (ys, s1) w2 from ⟨hg2, A3, c3, hb3, hs3⟩)
  have hsl := hs2 w2 (HX.out w2 hg2)
  have hb3' := hb3
  obtain ⟨⟨q0, q1⟩, _⟩ := hb3'
  clear hs2 hg2 hb3 hs3 HTk
  cases s1
  · obtain ⟨y, rfl⟩ := HT1.out rfl
    have hlen : ([y] : List Int).length = 1 := rfl
    obtain ⟨b2, o2, rfl, hc⟩ := hsl.1.2 (by simp)
    have c0 := hc 0 (by simp)
    rw [Nat.add_zero, List.getD_cons_zero] at c0
    have hy := hsl.1.1 y (by simp)
    rw [hlen]
    have hix := fun W => LM.index_00 W b2 o2 1 c2 (by omega)
    clear hsl hc hlen
    go_wp2_with fail
    go_ret
    exact ⟨rfl, HP.out⟩
  · clear hsl
    go_wp2_with fail
    go_ret
    exact ⟨rfl, HP.out⟩
end Go.Proofs.Ytjbpacciaeifaaa.Sc
