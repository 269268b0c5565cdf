/- Feed of the program: what it answers of any framer and any bytes; asked: the slices read as bytes, and are not too long. -/
import Derived.Test.YtofmgbncaokmdaaFramePack
import Derived.Scope
import Derived.WalkMore
import Derived.ScopeJumps
namespace Go.Proofs.Ytofmgbncaokmdaa.Fr
open Go.RowKit Go.Proofs.Ytofmgbncaokmdaa.BM Go.Proofs.Ytofmgbncaokmdaa.LM Go.Proofs.Ytofmgbncaokmdaa.Std Go.Proofs.Ytofmgbncaokmdaa.FrM

/-- What Feed answers. -/
def FeedRes (w : World) (r : R) (e : Ending) (w' : World) : Prop :=
  ∃ A c V k, e = .returned (.tuple #[frm A r.left.length c r.dead, .slice V r.fs.length k]) ∧ SlB w' A r.left c ∧ IsL (fun b => w.heap.size ≤ b) w' V k r.fs ∧ Below w.heap.size w w'

/-- .. and where it lies: in memory of the call's own. -/
def FeedLoc (w : World) (r : R) (e : Ending) (w' : World) : Prop :=
  ∃ A c V k, e = .returned (.tuple #[frm A r.left.length c r.dead, .slice V r.fs.length k]) ∧ SlB w' A r.left c ∧ IsL (fun b => w.heap.size ≤ b) w' V k r.fs ∧ Below w.heap.size w w' ∧
    (∀ a, A = some a → w.heap.size ≤ a.block) ∧ (∀ a, V = some a → w.heap.size ≤ a.block)

theorem FeedLoc.res {w : World} {r : R} {e : Ending} {w' : World} (h : FeedLoc w r e w') : FeedRes w r e w' := by
  obtain ⟨A, c, V, k, h1, h2, h3, h4, _⟩ := h
  exact ⟨A, c, V, k, h1, h2, h3, h4⟩

/-- Two slices in a row. -/
theorem isL_two {w : World} {A B : Option Addr} {xs ys : List Int} {c d : Nat} (h : SlB w A xs c) (k : SlB w B ys d) :
    IsL (fun _ => True) (w.alloc (.cells #[.slice A xs.length c, .slice B ys.length d] 22)) (some ⟨w.heap.size, 0, none⟩) 2 [xs, ys] := by
  have ha := (Below.refl w.heap.size w).alloc (Nat.le_refl _) (.cells #[.slice A xs.length c, .slice B ys.length d] 22)
  exact ⟨⟨_, isRow_new w [.slice A xs.length c, .slice B ys.length d], (el_any h).kept ha, (el_any k).kept ha, trivial⟩, Nat.le_refl _, (fun h => by cases h), by decide⟩

theorem wp_weaken {P : Program} {c : Code} {Q Q' : Exit → Act → World → Prop} {a : Act} {w : World} (h : c.wp P Q a w) (k : ∀ e a w, Q e a w → Q' e a w) : c.wp P Q' a w := by
  intro b ks cs
  obtain ⟨e, a1, w1, hq, harr⟩ := h b ks cs
  exact ⟨e, a1, w1, k _ _ _ hq, harr⟩

/-- A scope in which the run jumps back to one label; what stands behind the label is walked once. -/
theorem wp_scope_back {P : Program} {c rest : Code} {Q : Exit → Act → World → Prop} {a : Act} {w : World} (l : Nat) (J : Act → World → Prop) (μ : Act → World → Nat) (hf : findLabel c l = some (Code.skip.seq rest))
    (pass : ∀ a w, J a w → rest.wp P (Exit.jump l (fun a' w' => J a' w' ∧ μ a' w' < μ a w) Q) a w)
    (first : (∀ a w, J a w → rest.wp P (Exit.jump l J Q) a w) → c.wp P (Exit.jump l J Q) a w) : (Code.scope c).wp P Q a w := by
  refine wp_scope_jumps l J μ hf (first fun a w hJ => wp_weaken (pass a w hJ) fun e a w h => ?_) fun a w hJ => wp_seq (wp_skip (pass a w hJ))
  cases e with
  | goto l' => exact ⟨h.1, h.2.1⟩
  | normal => exact h
  | exit id => exact h
  | ret => exact h
  | panic ch => exact h
  | outgrown => exact h

def lenOf : Value → Nat
  | .slice _ n _ => n
  | _ => 0

/-- What an owned row of slices gives. -/
theorem own_row {w : World} {base n k : Nat} {V : Option Addr} {vs : List Value} (h : w.ownsRow base 22 1 (.slice V n k) n vs) :
    IsRow w V vs ∧ n ≤ k ∧ (V = none → k = 0) ∧ k ≤ maxLen ∧ (∀ a, V = some a → base ≤ a.block) := by
  refine ⟨own_isRow h, ?_⟩
  rcases h.2 with ⟨hv, h0⟩ | ⟨g, cap, cur, hv, hg, hh, hcap, hmx, hrest⟩
  · injection hv with e1 e2 e3
    subst e1
    subst e3
    exact ⟨by omega, (fun _ => rfl), Nat.zero_le _, fun a ha => by cases ha⟩
  · injection hv with e1 e2 e3
    subst e1
    subst e3
    exact ⟨hcap, (fun h => by cases h), hmx, fun a ha => by injection ha with ha; subst ha; exact hg⟩

theorem grownBy_set2 (w : World) (b : Nat) (u0 u1 : Value) : w.grownBy ((w.setCell ⟨b, 0, none⟩ u0).setCell ⟨b, 1, none⟩ u1) (some b) := by
  refine ⟨rfl, rfl, rfl, by simp, fun k hk hne => ?_⟩
  have hkb : k ≠ b := fun e => hne (by rw [e])
  rw [Below.heap_setCell _ _ _ _ hkb, Below.heap_setCell _ _ _ _ hkb]

theorem isRow_grown {w w' : World} {r : Option Nat} {A : Option Addr} {vs : List Value} (h : IsRow w A vs) (hg : w.grownBy w' r) (hne : ∀ a, A = some a → some a.block ≠ r) : IsRow w' A vs := by
  intro hx
  obtain ⟨b, o, e, hc⟩ := h hx
  exact ⟨b, o, e, fun j u hj => hg.cell (hc j u hj) (show some b ≠ r from hne _ e)⟩

/-- The answer, behind the store of the framer. -/
theorem feed_out {w w2 : World} {v0 v1 : Value} {V A : Option Addr} {k c : Nat} {vs : List Value} {fs : List (List Int)} {left : List Int} (d : Bool) (hb : Below w.heap.size w w2) (hbx : Box w2 (w.heap.size + 1) v0 v1)
    (hr : IsRow w2 V vs) (hk : fs.length ≤ k) (hn : V = none → k = 0) (hm : k ≤ maxLen) (hV : ∀ a, V = some a → w.heap.size + 2 ≤ a.block) (hE : Els (fun b => w.heap.size + 2 ≤ b) w2 vs fs)
    (hS : SlB w2 A left c) (hA : ∀ a, A = some a → w.heap.size + 2 ≤ a.block) :
    FeedLoc w ⟨d, left, fs⟩ (.returned (.tuple #[.agg #[.slice A left.length c, .bool d], .slice V fs.length k])) ((w2.setCell ⟨w.heap.size + 1, 0, none⟩ (.slice A left.length c)).setCell ⟨w.heap.size + 1, 1, none⟩ (.bool d)) ∧
    Box ((w2.setCell ⟨w.heap.size + 1, 0, none⟩ (.slice A left.length c)).setCell ⟨w.heap.size + 1, 1, none⟩ (.bool d)) (w.heap.size + 1) (.slice A left.length c) (.bool d) := by
  have hg := grownBy_set2 w2 (w.heap.size + 1) (.slice A left.length c) (.bool d)
  refine ⟨⟨A, c, V, k, rfl, ?_, ⟨⟨vs, isRow_grown hr hg fun a ha e => ?_, ?_⟩, hk, hn, hm⟩, Below.stored hb (by omega) _ _, (fun a ha => by have := hA a ha; omega), (fun a ha => by have := hV a ha; omega)⟩, box_store hbx _ _⟩
  · exact SlB.off (SlB.off hS fun a ha => by have := hA a ha; omega) fun a ha => by have := hA a ha; omega
  · have := hV a ha
    injection e with e
    omega
  · exact hE.map fun _ _ h => (h.grown hg fun b hb e => by injection e with e; omega).mono fun b _ hb => by omega

theorem own_below {w w' : World} {base e size n : Nat} {v : Value} {xs : List Value} (h : w.ownsRow base e size v n xs) (hb : Below w.heap.size w w') : w'.ownsRow base e size v n xs := by
  refine ⟨h.1, ?_⟩
  rcases h.2 with h2 | ⟨g, cap, cur, hv, hg, hh, r⟩
  · exact Or.inl h2
  · exact Or.inr ⟨g, cap, cur, hv, hg, by rw [hb.block g (lt_of_block hh)]; exact hh, r⟩

theorem own_slice {w : World} {base e n : Nat} {v : Value} {xs : List Value} (h : w.ownsRow base e 1 v n xs) : ∃ V k, v = .slice V n k := by
  rcases h.2 with ⟨hv, h0⟩ | ⟨g, cap, cur, hv, _⟩
  · exact ⟨none, 0, by rw [hv, h0]⟩
  · exact ⟨_, _, hv⟩

theorem dropA_block {A : Option Addr} {l m : Nat} {a : Addr} (h : dropA A l m = some a) : ∃ a0, A = some a0 ∧ a0.block = a.block ∧ (a0.spot = none → a.spot = none) := by
  unfold dropA at h
  split at h
  · exact ⟨a, h, rfl, fun h => h⟩
  · cases A with
    | none => cases h
    | some a0 =>
      injection h with h
      subst h
      exact ⟨a0, rfl, by unfold Addr.add; split <;> rfl, fun h0 => by unfold Addr.add; split <;> first | exact h0 | rfl⟩

/-- What holds at the label: w is the world at the call, w1 the one in which all bytes lie. -/
def JF (s0 s1 : Value) (w : World) (all : List Int) (a : Act) (wr : World) : Prop :=
  ∃ (w1 : World) (A : Option Addr) (xs : List Int) (c : Nat) (V : Option Addr) (fs : List (List Int)) (k : Nat) (vs : List Value) (u8 u9 u10 u11 u12 u13 u14 u15 u16 u17 u18 u19 u20 u21 u22 u23 u24 u25 u26 u27 u28 u29 u30 u31 u32 u33 u34 u35 u36 u37 u38 u39 u40 u41 u42 u43 u44 u45 u46 u47 u48 u49 u50 u51 u52 u53 u54 u55 u56 u57 u58 u59 u60 u61 u62 u63 u64 : Value),
    a = { tmps := #[s0, s1, .pointer (some ⟨w.heap.size, 0, none⟩), undef, .pointer (some ⟨w.heap.size + 1, 0, none⟩), .slice none 0 0, .slice A xs.length c, .slice V fs.length k, u8, u9, u10, u11, u12, u13, u14, u15, u16, u17, u18, u19, u20, u21, u22, u23, u24, u25, u26, u27, u28, u29, u30, u31, u32, u33, u34, u35, u36, u37, u38, u39, u40, u41, u42, u43, u44, u45, u46, u47, u48, u49, u50, u51, u52, u53, u54, u55, u56, u57, u58, u59, u60, u61, u62, u63, u64], defers := [] } ∧
    (Below w.heap.size w w1 ∧ w.heap.size + 2 ≤ w1.heap.size ∧ Box w1 (w.heap.size + 1) (.slice none 0 0) (.bool false)) ∧
    R.addAll fs (feed xs) = feed all ∧ SlB w1 A xs c ∧ (∀ a, A = some a → a.spot = none ∧ w.heap.size + 2 ≤ a.block ∧ a.block < w1.heap.size) ∧ 8 * fs.length + xs.length ≤ all.length ∧
    wr.ownsRow w1.heap.size 22 1 (.slice V fs.length k) fs.length vs ∧ Els (fun b => w.heap.size + 2 ≤ b ∧ b < w1.heap.size) w1 vs fs ∧ Below w1.heap.size w1 wr

/-- The answer, from what holds at the label. -/
theorem feed_fin {w w1 wr w2 : World} {all left : List Int} {V A2 : Option Addr} {k c2 : Nat} {vs : List Value} {fs : List (List Int)} (d : Bool) (hb1 : Below w.heap.size w w1) (hsz : w.heap.size + 2 ≤ w1.heap.size) (hbx : Box w1 (w.heap.size + 1) (.slice none 0 0) (.bool false))
    (hown : wr.ownsRow w1.heap.size 22 1 (.slice V fs.length k) fs.length vs) (hE : Els (fun b => w.heap.size + 2 ≤ b ∧ b < w1.heap.size) w1 vs fs) (hB : Below w1.heap.size w1 wr) (hw2 : Below wr.heap.size wr w2)
    (hS : SlB w2 A2 left c2) (hA : ∀ a, A2 = some a → wr.heap.size ≤ a.block) (hres : feed all = ⟨d, left, fs⟩) :
    FeedLoc w (feed all) (.returned (.tuple #[.agg #[.slice A2 left.length c2, .bool d], .slice V fs.length k])) ((w2.setCell ⟨w.heap.size + 1, 0, none⟩ (.slice A2 left.length c2)).setCell ⟨w.heap.size + 1, 1, none⟩ (.bool d)) ∧
    Box ((w2.setCell ⟨w.heap.size + 1, 0, none⟩ (.slice A2 left.length c2)).setCell ⟨w.heap.size + 1, 1, none⟩ (.bool d)) (w.heap.size + 1) (.slice A2 left.length c2) (.bool d) ∧
    Box w2 (w.heap.size + 1) (.slice none 0 0) (.bool false) := by
  have h12 := bt hB hw2
  have hbx2 := hbx.kept h12
  obtain ⟨r1, r2, r3, r4, r5⟩ := own_row hown
  have hz := hB.size
  rw [hres]
  obtain ⟨q1, q2⟩ := feed_out d (bt hb1 h12) hbx2 (r1.kept hw2) r2 r3 r4 (fun a ha => by have := r5 a ha; omega) (hE.map fun _ _ h => (h.kept h12).mono fun b _ hb => hb.1) hS (fun a ha => by have := hA a ha; omega)
  exact ⟨q1, q2, hbx2⟩

set_option maxRecDepth 100000 in
set_option maxHeartbeats 1000000 in
theorem Feed_all (A B : Option Addr) (xs ys all : List Int) (c k : Nat) (w : World) (h : SlB w A xs c) (g : SlB w B ys k) (hm : xs.length + ys.length ≤ 100000000) (hall : xs ++ ys = all) :
    Calls Try.prog 13 #[frm A xs.length c false, .slice B ys.length k] w (FeedLoc w (feed all)) := by
  unfold frm
  have hal : all.length ≤ 100000000 := by rw [← hall, List.length_append]; exact hm
  have hw2 : Below w.heap.size w (((w.alloc (.cells #[.slice A xs.length c, .bool false] 24))).alloc (.cells #[.slice none 0 0, .bool false] 24)) := ((Below.refl _ w).alloc (Nat.le_refl _) _).alloc (by simp) _
  have hbx := box_new (w.alloc (.cells #[.slice A xs.length c, .bool false] 24)) (.slice none 0 0) (.bool false)
  rw [show (w.alloc (.cells #[.slice A xs.length c, .bool false] 24)).heap.size = w.heap.size + 1 from by simp] at hbx
  have hcat := Concat_any _ _ _ _ (isL_two (h.kept hw2) (g.kept hw2)) (by simpa using hm)
  have hb3 := ((Below.refl _ ((w.alloc (.cells #[.slice A xs.length c, .bool false] 24)).alloc (.cells #[.slice none 0 0, .bool false] 24))).alloc (Nat.le_refl _) (.cells #[.slice A xs.length c, .slice B ys.length k] 22))
  have HBX := Lib.hid (hbx.kept hb3)
  have HB3 := Lib.hid (bt hw2 hb3)
  rw [show ((w.alloc (.cells #[.slice A xs.length c, .bool false] 24)).alloc (.cells #[.slice none 0 0, .bool false] 24)).heap.size = w.heap.size + 1 + 1 from by simp] at hcat
  have HC := Lib.hid hcat
  have HA := Lib.hid hall
  have HY := Lib.hid (show CrcM.Bytes all from by rw [← hall]; exact bytes_app h.1.1 g.1.1)
  clear hall hm hcat hb3 hw2 hbx h g
  go_enter Try.func13, Try.ntmps13
  go_wp2_with fail
  refine wp_scope_back 0 (JF (.agg #[.slice A xs.length c, .bool false]) (.slice B ys.length k) w all) (fun a _ => lenOf (a.tmps.getD 6 undef)) rfl ?_ ?_
  · intro a wr hJ
    obtain ⟨w1, A1, zs, c1, V, fs, k1, vs, u8, u9, u10, u11, u12, u13, u14, u15, u16, u17, u18, u19, u20, u21, u22, u23, u24, u25, u26, u27, u28, u29, u30, u31, u32, u33, u34, u35, u36, u37, u38, u39, u40, u41, u42, u43, u44, u45, u46, u47, u48, u49, u50, u51, u52, u53, u54, u55, u56, u57, u58, u59, u60, u61, u62, u63, u64, rfl, ⟨hb1, hsz1, hbx1⟩, hR, hS, hA, hlen, hown, hE, hB⟩ := hJ
    have HB1 := Lib.hid hb1
    have HBx := Lib.hid hbx1
    have HR := Lib.hid hR
    have HSr := Lib.hid (hS.kept hB)
    have HS := Lib.hid hS
    have HA1 := Lib.hid hA
    have HOwn := Lib.hid hown
    have HE := Lib.hid hE
    have HB := Lib.hid hB
    have hcc := hS.2.1
    have hcm : c1 ≤ 9223372036854775807 := by have := hS.2.2.2; unfold maxLen at this; omega
    clear hb1 hbx1 hR hS hA hown hE hB HC HB3 HBX
    by_cases h8 : zs.length < 8
    · have HRes := Lib.hid (show feed all = ⟨false, zs, fs⟩ from by rw [← HR.out, feed_short h8]; simp [R.addAll])
      have HW := Lib.hid (waiting_any A1 zs c1 wr HSr.out (by omega))
      go_wp2_with fail
      refine HW.out.mono ?_
      rintro e w2 ⟨A2, c2, rfl, h1, h2, h3⟩
      obtain ⟨f1, f2, f3⟩ := feed_fin false HB1.out hsz1 HBx.out HOwn.out HE.out HB.out h3 h1 h2 HRes.out
      obtain ⟨b0, b1, b2, b3⟩ := f3
      obtain ⟨r0, r1, _, _⟩ := f2
      have F1 := Lib.hid f1
      have R0 := Lib.hid r0
      have R1 := Lib.hid r1
      clear f1 r0 r1 h1 h2 h3
      go_wp2_with fail
      simp only [Exit.jump]
      obtain ⟨W3, hW3⟩ : ∃ W3, W3 = (w2.setCell ⟨w.heap.size + 1, 0, none⟩ (.slice A2 zs.length c2)).setCell ⟨w.heap.size + 1, 1, none⟩ (.bool false) := ⟨_, rfl⟩
      rw [← hW3] at F1 R0 R1 ⊢
      have r0 := R0.out
      have r1 := R1.out
      clear hW3 b0 b1 b2 b3
      exact bodyPost_ret (v := .tuple #[.agg #[(.slice A2 zs.length c2), .bool false], .slice V fs.length k1]) (by simp [results, Try.results13, go_sem, r0, r1]) rfl F1.out
    · have h8' : 8 ≤ zs.length := by omega
      have hhd := head_any A1 zs c1 wr HSr.out h8'
      have hrb := rd_bd (bytes_take HS.out.1.1 4)
      obtain ⟨z, hz⟩ : ∃ z, z = sz zs := ⟨_, rfl⟩
      have hzr : rd (zs.take 4) = (z : Int) := by rw [hz, sz]; omega
      rw [hzr] at hhd hrb
      have hsb := rd_bd (bytes_take (bytes_drop HS.out.1.1 4) 4)
      obtain ⟨q, hq⟩ : ∃ q : Int, q = sm zs := ⟨_, rfl⟩
      rw [← hq] at hhd
      have hq1 : 0 ≤ q ∧ q ≤ 4294967295 := by rw [hq]; exact hsb
      obtain ⟨hq0, hq1⟩ := hq1
      obtain ⟨hz0, hz1⟩ := hrb
      have HH := Lib.hid hhd
      have HZ := Lib.hid hz
      have HQ := Lib.hid hq
      clear hhd hz hzr hsb hq
      by_cases hgt : 512 < z
      · have HRes := Lib.hid (show feed all = ⟨true, [], fs⟩ from by rw [← HR.out, feed_great h8' (by rw [← HZ.out]; exact hgt)]; simp [R.addAll])
        have HD := Lib.hid (dead_any wr)
        go_wp2_with fail
        refine HH.out.mono ?_
        rintro e w2 ⟨rfl, rfl⟩
        go_wp2_with fail
        refine HD.out.mono ?_
        rintro e w2 ⟨rfl, h3⟩
        obtain ⟨f1, f2, f3⟩ := feed_fin true HB1.out hsz1 HBx.out HOwn.out HE.out HB.out h3 (slB_none w2) (fun a ha => by cases ha) HRes.out
        rw [List.length_nil] at f1 f2
        obtain ⟨b0, b1, b2, b3⟩ := f3
        obtain ⟨r0, r1, _, _⟩ := f2
        have F1 := Lib.hid f1
        have R0 := Lib.hid r0
        have R1 := Lib.hid r1
        clear f1 r0 r1 h3
        go_wp2_with fail
        simp only [Exit.jump]
        obtain ⟨W3, hW3⟩ : ∃ W3, W3 = (w2.setCell ⟨w.heap.size + 1, 0, none⟩ (.slice none 0 0)).setCell ⟨w.heap.size + 1, 1, none⟩ (.bool true) := ⟨_, rfl⟩
        rw [← hW3] at F1 R0 R1 ⊢
        have r0 := R0.out
        have r1 := R1.out
        clear hW3 b0 b1 b2 b3
        exact bodyPost_ret (v := .tuple #[.agg #[(.slice none 0 0), .bool true], .slice V fs.length k1]) (by simp [results, Try.results13, go_sem, r0, r1]) rfl F1.out
      · by_cases hsh : zs.length < 8 + z
        · have HRes := Lib.hid (show feed all = ⟨false, zs, fs⟩ from by rw [← HR.out, feed_wait h8' (by rw [← HZ.out]; omega) (by rw [← HZ.out]; exact hsh)]; simp [R.addAll])
          have HW := Lib.hid (waiting_any A1 zs c1 wr HSr.out (by omega))
          go_wp2_with fail
          refine HH.out.mono ?_
          rintro e w2 ⟨rfl, rfl⟩
          go_wp2_with fail
          refine HW.out.mono ?_
          rintro e w2 ⟨A2, c2, rfl, h1, h2, h3⟩
          obtain ⟨f1, f2, f3⟩ := feed_fin false HB1.out hsz1 HBx.out HOwn.out HE.out HB.out h3 h1 h2 HRes.out
          obtain ⟨b0, b1, b2, b3⟩ := f3
          obtain ⟨r0, r1, _, _⟩ := f2
          have F1 := Lib.hid f1
          have R0 := Lib.hid r0
          have R1 := Lib.hid r1
          clear f1 r0 r1 h1 h2 h3
          go_wp2_with fail
          simp only [Exit.jump]
          obtain ⟨W3, hW3⟩ : ∃ W3, W3 = (w2.setCell ⟨w.heap.size + 1, 0, none⟩ (.slice A2 zs.length c2)).setCell ⟨w.heap.size + 1, 1, none⟩ (.bool false) := ⟨_, rfl⟩
          rw [← hW3] at F1 R0 R1 ⊢
          have r0 := R0.out
          have r1 := R1.out
          clear hW3 b0 b1 b2 b3
          exact bodyPost_ret (v := .tuple #[.agg #[(.slice A2 zs.length c2), .bool false], .slice V fs.length k1]) (by simp [results, Try.results13, go_sem, r0, r1]) rfl F1.out
        · have hlo : 8 + z ≤ zs.length := by omega
          obtain ⟨F, hF⟩ : ∃ F, F = fr zs := ⟨_, rfl⟩
          have hFe : F = (zs.drop 8).take (8 + z - 8) := by rw [hF, fr, ← HZ.out, show 8 + z - 8 = z from by omega]
          have hFl : F.length = z := by rw [hFe, List.length_take, List.length_drop]; omega
          obtain ⟨D, hD⟩ : ∃ D, D = dropA A1 8 (8 + z) := ⟨_, rfl⟩
          have hcut := slB_cut HSr.out 8 (8 + z) (8 + z) (by omega) (by omega) (by omega) (by omega)
          have hcut1 := slB_cut HS.out 8 (8 + z) (8 + z) (by omega) (by omega) (by omega) (by omega)
          rw [← hFe, ← hD, show 8 + z - 8 = z from by omega] at hcut hcut1
          have s1 : ∀ w, (Instr.sliceAt 22 (.slice A1 zs.length c1) (some (.int .i64 8)) (some (.int .i64 (8 + (z : Int)))) (some (.int .i64 (8 + (z : Int))))).run Try.prog w = .ok (.slice D z z) w := fun w => by
            have h := slice_3 w A1 zs.length c1 8 (8 + z) (8 + z) (by omega) (by omega) (by omega)
            rw [← hD, show 8 + z - 8 = z from by omega] at h
            rw [show (8 : Int) + (z : Int) = ((8 + z : Nat) : Int) from by omega]
            exact h
          have hof := Crc.Of_any D F z wr (by omega) hcut.1
          have hnl := CrcM.next_lt 0 F
          obtain ⟨n, hn⟩ : ∃ n, n = CrcM.next 0 F := ⟨_, rfl⟩
          rw [hFl, ← hn] at hof
          rw [← hn] at hnl
          have HOf := Lib.hid hof
          have HN := Lib.hid hn
          have HF := Lib.hid hF
          have HFl := Lib.hid hFl
          have HC1 := Lib.hid hcut1
          have HDd := Lib.hid hD
          clear hof hn hF hFe hFl hD hcut hcut1
          by_cases hck : (n : Int) = q
          · have hd : ((n : Int) != q) = false := by simpa using hck
            have HCK := Lib.hid hck
            clear hck
            obtain ⟨E, hE'⟩ : ∃ E, E = dropA A1 (8 + z) c1 := ⟨_, rfl⟩
            obtain ⟨ys', hys⟩ : ∃ ys', ys' = zs.drop (8 + z) := ⟨_, rfl⟩
            have hyl : ys'.length = zs.length - (8 + z) := by rw [hys, List.length_drop]
            have s2 : ∀ w, (Instr.sliceAt 22 (.slice A1 zs.length c1) (some (.int .i64 (8 + (z : Int)))) none none).run Try.prog w = .ok (.slice E ys'.length (c1 - (8 + z))) w := fun w => by
              have h := slice_lo w A1 zs.length c1 (8 + z) (by omega)
              rw [← hE', ← hyl] at h
              rw [show (8 : Int) + (z : Int) = ((8 + z : Nat) : Int) from by omega]
              exact h
            have HY' := Lib.hid hys
            have HYL := Lib.hid hyl
            have HE' := Lib.hid hE'
            clear hys hyl hE'
            go_wp2_with fail
            refine HH.out.mono ?_
            rintro e w2 ⟨rfl, rfl⟩
            go_wp2_with fail
            refine HOf.out.mono ?_
            rintro e w2 ⟨rfl, h3⟩
            have hz2 := h3.size
            have hzB := HB.out.size
            have ha := (Below.refl w2.heap.size w2).alloc (Nat.le_refl _) (.cells #[.slice D z z] 22)
            have hown2 := own_below HOwn.out (bt h3 ha)
            have hvb := own_row HOwn.out
            have hEs := HE.out.map fun _ _ h => (h.kept (bt HB.out (bt h3 ha))).mono (q := ne (.slice V fs.length k1)) fun b _ hb e => by
              cases V with
              | none => cases e
              | some a =>
                have := hvb.2.2.2.2 a rfl
                injection e with e
                omega
            have hnew : Els (ne (.slice V fs.length k1)) (w2.alloc (.cells #[.slice D z z] 22)) [.slice D z z] [F] := by
              refine ⟨⟨D, z, by rw [HFl.out], HC1.out.kept (bt HB.out (bt h3 ha)), fun hx => ?_⟩, trivial⟩
              obtain ⟨b, o, e, hc⟩ := HC1.out.1.2 hx
              have hlt : b < w1.heap.size := World.block_lt_of_cell? w1 _ (hc 0 hx)
              refine ⟨b, o, e, fun e' => ?_, by have := ha.size; omega⟩
              cases V with
              | none => cases e'
              | some a =>
                have := hvb.2.2.2.2 a rfl
                injection e' with e'
                omega
            have HOwn2 := Lib.hid hown2
            have HEs := Lib.hid hEs
            have HNew := Lib.hid hnew
            have H3 := Lib.hid h3
            clear h3 ha hown2 hvb hEs hnew
            go_wp2_with (at_builtin; refine wp_append_l rfl (.tmp 58) (.tmp 60) rfl w1.heap.size _ _ vs fs rfl HOwn2.out HEs.out (some ⟨w2.heap.size, 0, none⟩) 1 1 [.slice D z z] [F] rfl rfl (isRow_new w2 _) HNew.out (fun h => by cases h) (by omega) (by simp; omega) ?_; intro v' w3 hown3 _ hgrow3 _; refine pause ?_)
            obtain ⟨fs', hfs⟩ : ∃ fs', fs' = fs ++ [F] := ⟨_, rfl⟩
            have hfl : fs.length + 1 = fs'.length := by rw [hfs]; simp
            rw [hfl] at hown3
            obtain ⟨V', k', rfl⟩ := own_slice hown3
            have ha := (Below.refl w2.heap.size w2).alloc (Nat.le_refl _) (.cells #[.slice D z z] 22)
            have hB3 : Below w1.heap.size w1 w3 := (bt HB.out (bt H3.out ha)).grown hgrow3 (by simp; omega) (fun q hq => (HOwn2.out.lt q hq).1)
            have hJ : ∀ (u8 u9 u10 u11 u12 u13 u14 u15 u16 u17 u18 u19 u20 u21 u22 u23 u24 u25 u26 u27 u28 u29 u30 u31 u32 u33 u34 u35 u36 u37 u38 u39 u40 u41 u42 u43 u44 u45 u46 u47 u48 u49 u50 u51 u52 u53 u54 u55 u56 u57 u58 u59 u60 u61 u62 u63 u64 : Value), JF (.agg #[.slice A xs.length c, .bool false]) (.slice B ys.length k) w all { tmps := #[.agg #[.slice A xs.length c, .bool false], .slice B ys.length k, .pointer (some ⟨w.heap.size, 0, none⟩), undef, .pointer (some ⟨w.heap.size + 1, 0, none⟩), .slice none 0 0, .slice E ys'.length (c1 - (8 + z)), .slice V' fs'.length k', u8, u9, u10, u11, u12, u13, u14, u15, u16, u17, u18, u19, u20, u21, u22, u23, u24, u25, u26, u27, u28, u29, u30, u31, u32, u33, u34, u35, u36, u37, u38, u39, u40, u41, u42, u43, u44, u45, u46, u47, u48, u49, u50, u51, u52, u53, u54, u55, u56, u57, u58, u59, u60, u61, u62, u63, u64], defers := [] } w3 := by
              intro u8 u9 u10 u11 u12 u13 u14 u15 u16 u17 u18 u19 u20 u21 u22 u23 u24 u25 u26 u27 u28 u29 u30 u31 u32 u33 u34 u35 u36 u37 u38 u39 u40 u41 u42 u43 u44 u45 u46 u47 u48 u49 u50 u51 u52 u53 u54 u55 u56 u57 u58 u59 u60 u61 u62 u63 u64
              refine ⟨w1, E, ys', c1 - (8 + z), V', fs', k', vs ++ [.slice D z z], _, _, _, _, _, _, _, _, _, _, _, _, _, _, _, _, _, _, _, _, _, _, _, _, _, _, _, _, _, _, _, _, _, _, _, _, _, _, _, _, _, _, _, _, _, _, _, _, _, _, _, _, _, _, _, _, _, rfl, ⟨HB1.out, hsz1, HBx.out⟩, ?_, ?_, ?_, ?_, hown3, ?_, hB3⟩
              · rw [hfs, addAll_snoc, HY'.out, HZ.out, HF.out, ← feed_good h8' (by rw [← HZ.out]; omega) (by rw [← HZ.out]; omega) (by rw [← HF.out, ← HN.out, ← HQ.out]; exact HCK.out)]
                exact HR.out
              · have h := slB_cut HS.out (8 + z) zs.length c1 (by omega) (by omega) (by omega) (by omega)
                rw [← HE'.out, ← HY'.out, List.take_of_length_le (by rw [HYL.out]; omega)] at h
                exact h
              · intro a ha
                rw [HE'.out] at ha
                obtain ⟨a0, e0, e1, e2⟩ := dropA_block ha
                have h := HA1.out a0 e0
                rw [← e1]
                exact ⟨e2 h.1, h.2⟩
              · have := HYL.out
                omega
              · rw [hfs]
                have hone : Els (fun b => w.heap.size + 2 ≤ b ∧ b < w1.heap.size) w1 [.slice D z z] [F] := by
                  refine ⟨⟨D, z, by rw [HFl.out], HC1.out, fun hx => ?_⟩, trivial⟩
                  obtain ⟨b, o, e, hc⟩ := HC1.out.1.2 hx
                  have hlt : b < w1.heap.size := World.block_lt_of_cell? w1 _ (hc 0 hx)
                  have e' := e
                  rw [HDd.out] at e'
                  obtain ⟨a0, e0, e1, _⟩ := dropA_block e'
                  have h := HA1.out a0 e0
                  rw [e1] at h
                  exact ⟨b, o, e, ⟨h.2.1, hlt⟩, hlt⟩
                exact Els.app hone HE.out
            have HJ := Lib.hid hJ
            have hmu : ys'.length < zs.length := by have := HYL.out; omega
            clear hJ hB3 ha hown3 hgrow3 hfs hfl
            unfold Pause
            go_wp2_with fail
            go_step3
            exact ⟨rfl, HJ.out _ _ _ _ _ _ _ _ _ _ _ _ _ _ _ _ _ _ _ _ _ _ _ _ _ _ _ _ _ _ _ _ _ _ _ _ _ _ _ _ _ _ _ _ _ _ _ _ _ _ _ _ _ _ _ _ _, hmu⟩
          · have hd : ((n : Int) != q) = true := by simpa using hck
            have HRes := Lib.hid (show feed all = ⟨true, [], fs⟩ from by rw [← HR.out, feed_bad h8' (by rw [← HZ.out]; omega) (by rw [← HZ.out]; omega) (by rw [← HF.out, ← HN.out, ← HQ.out]; exact hck)]; simp [R.addAll])
            have HD := Lib.hid (fun W => dead_any W)
            clear hck
            go_wp2_with fail
            refine HH.out.mono ?_
            rintro e w2 ⟨rfl, rfl⟩
            go_wp2_with fail
            refine HOf.out.mono ?_
            rintro e w3 ⟨rfl, h4⟩
            have H4 := Lib.hid h4
            clear h4
            go_wp2_with fail
            refine (HD.out _).mono ?_
            rintro e w2 ⟨rfl, h5⟩
            have h3 := bt H4.out h5
            obtain ⟨f1, f2, f3⟩ := feed_fin true HB1.out hsz1 HBx.out HOwn.out HE.out HB.out h3 (slB_none w2) (fun a ha => by cases ha) HRes.out
            rw [List.length_nil] at f1 f2
            obtain ⟨b0, b1, b2, b3⟩ := f3
            obtain ⟨r0, r1, _, _⟩ := f2
            have F1 := Lib.hid f1
            have R0 := Lib.hid r0
            have R1 := Lib.hid r1
            clear f1 r0 r1 h3 h5
            go_wp2_with fail
            simp only [Exit.jump]
            obtain ⟨W3, hW3⟩ : ∃ W3, W3 = (w2.setCell ⟨w.heap.size + 1, 0, none⟩ (.slice none 0 0)).setCell ⟨w.heap.size + 1, 1, none⟩ (.bool true) := ⟨_, rfl⟩
            rw [← hW3] at F1 R0 R1 ⊢
            have r0 := R0.out
            have r1 := R1.out
            clear hW3 b0 b1 b2 b3
            exact bodyPost_ret (v := .tuple #[.agg #[(.slice none 0 0), .bool true], .slice V fs.length k1]) (by simp [results, Try.results13, go_sem, r0, r1]) rfl F1.out
  · intro hp
    have Hp := Lib.hid hp
    clear hp
    go_wp2_with fail
    refine HC.out.mono ?_
    rintro e w1 ⟨v, rfl, hown, hB1⟩
    rw [show ([xs, ys] : List (List Int)).flatten = all from by rw [← HA.out]; simp] at hown
    obtain ⟨A', c', rfl, _, h2, h3⟩ := own_slB hown HY.out
    have HBx := Lib.hid (HBX.out.kept hB1)
    have HBw := Lib.hid (bt HB3.out hB1)
    have H2 := Lib.hid h2
    have H3 := Lib.hid h3
    have hz := hB1.size
    simp at hz
    clear hB1 h2 h3 hown
    go_wp2_with fail
    go_step3
    rename_i K hK
    refine hK _ _ (Hp.out _ _ ?_)
    refine ⟨w1, A', all, c', none, [], 0, [], _, _, _, _, _, _, _, _, _, _, _, _, _, _, _, _, _, _, _, _, _, _, _, _, _, _, _, _, _, _, _, _, _, _, _, _, _, _, _, _, _, _, _, _, _, _, _, _, _, _, _, _, _, _, _, _, _, rfl, ⟨HBw.out, by omega, HBx.out⟩, rfl, H2.out, fun a ha => ?_, by simp, World.ownsRow_nil _ _ _ _, trivial, Below.refl _ _⟩
    have := H3.out a ha
    simp at this
    exact ⟨this.1, by omega, this.2.2⟩
end Go.Proofs.Ytofmgbncaokmdaa.Fr
