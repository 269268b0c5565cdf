/- Find and Same of the document's answers; asked: the schemas lie where the slices say. -/
import Derived.Test.YtnkhnfkohnflcaaRegRef
import Derived.Test.YtnkhnfkohnflcaaSchemaRefSame
import Derived.Test.YtnkhnfkohnflcaaRegion
namespace Go.Proofs.Ytnkhnfkohnflcaa.Rg
open Go.RowKit Go.Proofs.Ytnkhnfkohnflcaa.BM Go.Proofs.Ytnkhnfkohnflcaa.VaM Go.Proofs.Ytnkhnfkohnflcaa.Va Go.Proofs.Ytnkhnfkohnflcaa.Sc Go.Proofs.Ytnkhnfkohnflcaa.RgM
open Go.Proofs.Ytnkhnfkohnflcaa.ScM (Sc)

/-- What is found, as an answer. -/
def Found (l : List Sc) (nm : ByteArray) (w : World) (e : Ending) (w' : World) : Prop :=
  ∃ A c, e = .returned (.tuple #[.agg #[.string (find l nm).1.s, .int .i64 (find l nm).1.v, .slice A (find l nm).1.f.length c], .bool (find l nm).2]) ∧ SlF w' A (find l nm).1.f c ∧ Fine (find l nm).1 ∧ Below w.heap.size w w'

theorem fine_s0 : Fine s0 := ⟨by unfold maxLen; decide, by decide, by decide⟩

theorem find_of {l : List Sc} {nm : ByteArray} {i : Nat} (h : At l nm = some i) : find l nm = (l.getD i s0, true) := by unfold find; rw [h]
theorem find_no {l : List Sc} {nm : ByteArray} (h : At l nm = none) : find l nm = (s0, false) := by unfold find; rw [h]

theorem eq_iff {a b : List Sc} (h : a.length = b.length) : a = b ↔ ∀ j, j < a.length → a.getD j s0 = b.getD j s0 := by
  constructor
  · intro e j _
    rw [e]
  · intro hall
    refine List.ext_getElem h (fun j h1 h2 => ?_)
    have := hall j h1
    rw [getD_lt h1, getD_lt h2] at this
    exact this

set_option maxRecDepth 100000 in
set_option maxHeartbeats 2000000 in
theorem refFind_any (l : List Sc) (nm : ByteArray) (A : Option Addr) (c : Nat) (w : World) (hS : SlS w A l c) :
    Calls Try.prog 14 #[.slice A l.length c, .string nm] w (Found l nm w) := by
  have hB1 := (Below.refl w.heap.size w).alloc (Nat.le_refl _) (.cells #[.string ⟨#[]⟩, .int .i64 0, .slice none 0 0] 25)
  have HZ1 := Lib.hid (bx_new_t w 25 (.string ⟨#[]⟩) (.int .i64 0) (.slice none 0 0))
  have hat := fun W (h : Below w.heap.size w W) => refAt_any l nm A c W (hS.kept h)
  have HB1 := Lib.hid hB1
  have HAt := Lib.hid hat
  obtain ⟨n, hn⟩ : ∃ n, n = l.length := ⟨_, rfl⟩
  rw [← hn] at HAt ⊢
  have HLen := Lib.hid hn
  have HS := Lib.hid hS
  clear hn hS hat hB1
  go_enter Try.func14, Try.ntmps14
  go_wp2_with fail
  obtain ⟨w1, hw1⟩ : ∃ w1, w1 = w.alloc (.cells #[.string ⟨#[]⟩, .int .i64 0, .slice none 0 0] 25) := ⟨_, rfl⟩
  rw [← hw1] at HB1 HZ1 ⊢
  clear hw1
  refine (HAt.out w1 HB1.out).mono ?_
  rintro e w2 ⟨rfl, rfl⟩
  cases h : At l nm with
  | none =>
    have hi : atI l nm = -1 := by unfold atI; rw [h]
    rw [hi]
    have HFi := Lib.hid (find_no h)
    clear h hi
    have hst := bx_store HZ1.out (.string ⟨#[]⟩) (.int .i64 0) (.slice none 0 0)
    obtain ⟨⟨g0, g1, g2⟩, _⟩ := hst
    have G0 := Lib.hid g0
    have G1 := Lib.hid g1
    have G2 := Lib.hid g2
    have HF := Lib.hid (stored3 HB1.out (Nat.le_refl _) (.string ⟨#[]⟩) (.int .i64 0) (.slice none 0 0))
    obtain ⟨⟨p0, p1, p2⟩, p3, p4, p5⟩ := HZ1.out
    clear g0 g1 g2
    go_wp2_with fail
    obtain ⟨W2, hW2⟩ : ∃ W2, W2 = ((w1.setCell ⟨w.heap.size, 0, none⟩ (.string ⟨#[]⟩)).setCell ⟨w.heap.size, 1, none⟩ (.int .i64 0)).setCell ⟨w.heap.size, 2, none⟩ (.slice none 0 0) := ⟨_, rfl⟩
    rw [← hW2] at HF G0 G1 G2 ⊢
    have g0 := G0.out
    have g1 := G1.out
    have g2 := G2.out
    clear hW2 p0 p1 p2 p3 p4 p5
    exact bodyPost_ret (v := .tuple #[.agg #[.string ⟨#[]⟩, .int .i64 0, .slice none 0 0], .bool false]) (by simp [results, Try.results14, go_sem, g0, g1, g2]) rfl ⟨none, 0, ret_v (by rw [HFi.out]; rfl), (by rw [HFi.out]; exact slF_none _), (by rw [HFi.out]; exact fine_s0), HF.out⟩
  | some i =>
    have hi : atI l nm = (i : Int) := by unfold atI; rw [h]
    rw [hi]
    have HFi := Lib.hid (find_of h)
    have hlt := (at_some.1 h).1
    obtain ⟨b, q, A1, c1, hix, hc, hfine⟩ := HS.out.at i hlt
    obtain ⟨⟨x0, x1, x2⟩, _⟩ := hc w1 HB1.out
    have y0 := (hc w (Below.refl _ _)).2
    rw [← HLen.out] at hlt
    have hi' := fun W => hix W n c hlt
    have hd : decide ((i : Int) < 0) = false := by rw [decide_eq_false_iff_not]; omega
    clear h hi hix hc
    obtain ⟨f, hf⟩ : ∃ f, f = l.getD i s0 := ⟨_, rfl⟩
    rw [← hf] at x0 x1 x2 y0 hfine HFi
    clear hf
    obtain ⟨fs, fv, ff⟩ := f
    simp only at x0 x1 x2 y0
    obtain ⟨k, hk⟩ : ∃ k, k = ff.length := ⟨_, rfl⟩
    rw [← hk] at x2
    have HK := Lib.hid hk
    have HFine := Lib.hid hfine
    have hst := bx_store HZ1.out (.string fs) (.int .i64 fv) (.slice A1 k c1)
    obtain ⟨⟨g0, g1, g2⟩, _⟩ := hst
    have G0 := Lib.hid g0
    have G1 := Lib.hid g1
    have G2 := Lib.hid g2
    have HF := Lib.hid (stored3 HB1.out (Nat.le_refl _) (.string fs) (.int .i64 fv) (.slice A1 k c1))
    have HY := Lib.hid y0
    obtain ⟨⟨p0, p1, p2⟩, p3, p4, p5⟩ := HZ1.out
    clear g0 g1 g2 hk hfine y0
    go_wp2_with fail
    obtain ⟨W2, hW2⟩ : ∃ W2, W2 = ((w1.setCell ⟨w.heap.size, 0, none⟩ (.string fs)).setCell ⟨w.heap.size, 1, none⟩ (.int .i64 fv)).setCell ⟨w.heap.size, 2, none⟩ (.slice A1 k c1) := ⟨_, rfl⟩
    rw [← hW2] at HF G0 G1 G2 ⊢
    have g0 := G0.out
    have g1 := G1.out
    have g2 := G2.out
    clear hW2 p0 p1 p2 p3 p4 p5 x0 x1 x2
    exact bodyPost_ret (v := .tuple #[.agg #[.string fs, .int .i64 fv, .slice A1 k c1], .bool true]) (by simp [results, Try.results14, go_sem, g0, g1, g2]) rfl ⟨A1, c1, ret_v (by rw [HFi.out, ← HK.out]), (by rw [HFi.out]; exact HY.out.kept HF.out), (by rw [HFi.out]; exact HFine.out), HF.out⟩

set_option maxRecDepth 100000 in
set_option maxHeartbeats 2000000 in
theorem refSame_any (a b : List Sc) (A : Option Addr) (c : Nat) (B : Option Addr) (d : Nat) (w : World) (h : SlS w A a c) (k : SlS w B b d) :
    Calls Try.prog 15 #[.slice A a.length c, .slice B b.length d] w fun e w' => e = .returned (.bool (decide (a = b))) ∧ Below w.heap.size w w' := by
  have hl := slS_len h
  have hm := slS_len k
  have hq := @eq_iff a b
  have hne : a.length ≠ b.length → a ≠ b := fun h e => h (by rw [e])
  obtain ⟨n, hn⟩ : ∃ n, n = a.length := ⟨_, rfl⟩
  obtain ⟨r, hr⟩ : ∃ r, r = b.length := ⟨_, rfl⟩
  rw [← hn] at hl ⊢
  rw [← hr] at hm ⊢
  rw [← hn, ← hr] at hq hne
  have HN := Lib.hid hn
  have HR := Lib.hid hr
  have HS := Lib.hid h
  have HT := Lib.hid k
  have HQ := Lib.hid hq
  have HNe := Lib.hid hne
  clear hn hr h k hq hne
  by_cases g : n = r
  · subst g
    have HQ2 := Lib.hid (HQ.out rfl)
    have ee : ((n : Int) != n) = false := by simp
    clear HQ HNe
    go_enter Try.func15, Try.ntmps15
    go_wp2_with fail
    go_loopw [5] (fun i wr => ∃ j : Nat, i = .int .i64 j ∧ j ≤ n ∧ (∀ x, x < j → a.getD x s0 = b.getD x s0) ∧ Below w.heap.size w wr) (fun i _ => n - (intOf i).toNat)
    case atStart => exact ⟨0, rfl, Nat.zero_le _, fun x hx => absurd hx (Nat.not_lt_zero x), Below.refl _ _⟩
    case round =>
      obtain ⟨j, rfl, hj, hsame, hbel⟩ := hrel
      have HSm := Lib.hid hsame
      have HBl := Lib.hid hbel
      clear hsame hbel
      by_cases hjn : j < n
      · obtain ⟨b1, q1, A1, c1, hix1, hc1, _⟩ := HS.out.at j (by rw [← HN.out]; exact hjn)
        obtain ⟨b2, q2, A2, c2, hix2, hc2, _⟩ := HT.out.at j (by rw [← HR.out]; exact hjn)
        obtain ⟨f1, hf1⟩ : ∃ f, f = a.getD j s0 := ⟨_, rfl⟩
        obtain ⟨f2, hf2⟩ : ∃ f, f = b.getD j s0 := ⟨_, rfl⟩
        rw [← hf1] at hc1
        rw [← hf2] at hc2
        have hi1 := fun W => hix1 W n c hjn
        have hi2 := fun W => hix2 W n d hjn
        have HM5 := Lib.hid (fun W (hW : Below w.heap.size w W) => Go.Proofs.Ytnkhnfkohnflcaa.Sc.refSame_any f1 f2 A1 c1 A2 c2 W (hc1 W hW).2 (hc2 W hW).2)
        have HC1 := Lib.hid (fun W (hW : Below w.heap.size w W) => (hc1 W hW).1)
        have HC2 := Lib.hid (fun W (hW : Below w.heap.size w W) => (hc2 W hW).1)
        have HF1 := Lib.hid hf1
        have HF2 := Lib.hid hf2
        clear hc1 hc2 hix1 hix2 hf1 hf2
        obtain ⟨s1, v1, l1⟩ := f1
        obtain ⟨s2, v2, l2⟩ := f2
        unfold CellS at HC1 HC2
        simp only at HM5 HC1 HC2
        obtain ⟨n1, hn1⟩ : ∃ n1, n1 = l1.length := ⟨_, rfl⟩
        obtain ⟨n2, hn2⟩ : ∃ n2, n2 = l2.length := ⟨_, rfl⟩
        simp only [← hn1] at HM5 HC1
        simp only [← hn2] at HM5 HC2
        clear hn1 hn2
        go_wp2_with fail
        refine Reg.G_start (by kernel_rfl) (by repeat (first | exact Reg.frameless_bodyPost | refine Reg.frameless_then ?_ | refine Reg.frameless_inBlock ?_)) (fun W hW => ?_)
        have hBW := bt HBl.out hW
        obtain ⟨y0, y1, y2⟩ := HC1.out W hBW
        obtain ⟨z0, z1, z2⟩ := HC2.out W hBW
        have x0 := Reg.later_cell (Below.refl _ W) y0
        have x1 := Reg.later_cell (Below.refl _ W) y1
        have x2 := Reg.later_cell (Below.refl _ W) y2
        have x3 := Reg.later_cell (Below.refl _ W) z0
        have x4 := Reg.later_cell (Below.refl _ W) z1
        have x5 := Reg.later_cell (Below.refl _ W) z2
        clear y0 y1 y2 z0 z1 z2
        first | (refine Reg.G_step (i := 0) rfl (by kernel_rfl) (by rfl) (fun K hK => ?_); go_big_quiet_op; refine hK _ ?_; clear hK K) | (refine Reg.G_skip (i := 0) rfl (by kernel_rfl) (by rfl) ?_; simp only [Act.put, List.setIfInBounds_toArray, List.set_cons_zero, List.set_cons_succ])
        first | (refine Reg.G_step (i := 1) rfl (by kernel_rfl) (by rfl) (fun K hK => ?_); go_big_quiet_op; refine hK _ ?_; clear hK K) | (refine Reg.G_skip (i := 1) rfl (by kernel_rfl) (by rfl) ?_; simp only [Act.put, List.setIfInBounds_toArray, List.set_cons_zero, List.set_cons_succ])
        first | (refine Reg.G_step (i := 2) rfl (by kernel_rfl) (by rfl) (fun K hK => ?_); go_big_quiet_op; refine hK _ ?_; clear hK K) | (refine Reg.G_skip (i := 2) rfl (by kernel_rfl) (by rfl) ?_; simp only [Act.put, List.setIfInBounds_toArray, List.set_cons_zero, List.set_cons_succ])
        first | (refine Reg.G_step (i := 3) rfl (by kernel_rfl) (by rfl) (fun K hK => ?_); go_big_quiet_op; refine hK _ ?_; clear hK K) | (refine Reg.G_skip (i := 3) rfl (by kernel_rfl) (by rfl) ?_; simp only [Act.put, List.setIfInBounds_toArray, List.set_cons_zero, List.set_cons_succ])
        first | (refine Reg.G_step (i := 4) rfl (by kernel_rfl) (by rfl) (fun K hK => ?_); go_big_quiet_op; refine hK _ ?_; clear hK K) | (refine Reg.G_skip (i := 4) rfl (by kernel_rfl) (by rfl) ?_; simp only [Act.put, List.setIfInBounds_toArray, List.set_cons_zero, List.set_cons_succ])
        first | (refine Reg.G_step (i := 5) rfl (by kernel_rfl) (by rfl) (fun K hK => ?_); go_big_quiet_op; refine hK _ ?_; clear hK K) | (refine Reg.G_skip (i := 5) rfl (by kernel_rfl) (by rfl) ?_; simp only [Act.put, List.setIfInBounds_toArray, List.set_cons_zero, List.set_cons_succ])
        first | (refine Reg.G_step (i := 6) rfl (by kernel_rfl) (by rfl) (fun K hK => ?_); go_big_quiet_op; refine hK _ ?_; clear hK K) | (refine Reg.G_skip (i := 6) rfl (by kernel_rfl) (by rfl) ?_; simp only [Act.put, List.setIfInBounds_toArray, List.set_cons_zero, List.set_cons_succ])
        first | (refine Reg.G_step (i := 7) rfl (by kernel_rfl) (by rfl) (fun K hK => ?_); go_big_quiet_op; refine hK _ ?_; clear hK K) | (refine Reg.G_skip (i := 7) rfl (by kernel_rfl) (by rfl) ?_; simp only [Act.put, List.setIfInBounds_toArray, List.set_cons_zero, List.set_cons_succ])
        refine Reg.G_event (i := 8) rfl (by kernel_rfl) (by rfl) (fun K hK => ?_)
        go_simp
        refine (HM5.out _ hBW).mono ?_
        rintro e v0 ⟨rfl, hv0⟩
        refine hK _ _ hv0 ?_
        clear hK K x0 x1 x2 x3 x4 x5
        have hw0 := bt hBW hv0
        first | (refine Reg.G_step (i := 9) rfl (by kernel_rfl) (by rfl) (fun K hK => ?_); go_big_quiet_op; refine hK _ ?_; clear hK K) | (refine Reg.G_skip (i := 9) rfl (by kernel_rfl) (by rfl) ?_; simp only [Act.put, List.setIfInBounds_toArray, List.set_cons_zero, List.set_cons_succ])
        refine Reg.G_done (by kernel_rfl) ?_
        have HB3 := Lib.hid hw0
        clear hw0 hv0 hBW hW
        by_cases he : (⟨s1, v1, l1⟩ : Sc) = ⟨s2, v2, l2⟩
        · rw [decide_eq_true he]
          have HSu := Lib.hid (show ∀ x, x < j + 1 → a.getD x s0 = b.getD x s0 from fun x hx => by
            by_cases e : x = j
            · rw [e, ← HF1.out, ← HF2.out, he]
            · exact HSm.out x (by omega))
          clear he
          go_wp2_with fail
          go_roundw
          case rel => exact ⟨j + 1, by go_num, by omega, HSu.out, HB3.out⟩
          case measure => simp [intOf]; omega
        · rw [decide_eq_false he]
          have HNo := Lib.hid (show ¬ a = b from fun h => he (by rw [HF1.out, HF2.out]; exact HQ2.out.1 h j hjn))
          clear he
          go_wp2_with fail
          go_ret
          exact ⟨ret_v (x := .bool false) (by rw [decide_eq_false HNo.out]), HB3.out⟩
      · obtain rfl : j = n := by omega
        have HYes := Lib.hid (HQ2.out.2 HSm.out)
        go_wp2_with fail
        go_ret
        exact ⟨ret_v (x := .bool true) (by rw [decide_eq_true HYes.out]), HBl.out⟩
  · have g' : ((n : Int) != r) = true := by rw [bne_iff_ne]; omega
    have HNo := Lib.hid (HNe.out g)
    clear g
    go_enter Try.func15, Try.ntmps15
    go_wp2_with fail
    go_ret
    exact ⟨ret_v (x := .bool false) (by rw [decide_eq_false HNo.out]), Below.refl _ _⟩
end Go.Proofs.Ytnkhnfkohnflcaa.Rg
