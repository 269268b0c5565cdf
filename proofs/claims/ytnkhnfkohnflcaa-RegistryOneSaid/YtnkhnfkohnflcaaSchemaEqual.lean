/- slices.EqualFunc of schemas by schema.Same; asked: they lie where the slices say. -/
import Derived.Test.YtnkhnfkohnflcaaRegRefFind
import Derived.Test.YtnkhnfkohnflcaaSchemaSame
namespace Go.Proofs.Ytnkhnfkohnflcaa.Rg
open Go.RowKit Go.Proofs.Ytnkhnfkohnflcaa.BM Go.Proofs.Ytnkhnfkohnflcaa.VaM Go.Proofs.Ytnkhnfkohnflcaa.Va Go.Proofs.Ytnkhnfkohnflcaa.Sc Go.Proofs.Ytnkhnfkohnflcaa.RgM
open Go.Proofs.Ytnkhnfkohnflcaa.ScM (Sc)

set_option maxRecDepth 100000 in
set_option maxHeartbeats 2000000 in
theorem EqualFunc_any (a b : List Sc) (A : Option Addr) (c : Nat) (B : Option Addr) (d : Nat) (w : World) (h : SlS w A a c) (k : SlS w B b d) :
    Calls Try.prog 29 #[.slice A a.length c, .slice B b.length d, .func (.func 20) #[] #[]] w fun e w' => e = .returned (.bool (decide (a = b))) ∧ Below w.heap.size w w' := by
  have hl := slS_len h
  have hm := slS_len k
  have hq := @eq_iff a b
  have hne : a.length ≠ b.length → a ≠ b := fun h e => h (by rw [e])
  obtain ⟨n, hn⟩ : ∃ n, n = a.length := ⟨_, rfl⟩
  obtain ⟨r, hr⟩ : ∃ r, r = b.length := ⟨_, rfl⟩
  rw [← hn] at hl ⊢
  rw [← hr] at hm ⊢
  rw [← hn, ← hr] at hq hne
  have HN := Lib.hid hn
  have HR := Lib.hid hr
  have HS := Lib.hid h
  have HT := Lib.hid k
  have HQ := Lib.hid hq
  have HNe := Lib.hid hne
  clear hn hr h k hq hne
  by_cases g : n = r
  · subst g
    have HQ2 := Lib.hid (HQ.out rfl)
    have ee : ((n : Int) != n) = false := by simp
    clear HQ HNe
    go_enter Try.func29, Try.ntmps29
    go_wp2_with fail
    go_loopw [17] (fun i wr => ∃ j : Nat, i = .int .i64 j ∧ j ≤ n ∧ (∀ x, x < j → a.getD x s0 = b.getD x s0) ∧ Below w.heap.size w wr) (fun i _ => n - (intOf i).toNat)
    case atStart => exact ⟨0, rfl, Nat.zero_le _, fun x hx => absurd hx (Nat.not_lt_zero x), Below.refl _ _⟩
    case round =>
      obtain ⟨j, rfl, hj, hsame, hbel⟩ := hrel
      have HSm := Lib.hid hsame
      have HBl := Lib.hid hbel
      clear hsame hbel
      by_cases hjn : j < n
      · obtain ⟨b1, q1, A1, c1, hix1, hc1, _⟩ := HS.out.at j (by rw [← HN.out]; exact hjn)
        obtain ⟨b2, q2, A2, c2, hix2, hc2, _⟩ := HT.out.at j (by rw [← HR.out]; exact hjn)
        obtain ⟨f1, hf1⟩ : ∃ f, f = a.getD j s0 := ⟨_, rfl⟩
        obtain ⟨f2, hf2⟩ : ∃ f, f = b.getD j s0 := ⟨_, rfl⟩
        rw [← hf1] at hc1
        rw [← hf2] at hc2
        have hi1 := fun W => hix1 W n c hjn
        have hi2 := fun W => hix2 W n d hjn
        have HM5 := Lib.hid (fun W (hW : Below w.heap.size w W) => Go.Proofs.Ytnkhnfkohnflcaa.Sc.Same_any f1 f2 A1 c1 A2 c2 W (hc1 W hW).2 (hc2 W hW).2)
        have HC1 := Lib.hid (fun W (hW : Below w.heap.size w W) => (hc1 W hW).1)
        have HC2 := Lib.hid (fun W (hW : Below w.heap.size w W) => (hc2 W hW).1)
        have HF1 := Lib.hid hf1
        have HF2 := Lib.hid hf2
        clear hc1 hc2 hix1 hix2 hf1 hf2
        obtain ⟨s1, v1, l1⟩ := f1
        obtain ⟨s2, v2, l2⟩ := f2
        unfold CellS at HC1 HC2
        simp only at HM5 HC1 HC2
        obtain ⟨n1, hn1⟩ : ∃ n1, n1 = l1.length := ⟨_, rfl⟩
        obtain ⟨n2, hn2⟩ : ∃ n2, n2 = l2.length := ⟨_, rfl⟩
        simp only [← hn1] at HM5 HC1
        simp only [← hn2] at HM5 HC2
        clear hn1 hn2
        obtain ⟨x0, x1, x2⟩ := HC1.out wr HBl.out
        have ha := (Below.refl wr.heap.size wr).alloc (Nat.le_refl _) (.cells #[.string s1, .int .i64 v1, .slice A1 n1 c1] 25)
        have hx3 := bx_new_t wr 25 (.string s1) (.int .i64 v1) (.slice A1 n1 c1)
        obtain ⟨y0, y1, y2⟩ := HC2.out _ (bt HBl.out ha)
        have ha2 := (Below.refl (wr.alloc (.cells #[.string s1, .int .i64 v1, .slice A1 n1 c1] 25)).heap.size (wr.alloc (.cells #[.string s1, .int .i64 v1, .slice A1 n1 c1] 25))).alloc (Nat.le_refl _) (.cells #[.string s2, .int .i64 v2, .slice A2 n2 c2] 25)
        have hx4 := bx_new_t (wr.alloc (.cells #[.string s1, .int .i64 v1, .slice A1 n1 c1] 25)) 25 (.string s2) (.int .i64 v2) (.slice A2 n2 c2)
        rw [show (wr.alloc (.cells #[.string s1, .int .i64 v1, .slice A1 n1 c1] 25)).heap.size = wr.heap.size + 1 from by simp] at hx4
        obtain ⟨⟨p0, p1, p2⟩, _⟩ := hx3.kept ha2
        obtain ⟨⟨z0, z1, z2⟩, _⟩ := hx4
        have HB2 := Lib.hid (bt HBl.out (bt ha ha2))
        clear ha ha2 hx3
        go_wp2_with fail
        obtain ⟨w2, hw2⟩ : ∃ w2, w2 = (wr.alloc (.cells #[.string s1, .int .i64 v1, .slice A1 n1 c1] 25)).alloc (.cells #[.string s2, .int .i64 v2, .slice A2 n2 c2] 25) := ⟨_, rfl⟩
        rw [← hw2] at HB2 ⊢
        clear hw2 p0 p1 p2 z0 z1 z2 x0 x1 x2 y0 y1 y2
        refine (HM5.out w2 HB2.out).mono ?_
        rintro e w3 ⟨rfl, hb3⟩
        have HB3 := Lib.hid (bt HB2.out hb3)
        clear hb3 HB2
        by_cases he : (⟨s1, v1, l1⟩ : Sc) = ⟨s2, v2, l2⟩
        · rw [decide_eq_true he]
          have HSu := Lib.hid (show ∀ x, x < j + 1 → a.getD x s0 = b.getD x s0 from fun x hx => by
            by_cases e : x = j
            · rw [e, ← HF1.out, ← HF2.out, he]
            · exact HSm.out x (by omega))
          clear he
          go_wp2_with fail
          go_roundw
          case rel => exact ⟨j + 1, by go_num, by omega, HSu.out, HB3.out⟩
          case measure => simp [intOf]; omega
        · rw [decide_eq_false he]
          have HNo := Lib.hid (show ¬ a = b from fun h => he (by rw [HF1.out, HF2.out]; exact HQ2.out.1 h j hjn))
          clear he
          go_wp2_with fail
          go_ret
          exact ⟨ret_v (x := .bool false) (by rw [decide_eq_false HNo.out]), HB3.out⟩
      · obtain rfl : j = n := by omega
        have HYes := Lib.hid (HQ2.out.2 HSm.out)
        go_wp2_with fail
        go_ret
        exact ⟨ret_v (x := .bool true) (by rw [decide_eq_true HYes.out]), HBl.out⟩
  · have g' : ((n : Int) != r) = true := by rw [bne_iff_ne]; omega
    have HNo := Lib.hid (HNe.out g)
    clear g
    go_enter Try.func29, Try.ntmps29
    go_wp2_with fail
    go_ret
    exact ⟨ret_v (x := .bool false) (by rw [decide_eq_false HNo.out]), Below.refl _ _⟩
end Go.Proofs.Ytnkhnfkohnflcaa.Rg
