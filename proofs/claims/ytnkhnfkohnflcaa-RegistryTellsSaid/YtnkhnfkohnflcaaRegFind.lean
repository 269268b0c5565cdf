/- registry.Find; asked: the schemas lie where the slice says, and there is memory for as many fields of any of them again. -/
import Derived.Test.YtnkhnfkohnflcaaRegMay
import Derived.Test.YtnkhnfkohnflcaaRegOwn
namespace Go.Proofs.Ytnkhnfkohnflcaa.Rg
open Go.RowKit Go.Proofs.Ytnkhnfkohnflcaa.BM Go.Proofs.Ytnkhnfkohnflcaa.VaM Go.Proofs.Ytnkhnfkohnflcaa.Va Go.Proofs.Ytnkhnfkohnflcaa.Sc Go.Proofs.Ytnkhnfkohnflcaa.RgM
open Go.Proofs.Ytnkhnfkohnflcaa.ScM (Sc)

set_option maxRecDepth 100000 in
set_option maxHeartbeats 2000000 in
theorem Find_any (l : List Sc) (nm : ByteArray) (A : Option Addr) (c : Nat) (w : World) (hS : SlS w A l c) (hr : RoomL l) :
    Calls Try.prog 13 #[.slice A l.length c, .string nm] w (Found l nm w) := by
  have hB1 := (Below.refl w.heap.size w).alloc (Nat.le_refl _) (.cells #[.string ⟨#[]⟩, .int .i64 0, .slice none 0 0] 25)
  have HZ1 := Lib.hid (bx_new_t w 25 (.string ⟨#[]⟩) (.int .i64 0) (.slice none 0 0))
  have hat := fun W (h : Below w.heap.size w W) => place_any l nm A c W (hS.kept h)
  have HB1 := Lib.hid hB1
  have HAt := Lib.hid hat
  obtain ⟨n, hn⟩ : ∃ n, n = l.length := ⟨_, rfl⟩
  rw [← hn] at HAt ⊢
  have HLen := Lib.hid hn
  have HS := Lib.hid hS
  have HRm := Lib.hid hr
  clear hn hS hat hB1 hr
  go_enter Try.func13, Try.ntmps13
  go_wp2_with fail
  obtain ⟨w1, hw1⟩ : ∃ w1, w1 = w.alloc (.cells #[.string ⟨#[]⟩, .int .i64 0, .slice none 0 0] 25) := ⟨_, rfl⟩
  rw [← hw1] at HB1 HZ1 ⊢
  clear hw1
  refine (HAt.out w1 HB1.out).mono ?_
  rintro e w3 ⟨rfl, hb3⟩
  have HB3 := Lib.hid (bt HB1.out hb3)
  have HZ3 := Lib.hid (HZ1.out.kept hb3)
  clear hb3 HB1 HZ1
  cases h : At l nm with
  | none =>
    have hi : atI l nm = -1 := by unfold atI; rw [h]
    rw [hi]
    have HFi := Lib.hid (find_no h)
    clear h hi
    have hst := bx_store HZ3.out (.string ⟨#[]⟩) (.int .i64 0) (.slice none 0 0)
    obtain ⟨⟨g0, g1, g2⟩, _⟩ := hst
    have G0 := Lib.hid g0
    have G1 := Lib.hid g1
    have G2 := Lib.hid g2
    have HF := Lib.hid (stored3 HB3.out (Nat.le_refl _) (.string ⟨#[]⟩) (.int .i64 0) (.slice none 0 0))
    obtain ⟨⟨p0, p1, p2⟩, p3, p4, p5⟩ := HZ3.out
    clear g0 g1 g2
    go_wp2_with fail
    obtain ⟨W2, hW2⟩ : ∃ W2, W2 = ((w3.setCell ⟨w.heap.size, 0, none⟩ (.string ⟨#[]⟩)).setCell ⟨w.heap.size, 1, none⟩ (.int .i64 0)).setCell ⟨w.heap.size, 2, none⟩ (.slice none 0 0) := ⟨_, rfl⟩
    rw [← hW2] at HF G0 G1 G2 ⊢
    have g0 := G0.out
    have g1 := G1.out
    have g2 := G2.out
    clear hW2 p0 p1 p2 p3 p4 p5
    exact bodyPost_ret (v := .tuple #[.agg #[.string ⟨#[]⟩, .int .i64 0, .slice none 0 0], .bool false]) (by simp [results, Try.results13, go_sem, g0, g1, g2]) rfl ⟨none, 0, ret_v (by rw [HFi.out]; rfl), (by rw [HFi.out]; exact slF_none _), (by rw [HFi.out]; exact fine_s0), HF.out⟩
  | some i =>
    have hi : atI l nm = (i : Int) := by unfold atI; rw [h]
    rw [hi]
    have HFi := Lib.hid (find_of h)
    have hlt := (at_some.1 h).1
    obtain ⟨b, q, A1, c1, hix, hc, hfine⟩ := HS.out.at i hlt
    obtain ⟨⟨x0, x1, x2⟩, _⟩ := hc w3 HB3.out
    have hrm := HRm.out i hlt
    rw [← HLen.out] at hlt
    have hi' := fun W => hix W n c hlt
    have hd : decide ((i : Int) < 0) = false := by rw [decide_eq_false_iff_not]; omega
    clear h hi hix
    obtain ⟨f, hf⟩ : ∃ f, f = l.getD i s0 := ⟨_, rfl⟩
    rw [← hf] at x0 x1 x2 hc hrm hfine HFi
    have HOw := Lib.hid (own_any f A1 c1 w3 (hc w3 HB3.out).2 hrm)
    clear hf hc hrm
    obtain ⟨fs, fv, ff⟩ := f
    simp only at x0 x1 x2 HOw
    obtain ⟨k, hk⟩ : ∃ k, k = ff.length := ⟨_, rfl⟩
    rw [← hk] at x2 HOw
    have HK := Lib.hid hk
    have HFine := Lib.hid hfine
    clear hk hfine
    go_wp2_with fail
    refine HOw.out.mono ?_
    rintro e w4 ⟨A4, c4, rfl, hO4, hb4⟩
    have HB4 := Lib.hid (bt HB3.out hb4)
    have HZ4 := Lib.hid (HZ3.out.kept hb4)
    have hlt4 := HZ3.out.lt
    have HAp := Lib.hid (show ∀ a, A4 = some a → w.heap.size < a.block from fun a ha => Nat.lt_of_lt_of_le hlt4 (hO4.2 a ha))
    have hsl := slF_off (p := ⟨w.heap.size, 2, none⟩) (slF_off (p := ⟨w.heap.size, 1, none⟩) (slF_off (p := ⟨w.heap.size, 0, none⟩) hO4.1 (fun a ha => by have := HAp.out a ha; simp only; omega) (.string fs)) (fun a ha => by have := HAp.out a ha; simp only; omega) (.int .i64 fv)) (fun a ha => by have := HAp.out a ha; simp only; omega) (.slice A4 k c4)
    have HSl := Lib.hid hsl
    have hst := bx_store HZ4.out (.string fs) (.int .i64 fv) (.slice A4 k c4)
    obtain ⟨⟨g0, g1, g2⟩, _⟩ := hst
    have G0 := Lib.hid g0
    have G1 := Lib.hid g1
    have G2 := Lib.hid g2
    have HF := Lib.hid (stored3 HB4.out (Nat.le_refl _) (.string fs) (.int .i64 fv) (.slice A4 k c4))
    obtain ⟨⟨p0, p1, p2⟩, p3, p4, p5⟩ := HZ4.out
    clear g0 g1 g2 hO4 hb4 hlt4 hsl HZ3 HB3 HOw x0 x1 x2
    go_wp2_with fail
    obtain ⟨W2, hW2⟩ : ∃ W2, W2 = ((w4.setCell ⟨w.heap.size, 0, none⟩ (.string fs)).setCell ⟨w.heap.size, 1, none⟩ (.int .i64 fv)).setCell ⟨w.heap.size, 2, none⟩ (.slice A4 k c4) := ⟨_, rfl⟩
    rw [← hW2] at HF HSl G0 G1 G2 ⊢
    have g0 := G0.out
    have g1 := G1.out
    have g2 := G2.out
    clear hW2 p0 p1 p2 p3 p4 p5
    exact bodyPost_ret (v := .tuple #[.agg #[.string fs, .int .i64 fv, .slice A4 k c4], .bool true]) (by simp [results, Try.results13, go_sem, g0, g1, g2]) rfl ⟨A4, c4, ret_v (by rw [HFi.out, ← HK.out]), (by rw [HFi.out]; exact HSl.out), (by rw [HFi.out]; exact HFine.out), HF.out⟩
end Go.Proofs.Ytnkhnfkohnflcaa.Rg
