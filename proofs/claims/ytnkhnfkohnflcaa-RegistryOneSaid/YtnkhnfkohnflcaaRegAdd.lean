/- registry.Add; asked: the schemas lie where the slice says. -/
import Derived.Test.YtnkhnfkohnflcaaRegAddNext
namespace Go.Proofs.Ytnkhnfkohnflcaa.Rg
open Go.RowKit Go.Proofs.Ytnkhnfkohnflcaa.BM Go.Proofs.Ytnkhnfkohnflcaa.LM Go.Proofs.Ytnkhnfkohnflcaa.VaM Go.Proofs.Ytnkhnfkohnflcaa.Va Go.Proofs.Ytnkhnfkohnflcaa.Sc Go.Proofs.Ytnkhnfkohnflcaa.RgM
open Go.Proofs.Ytnkhnfkohnflcaa.ScM (Sc)

set_option maxRecDepth 100000 in
set_option maxHeartbeats 4000000 in
theorem Add_any (l : List Sc) (s : Sc) (A : Option Addr) (c : Nat) (B : Option Addr) (d : Nat) (w : World) (hS : SlS w A l c) (hF : SlF w B s.f d) (hz : Fine s) :
    Calls Try.prog 11 #[.slice A l.length c, .agg #[.string s.s, .int .i64 s.v, .slice B s.f.length d]] w (Added l s w) := by
  have hmay := fun W (h : Below w.heap.size w W) => May_any l A c W (hS.kept h)
  have hm5 := fun W (h : Below w.heap.size w W) => Go.Proofs.Ytnkhnfkohnflcaa.Sc.May_any s B d W (hF.kept h) hz
  have hpl := fun W (h : Below w.heap.size w W) => place_any l s.s A c W (hS.kept h)
  have hnew := fun (g : May l ∧ ScM.May s) (k : At l s.s = none) W (h : Below w.heap.size w W) => addNew_any l s A c B d W (hS.kept h) (hF.kept h) hz g k
  have hnxt := fun (g : May l ∧ ScM.May s) i (k : At l s.s = some i) W (h : Below w.heap.size w W) => addNext_any l i s A c B d W (hS.kept h) (hF.kept h) hz g k
  have hadd1 := @add_1 l s
  unfold Added at hnew hnxt
  have HMay := Lib.hid hmay
  have HM5 := Lib.hid hm5
  have HPl := Lib.hid hpl
  have HNew := Lib.hid hnew
  have HNxt := Lib.hid hnxt
  have HA1 := Lib.hid hadd1
  clear hmay hm5 hpl hnew hnxt hadd1 hS hF hz
  obtain ⟨nm, v, f⟩ := s
  simp only at HM5 HPl HNew HNxt HA1 ⊢
  obtain ⟨k, hk⟩ : ∃ k, k = f.length := ⟨_, rfl⟩
  obtain ⟨n, hn⟩ : ∃ n, n = l.length := ⟨_, rfl⟩
  simp only [← hk] at HM5 HNew HNxt
  simp only [← hn] at HMay HPl HNew HNxt
  rw [← hk, ← hn]
  clear hk hn
  have HX1 := Lib.hid (bx_new_t w 25 (.string nm) (.int .i64 v) (.slice B k d))
  have HB1 := Lib.hid ((Below.refl w.heap.size w).alloc (Nat.le_refl _) (.cells #[.string nm, .int .i64 v, .slice B k d] 25))
  go_enter Try.func11, Try.ntmps11
  go_wp2_with fail
  obtain ⟨w1, hw1⟩ : ∃ w1, w1 = w.alloc (.cells #[.string nm, .int .i64 v, .slice B k d] 25) := ⟨_, rfl⟩
  rw [← hw1] at HX1 HB1 ⊢
  clear hw1
  refine (HMay.out w1 HB1.out).mono ?_
  rintro e w2 ⟨rfl, hb2⟩
  have HB2 := Lib.hid (bt HB1.out hb2)
  have HX2 := Lib.hid (HX1.out.kept hb2)
  clear hb2 HB1 HX1
  obtain ⟨⟨p0, p1, p2⟩, _⟩ := HX2.out
  by_cases hml : May l
  · rw [decide_eq_true hml]
    have HMl := Lib.hid hml
    clear hml
    go_wp2_with fail
    refine (HM5.out w2 HB2.out).mono ?_
    rintro e w3 ⟨rfl, hb3⟩
    have HB3 := Lib.hid (bt HB2.out hb3)
    have HX3 := Lib.hid (HX2.out.kept hb3)
    clear hb3 HB2 HX2 p0 p1 p2
    by_cases hm5 : ScM.May ⟨nm, v, f⟩
    · rw [decide_eq_true hm5]
      have hnew := HNew.out ⟨HMl.out, hm5⟩
      have hnxt := HNxt.out ⟨HMl.out, hm5⟩
      obtain ⟨x, hx⟩ : ∃ x, x = (add l ⟨nm, v, f⟩).1 := ⟨_, rfl⟩
      obtain ⟨E, hE⟩ : ∃ E, E = (add l ⟨nm, v, f⟩).2 := ⟨_, rfl⟩
      simp only [← hx, ← hE] at hnew hnxt
      have HXx := Lib.hid hx
      have HEe := Lib.hid hE
      have HNew2 := Lib.hid hnew
      have HNxt2 := Lib.hid hnxt
      clear hm5 hnew hnxt hx hE HNew HNxt
      obtain ⟨⟨p0, p1, p2⟩, _⟩ := HX3.out
      go_wp2_with fail
      refine (HPl.out w3 HB3.out).mono ?_
      rintro e w4 ⟨rfl, hb4⟩
      have HB4 := Lib.hid (bt HB3.out hb4)
      have HX4 := Lib.hid (HX3.out.kept hb4)
      clear hb4 HB3 HX3 p0 p1 p2
      obtain ⟨⟨p0, p1, p2⟩, _⟩ := HX4.out
      cases hat : At l nm with
      | none =>
        have hi : atI l nm = -1 := by unfold atI; rw [hat]
        have HN := Lib.hid (HNew2.out hat w4 HB4.out)
        rw [hi]
        clear hi hat HNew2 HNxt2
        go_wp2_with fail
        refine HN.out.mono ?_
        rintro e w5 ⟨A5, c5, rfl, hs5, hb5⟩
        have HS5 := Lib.hid hs5
        have HB5 := Lib.hid (bt HB4.out hb5)
        obtain ⟨r, hr⟩ : ∃ r, r = x.length := ⟨_, rfl⟩
        rw [← hr]
        have HR := Lib.hid hr
        clear hs5 hb5 hr HN p0 p1 p2
        go_wp2_with fail
        exact bodyPost_ret (v := .tuple #[.slice A5 r c5, .int .i64 E]) (by simp [results, Try.results11, go_sem]) rfl ⟨A5, c5, ret_v (by rw [← HXx.out, ← HEe.out, HR.out]), by rw [← HXx.out]; exact HS5.out, HB5.out⟩
      | some i =>
        have hi : atI l nm = (i : Int) := by unfold atI; rw [hat]
        have hd : decide ((i : Int) < 0) = false := by rw [decide_eq_false_iff_not]; omega
        have HN := Lib.hid (HNxt2.out i hat w4 HB4.out)
        rw [hi]
        clear hi hat HNew2 HNxt2
        go_wp2_with fail
        refine HN.out.mono ?_
        rintro e w5 ⟨A5, c5, rfl, hs5, hb5⟩
        have HS5 := Lib.hid hs5
        have HB5 := Lib.hid (bt HB4.out hb5)
        obtain ⟨r, hr⟩ : ∃ r, r = x.length := ⟨_, rfl⟩
        rw [← hr]
        have HR := Lib.hid hr
        clear hs5 hb5 hr HN p0 p1 p2
        go_wp2_with fail
        exact bodyPost_ret (v := .tuple #[.slice A5 r c5, .int .i64 E]) (by simp [results, Try.results11, go_sem]) rfl ⟨A5, c5, ret_v (by rw [← HXx.out, ← HEe.out, HR.out]), by rw [← HXx.out]; exact HS5.out, HB5.out⟩
    · rw [decide_eq_false hm5]
      have HErr := Lib.hid (HA1.out (fun h => hm5 h.2))
      clear hm5
      go_wp2_with fail
      exact bodyPost_ret (v := .tuple #[.slice none 0 0, .int .i64 1]) (by simp [results, Try.results11, go_sem]) rfl (added_err HErr.out HB3.out)
  · rw [decide_eq_false hml]
    have HErr := Lib.hid (HA1.out (fun h => hml h.1))
    clear hml
    go_wp2_with fail
    exact bodyPost_ret (v := .tuple #[.slice none 0 0, .int .i64 1]) (by simp [results, Try.results11, go_sem]) rfl (added_err HErr.out HB2.out)
end Go.Proofs.Ytnkhnfkohnflcaa.Rg
