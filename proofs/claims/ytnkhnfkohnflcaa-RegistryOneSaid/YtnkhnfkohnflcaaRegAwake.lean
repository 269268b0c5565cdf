/- The chapter's example holds; nothing is asked. -/
import Derived.Test.YtnkhnfkohnflcaaRegFns
namespace Go.Proofs.Ytnkhnfkohnflcaa.Rg
open Go.RowKit Go.Proofs.Ytnkhnfkohnflcaa.BM Go.Proofs.Ytnkhnfkohnflcaa.LM Go.Proofs.Ytnkhnfkohnflcaa.VaM Go.Proofs.Ytnkhnfkohnflcaa.Va Go.Proofs.Ytnkhnfkohnflcaa.Sc Go.Proofs.Ytnkhnfkohnflcaa.RgM
open Go.Proofs.Ytnkhnfkohnflcaa.ScM (Sc Fit)

/-- The chapter's example. -/
def ex : Sc := ⟨⟨#[97]⟩, 1, []⟩
theorem ex_fine : Fine ex := ⟨by unfold maxLen; decide, by decide, by decide⟩
theorem ex_add : add [] ex = ([ex], 0) := by decide
theorem ex_have : add [ex] ex = ([], 4) := by decide
theorem ex_find : find [ex] ex.s = (ex, true) := by decide
theorem ex_may : May [ex] := by decide

set_option maxRecDepth 100000 in
set_option maxHeartbeats 2000000 in
theorem awake_any (w : World) : Calls Try.prog 8 #[] w fun e w' => e = .returned (.bool true) ∧ Below w.heap.size w w' := by
  have hadd := fun W => Add_any [] ex none 0 none 0 W (slS_none W) (slF_none W) ex_fine
  have hadd2 := fun W A c (h : SlS W A [ex] c) => Add_any [ex] ex A c none 0 W h (slF_none W) ex_fine
  have hfind := fun W A c (h : SlS W A [ex] c) => Find_any [ex] ex.s A c W h (roomL_may ex_may)
  have hmay := fun W A c (h : SlS W A [ex] c) => May_any [ex] A c W h
  have hs1 := fun W A c (h : SlS W A [ex] c) => Same_any [ex] [ex] A c A c W h h
  have hs2 := fun W A c (h : SlS W A [ex] c) => Same_any [ex] [] A c none 0 W h (slS_none W)
  unfold Added at hadd hadd2
  unfold Found at hfind
  rw [decide_eq_true ex_may] at hmay
  rw [show decide ([ex] = [ex]) = true from by decide] at hs1
  rw [show decide ([ex] = ([] : List Sc)) = false from by decide] at hs2
  rw [ex_add] at hadd
  rw [ex_have] at hadd2
  rw [ex_find] at hfind
  simp only [ex, List.length_nil, List.length_cons, Nat.zero_add] at hadd hadd2 hfind hmay hs1 hs2
  have HAdd := Lib.hid hadd
  have HAdd2 := Lib.hid hadd2
  have HFind := Lib.hid hfind
  have HMay := Lib.hid hmay
  have HS1 := Lib.hid hs1
  have HS2 := Lib.hid hs2
  clear hadd hadd2 hfind hmay hs1 hs2
  have HX1 := Lib.hid (bx_new_t w 25 (.string ⟨#[97]⟩) (.int .i64 1) (.slice none 0 0))
  have HB1 := Lib.hid ((Below.refl w.heap.size w).alloc (Nat.le_refl _) (.cells #[.string ⟨#[97]⟩, .int .i64 1, .slice none 0 0] 25))
  obtain ⟨⟨p0, p1, p2⟩, _⟩ := HX1.out
  go_enter Try.func8, Try.ntmps8
  go_wp2_with fail
  obtain ⟨w1, hw1⟩ : ∃ w1, w1 = w.alloc (.cells #[.string ⟨#[97]⟩, .int .i64 1, .slice none 0 0] 25) := ⟨_, rfl⟩
  rw [← hw1] at HX1 HB1 ⊢
  clear hw1 p0 p1 p2
  refine (HAdd.out w1).mono ?_
  rintro e w2 ⟨A, c, rfl, hs2, hb2⟩
  have HB2 := Lib.hid (bt HB1.out hb2)
  have HX2 := Lib.hid (HX1.out.kept hb2)
  have HL2 := Lib.hid hs2
  clear hb2 hs2 HB1 HX1 HAdd
  obtain ⟨⟨p0, p1, p2⟩, _⟩ := HX2.out
  go_wp2_with fail
  refine (HAdd2.out w2 A c HL2.out).mono ?_
  rintro e w3 ⟨A3, c3, rfl, _, hb3⟩
  have HB3 := Lib.hid (bt HB2.out hb3)
  have HL3 := Lib.hid (HL2.out.kept hb3)
  clear hb3 HB2 HL2 HX2 HAdd2 p0 p1 p2
  go_wp2_with fail
  refine (HFind.out w3 A c HL3.out).mono ?_
  rintro e w4 ⟨A4, c4, rfl, _, _, hb4⟩
  have ha4 := (Below.refl w4.heap.size w4).alloc (Nat.le_refl _) (.cells #[.string ⟨#[97]⟩, .int .i64 1, .slice A4 0 c4] 25)
  obtain ⟨⟨p0, p1, p2⟩, _⟩ := bx_new_t w4 25 (.string ⟨#[97]⟩) (.int .i64 1) (.slice A4 0 c4)
  have HB5 := Lib.hid (bt HB3.out (bt hb4 ha4))
  have HL5 := Lib.hid (HL3.out.kept (bt hb4 ha4))
  clear hb4 ha4 HB3 HL3 HFind
  go_wp2_with fail
  refine (HMay.out _ A c HL5.out).mono ?_
  rintro e w6 ⟨rfl, hb6⟩
  have HB6 := Lib.hid (bt HB5.out hb6)
  have HL6 := Lib.hid (HL5.out.kept hb6)
  clear hb6 HB5 HL5 HMay p0 p1 p2
  go_wp2_with fail
  refine (HS1.out _ A c HL6.out).mono ?_
  rintro e w7 ⟨rfl, hb7⟩
  have HB7 := Lib.hid (bt HB6.out hb7)
  have HL7 := Lib.hid (HL6.out.kept hb7)
  clear hb7 HB6 HL6 HS1
  go_wp2_with fail
  refine (HS2.out _ A c HL7.out).mono ?_
  rintro e w8 ⟨rfl, hb8⟩
  have HB8 := Lib.hid (bt HB7.out hb8)
  clear hb8 HB7 HL7 HS2
  go_wp2_with fail
  go_ret
  exact ⟨ret_v (x := .bool true) rfl, HB8.out⟩
end Go.Proofs.Ytnkhnfkohnflcaa.Rg
