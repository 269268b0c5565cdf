/- The chapter's example holds; no condition. -/
import Derived.Test.YtkjfofljjgifdaaValueGet
import Derived.Test.YtkjfofljjgifdaaValuePut
import Derived.Test.YtkjfofljjgifdaaValueOrd
namespace Go.Proofs.Ytkjfofljjgifdaa.Va
open Go.RowKit Go.Proofs.Ytkjfofljjgifdaa.BM Go.Proofs.Ytkjfofljjgifdaa.LM Go.Proofs.Ytkjfofljjgifdaa.LeM Go.Proofs.Ytkjfofljjgifdaa.LeZ Go.Proofs.Ytkjfofljjgifdaa.VaM

set_option maxRecDepth 100000 in
set_option maxHeartbeats 2000000 in
theorem awake_any (w : World) : Calls Try.prog 10 #[] w fun e w' => e = .returned (.bool true) ∧ Below w.heap.size w w' := by
  have hm : May ⟨0, -1, e0⟩ := Or.inr ⟨rfl, Or.inl rfl⟩
  have hput := fun W => Put_any 0 (-1) ⟨#[]⟩ W ⟨by decide, by decide⟩
  have hpv : pv ⟨0, -1, ⟨#[]⟩⟩ = [0, 1] := by
    rw [pv, if_pos (show May ⟨0, -1, ⟨#[]⟩⟩ from hm), putV, show num ⟨0, -1, ⟨#[]⟩⟩ = 1 from rfl, putL_lt (by decide)]
    rfl
  have hgp : gotP (getP [0, 1]) = (⟨0, -1, e0⟩, 2, true) := by
    rw [show getP [0, 1] = getB 0 [1] (getS [1]) from rfl, show getS [1] = some (1, 1) from by decide]
    rfl
  have hless := fun W => Less_any ⟨2, 0, ⟨#[97]⟩⟩ ⟨2, 0, ⟨#[97, 98]⟩⟩ W
  have hcan : can ⟨2, 0, ⟨#[97]⟩⟩ ⟨2, 0, ⟨#[97, 98]⟩⟩ = true := decide_eq_true ⟨Or.inl ⟨rfl, rfl, by decide⟩, Or.inl ⟨rfl, rfl, by decide⟩, rfl⟩
  have hlt : lt ⟨2, 0, ⟨#[97]⟩⟩ ⟨2, 0, ⟨#[97, 98]⟩⟩ = true := by rw [lt_s rfl, bls_bl]; rfl
  simp only [hcan, hlt, Bool.and_self] at hless
  have HP := Lib.hid hput
  have HPv := Lib.hid hpv
  have HG := Lib.hid hgp
  have HL := Lib.hid hless
  have HM := Lib.hid hm
  clear hput hpv hgp hless hcan hlt hm
  go_enter Try.func10, Try.ntmps10
  go_wp2_with fail
  refine (HP.out _).mono ?_
  rintro e w1 ⟨A, c, rfl, h1, _, hb1⟩
  rw [HPv.out] at h1 ⊢
  rw [decide_eq_true (show May ⟨0, -1, ⟨#[]⟩⟩ from HM.out)]
  obtain ⟨b, o, rfl, hcell⟩ := h1.1.2 (by decide)
  have c0 := hcell 0 (by decide)
  have c1 := hcell 1 (by decide)
  have HS := Lib.hid h1
  have HB1 := Lib.hid hb1
  have HC0 := Lib.hid c0
  have HC1 := Lib.hid c1
  have hlen : ([0, 1] : List Int).length = 2 := rfl
  rw [hlen]
  have hget := Get_any (some ⟨b, o, none⟩) [0, 1] c w1 h1
  rw [hlen] at hget
  have HGet := Lib.hid hget
  clear hget h1 hb1 hcell c0 c1 hlen
  go_wp2_with fail
  refine HGet.out.mono ?_
  rintro e w2 ⟨rfl, hb2⟩
  rw [HG.out]
  simp only [got3]
  have HB2 := Lib.hid (bt HB1.out (bt hb2 ((Below.refl w2.heap.size w2).alloc (Nat.le_refl _) (.cells #[.int .i64 0, .int .i64 (-1), .string e0] 23))))
  have HX2 := Lib.hid (bx_new w2 (.int .i64 0) (.int .i64 (-1)) (.string e0))
  have d0 := hb2.cell (p := ⟨b, o + 0, none⟩) (World.block_lt_of_cell? w1 _ HC0.out)
  have d1 := hb2.cell (p := ⟨b, o + 1, none⟩) (World.block_lt_of_cell? w1 _ HC1.out)
  rw [HC0.out] at d0
  rw [HC1.out] at d1
  have HD0 := Lib.hid d0
  have HD1 := Lib.hid d1
  clear hb2 d0 d1
  go_wp2_with fail
  refine (HL.out _).mono ?_
  rintro e w3 ⟨rfl, hb3⟩
  have HB3 := Lib.hid (bt HB2.out hb3)
  obtain ⟨⟨q0, q1, q2⟩, _⟩ := HX2.out.kept hb3
  have ha2 := (Below.refl w2.heap.size w2).alloc (Nat.le_refl _) (.cells #[.int .i64 0, .int .i64 (-1), .string e0] 23)
  have d0 := (bt ha2 hb3).cell (p := ⟨b, o + 0, none⟩) (World.block_lt_of_cell? w2 _ HD0.out)
  have d1 := (bt ha2 hb3).cell (p := ⟨b, o + 1, none⟩) (World.block_lt_of_cell? w2 _ HD1.out)
  rw [HD0.out, Nat.add_zero, List.getD_cons_zero] at d0
  rw [HD1.out, List.getD_cons_succ, List.getD_cons_zero] at d1
  have HMay := Lib.hid (fun W => May_any 0 (-1) e0 W)
  clear ha2 hb3
  go_wp2_with fail
  refine (HMay.out _).mono ?_
  rintro e w4 ⟨rfl, hb4⟩
  rw [decide_eq_true HM.out]
  have HB4 := Lib.hid (bt HB3.out hb4)
  clear hb4
  go_wp2_with fail
  go_ret
  exact ⟨ret_bool (by first | rfl | simp), HB4.out⟩
end Go.Proofs.Ytkjfofljjgifdaa.Va
