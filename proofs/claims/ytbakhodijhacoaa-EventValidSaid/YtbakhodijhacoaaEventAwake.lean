/- The chapter's example holds; nothing is asked. -/
import Derived.Test.YtbakhodijhacoaaEventGet
import Derived.Test.YtbakhodijhacoaaEventPut
import Derived.Test.YtbakhodijhacoaaEventValid
namespace Go.Proofs.Ytbakhodijhacoaa.Ev
open Go.RowKit Go.Proofs.Ytbakhodijhacoaa.BM Go.Proofs.Ytbakhodijhacoaa.LM Go.Proofs.Ytbakhodijhacoaa.LeM Go.Proofs.Ytbakhodijhacoaa.EvM
open Go.Proofs.Ytbakhodijhacoaa.VaM (V e0)
open Go.Proofs.Ytbakhodijhacoaa.Va (SlV slV_none bx_new_t Bx ret_v)
open Go.Proofs.Ytbakhodijhacoaa.Sc (slF_none)

/-- The chapter's example. -/
def ex : Ev := ⟨⟨#[97]⟩, 5, []⟩
def exS : ScM.Sc := ⟨⟨#[97]⟩, 1, []⟩
theorem ex_may : May ex := by decide
theorem exS_may : ScM.May exS := by decide
theorem ex_pE : pE ex = [1, 97, 5, 0] := by
  show (putL 1 ++ [97] ++ (putL 5 ++ putL 0)) ++ [] = _
  rw [putL_lt (by decide), putL_lt (by decide), putL_lt (by decide)]
  rfl
theorem ex_pv : pv ex = [1, 97, 5, 0] := by rw [pv, if_pos ex_may, ex_pE]
theorem ex_get : gotE (gE [1, 97, 5, 0]) = (ex, 4, true) := by
  have h := gE_app ex_may (fun x hx => by cases hx) (ys := []) (by simp)
  rw [List.append_nil, ex_pE] at h
  rw [h]
  rfl
theorem ex_valid : valid exS ex = 0 := by
  rw [valid_k ⟨exS_may, ex_may⟩ rfl rfl, if_pos (show Kinds exS.f ex.v from fun i hi => absurd hi (Nat.not_lt_zero i))]

set_option maxRecDepth 100000 in
set_option maxHeartbeats 2000000 in
theorem awake_any (w : World) : Calls Try.prog 9 #[] w fun e w' => e = .returned (.bool true) ∧ Below w.heap.size w w' := by
  have hfine : Fine ex := ⟨by unfold maxLen; decide, by decide, by decide⟩
  have hfineS : Sc.Fine exS := ⟨by unfold maxLen; decide, by decide, by decide⟩
  have hput := fun W => Put_any ex none 0 W (slV_none W) hfine
  have hmy := fun (W : World) (A : Option Addr) (c : Nat) (h : SlV W A ex.v c) => May_any ex A c W h hfine
  have hvl := fun (W : World) (A : Option Addr) (c : Nat) (h : SlV W A ex.v c) => Valid_any exS ex none 0 A c W (slF_none W) h hfineS hfine
  rw [show decide (May ex) = true from decide_eq_true ex_may] at hmy
  rw [ex_valid] at hvl
  have hee : ((ByteArray.mk #[97]).toList == (ByteArray.mk #[97]).toList) = true := by simp
  have HPut := Lib.hid hput
  have HMy := Lib.hid hmy
  have HVl := Lib.hid hvl
  clear hput hmy hvl hfine hfineS
  go_enter Try.func9, Try.ntmps9
  go_wp2_with fail
  refine (HPut.out _).mono ?_
  rintro e w1 ⟨A, c, rfl, hs1, _, hb1⟩
  rw [ex_pv] at hs1 ⊢
  rw [decide_eq_true ex_may]
  have hget := Get_any A [1, 97, 5, 0] c w1 hs1
  obtain ⟨b, o, rfl, hcell⟩ := hs1.1.2 (by decide)
  have HCell := Lib.hid hcell
  have HGet := Lib.hid hget
  have HB1 := Lib.hid hb1
  have hlen : ([1, 97, 5, 0] : List Int).length = 4 := rfl
  rw [hlen] at HGet ⊢
  clear hs1 hb1 hcell hget hlen
  go_wp2_with fail
  refine HGet.out.mono ?_
  rintro e w2 ⟨A2, c2, rfl, hs2, _, hb2⟩
  rw [ex_get] at hs2 ⊢
  simp only [got3, ex] at hs2 ⊢
  have ha3 := (Below.refl w2.heap.size w2).alloc (Nat.le_refl _) (.cells #[.string ⟨#[97]⟩, .int .i64 5, .slice A2 0 c2] 27)
  have HB3 := Lib.hid (bt HB1.out (bt hb2 ha3))
  have hat : ∀ j, j < 4 → (w2.alloc (.cells #[.string ⟨#[97]⟩, .int .i64 5, .slice A2 0 c2] 27)).cell? ⟨b, o + j, none⟩ = some (.int .u8 (([1, 97, 5, 0] : List Int).getD j 0)) := fun j hj => by
    have h1 := HCell.out j hj
    rw [(bt hb2 ha3).cell (p := ⟨b, o + j, none⟩) (World.block_lt_of_cell? w1 _ h1)]
    exact h1
  have c2' := hat 2 (by decide)
  simp only [List.getD_cons_zero, List.getD_cons_succ] at c2'
  have HX3 := Lib.hid (bx_new_t w2 27 (.string ⟨#[97]⟩) (.int .i64 5) (.slice A2 0 c2))
  have HS3 := Lib.hid (hs2.kept ha3)
  have HVl2 := Lib.hid (HVl.out _ A2 c2 HS3.out)
  simp only [ex, exS, List.length_nil] at HVl2
  obtain ⟨⟨x0, x1, x2⟩, _⟩ := HX3.out
  clear hb2 ha3 hat hs2 HGet HCell
  go_wp2_with fail
  refine HVl2.out.mono ?_
  rintro e w4 ⟨rfl, hb4⟩
  have HB4 := Lib.hid (bt HB3.out hb4)
  have HX4 := Lib.hid (HX3.out.kept hb4)
  have HMy2 := Lib.hid (HMy.out w4 A2 c2 (HS3.out.kept hb4))
  simp only [ex, List.length_nil] at HMy2
  clear hb4 HB3 HX3 HS3 x0 x1 x2 c2' HVl2
  obtain ⟨⟨x0, x1, x2⟩, _⟩ := HX4.out
  go_wp2_with fail
  refine HMy2.out.mono ?_
  rintro e w6 ⟨rfl, hb6⟩
  have HB6 := Lib.hid (bt HB4.out hb6)
  clear hb6 x0 x1 x2
  go_wp2_with fail
  go_ret
  exact ⟨ret_v (x := .bool true) rfl, HB6.out⟩
end Go.Proofs.Ytbakhodijhacoaa.Ev
