/- The examples' check of the statements of layer 3: it answers true, and writes nothing that was there; nothing is asked. -/
import Derived.Test.YtofmgbncaokmdaaFrameFed
namespace Go.Proofs.Ytofmgbncaokmdaa.Fr
open Go.RowKit Go.Proofs.Ytofmgbncaokmdaa.BM Go.Proofs.Ytofmgbncaokmdaa.LM Go.Proofs.Ytofmgbncaokmdaa.Std Go.Proofs.Ytofmgbncaokmdaa.FrM

/-- Feed at once, or later. -/
theorem Feed_later (d : Bool) (A B : Option Addr) (xs ys : List Int) (n m c k : Nat) (w : World) (h : SlB w A xs c) (g : SlB w B ys k) (hn : xs.length = n) (hk : ys.length = m) (hm : n + m ≤ 100000000) (r : R) (hr : feed' d xs ys = r) :
    ∀ W, Below w.heap.size w W → Calls Try.prog 13 #[.agg #[.slice A n c, .bool d], .slice B m k] W (FeedRes W r) := by
  subst hn
  subst hk
  subst hr
  intro W hW
  exact (Feed_any d A B xs ys c k W (h.kept hW) (g.kept hW) hm).mono fun _ _ h => h.res

/-- A constant row of bytes. -/
theorem slB_lit (w : World) (xs : List Int) (h : CrcM.Bytes xs) (hm : xs.length ≤ 100000000) : SlB (w.alloc (.cells (cs xs).toArray 5)) (some ⟨w.heap.size, 0, none⟩) xs xs.length :=
  ⟨isB_new w xs h, Nat.le_refl _, (fun h => by cases h), by unfold maxLen; omega⟩

set_option maxRecDepth 100000 in
set_option maxHeartbeats 1000000 in
theorem awake_any (w : World) : Calls Try.prog 10 #[] w fun e w' => e = .returned (.bool true) ∧ Below w.heap.size w w' := by
  have hp := Pack_yes none [] 0 w (slB_none w) (by decide)
  rw [pk_nil] at hp
  have HP := Lib.hid hp
  clear hp
  go_enter Try.func10, Try.ntmps10
  go_wp2_with fail
  refine HP.out.mono ?_
  rintro e w1 ⟨A1, c1, rfl, h1, _, hB1⟩
  have HB1 := Lib.hid hB1
  have HF := Lib.hid (Feed_later false none A1 [] [0, 0, 0, 0, 0, 0, 0, 0] 0 8 0 c1 w1 (slB_none w1) h1 rfl rfl (by decide) ⟨false, [], [[]]⟩ feed_zero w1 (Below.refl _ _))
  clear h1 hB1 HP
  go_wp2_with fail
  refine HF.out.mono ?_
  rintro e w2 ⟨A2, c2, V2, k2, rfl, h2, hl2, hB2⟩
  simp only [frm, List.length_nil, List.length_cons, Nat.zero_add]
  have hbx2 := box_new w2 (.slice A2 0 c2) (.bool false)
  have ha2 := (Below.refl w2.heap.size w2).alloc (Nat.le_refl _) (.cells #[.slice A2 0 c2, .bool false] 24)
  have hr4 := slB_lit (w2.alloc (.cells #[.slice A2 0 c2, .bool false] 24)) [1, 0, 0, 0, 0, 0, 0, 0, 7] (by intro x hx; simp at hx; omega) (by decide)
  have ha4 := (Below.refl (w2.alloc (.cells #[.slice A2 0 c2, .bool false] 24)).heap.size (w2.alloc (.cells #[.slice A2 0 c2, .bool false] 24))).alloc (Nat.le_refl _) (.cells (cs [1, 0, 0, 0, 0, 0, 0, 0, 7]).toArray 5)
  have hz3 : (w2.alloc (.cells #[.slice A2 0 c2, .bool false] 24)).heap.size = w2.heap.size + 1 := by simp
  rw [hz3] at hr4
  have HG := Lib.hid (Feed_later false none _ [] [1, 0, 0, 0, 0, 0, 0, 0, 7] 0 9 0 9 _ (slB_none _) hr4 rfl rfl (by decide) ⟨true, [], []⟩ feed_seven _ (Below.refl _ _))
  have HB4 := Lib.hid (bt (bt (bt HB1.out hB2) ha2) ha4)
  have HBX4 := Lib.hid (hbx2.kept ha4)
  have HL4 := Lib.hid ((hl2.kept ha2).kept ha4)
  have HS4 := Lib.hid ((h2.kept ha2).kept ha4)
  clear hbx2 ha2 hr4 ha4 hz3 hB2 hl2 h2
  go_wp2_with fail
  refine HG.out.mono ?_
  rintro e w5 ⟨A5, c5, V5, k5, rfl, h5, hl5, hB5⟩
  simp only [frm, List.length_nil]
  have ha6 := (Below.refl w5.heap.size w5).alloc (Nat.le_refl _) (.cells #[.slice A5 0 c5, .bool true] 24)
  have hb5 := HBX4.out.kept hB5
  have hb6 := hb5.kept ha6
  have hlt2 : w2.heap.size < w5.heap.size := hb5.lt
  obtain ⟨n0, n1, _, _⟩ := box_new w5 (.slice A5 0 c5) (.bool true)
  obtain ⟨b, o, A', c', hV, hcell, hsl⟩ := (HL4.out.kept hB5).at 0 (by decide)
  have hcell6 : (w5.alloc (.cells #[.slice A5 0 c5, .bool true] 24)).cell? ⟨b, o + 0, none⟩ = some (.slice A' 0 c') := by
    rw [ha6.cell (p := ⟨b, o + 0, none⟩) (World.block_lt_of_cell? w5 _ hcell)]
    exact hcell
  subst hV
  have hblt : b < w5.heap.size := World.block_lt_of_cell? w5 _ hcell
  have hc0 : w5.cell? ⟨b, o, none⟩ = some (.slice A' 0 c') := hcell
  have HS := Lib.hid (Same_any A2 none [] [] c2 0 false false _ ((HS4.out.kept hB5).kept ha6) (slB_none _))
  have HBe := Lib.hid (bt (bt HB4.out hB5) ha6)
  obtain ⟨p0, p1, p2, p3⟩ := hb5
  obtain ⟨q0, q1, q2, q3⟩ := hb6
  clear ha6 hcell h5 hl5 hB5 HBX4 HL4 HS4 HB4 HB1 hsl HG HF
  simp only [frm, List.length_nil] at HS
  go_wp2_with fail
  refine HS.out.mono ?_
  rintro e w7 ⟨rfl, h7⟩
  have hB7 := bt HBe.out h7
  clear h7
  go_wp2_with fail
  go_ret
  exact ⟨ret_bool (by simp), hB7⟩
end Go.Proofs.Ytofmgbncaokmdaa.Fr
