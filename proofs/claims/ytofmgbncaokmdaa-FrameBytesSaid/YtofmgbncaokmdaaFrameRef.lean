/- Same, Lists and Pack of the document's answers: what they answer; asked: the slices read as bytes. -/
import Derived.Test.YtofmgbncaokmdaaFramePack
import Derived.Test.YtofmgbncaokmdaaLeRefWord
import Derived.Test.YtofmgbncaokmdaaCrcRef
namespace Go.Proofs.Ytofmgbncaokmdaa.Fr
open Go.RowKit Go.Proofs.Ytofmgbncaokmdaa.BM Go.Proofs.Ytofmgbncaokmdaa.LM Go.Proofs.Ytofmgbncaokmdaa.Std Go.Proofs.Ytofmgbncaokmdaa.FrM

set_option maxRecDepth 100000 in
theorem refSame_any (A B : Option Addr) (xs ys : List Int) (c k : Nat) (d f : Bool) (w : World) (h : SlB w A xs c) (g : SlB w B ys k) :
    Calls Try.prog 15 #[frm A xs.length c d, frm B ys.length k f] w fun e w' => e = .returned (.bool (d == f && decide (xs = ys))) ∧ Below w.heap.size w w' := by
  unfold frm
  have hw2 : Below w.heap.size w ((w.alloc (.cells #[.slice A xs.length c, .bool d] 24)).alloc (.cells #[.slice B ys.length k, .bool f] 24)) := ((Below.refl _ w).alloc (Nat.le_refl _) _).alloc (by simp) _
  have h1 := conv_any (h.kept hw2).1 c 9 Try.underlying9
  have h2 := conv_any (g.kept hw2).1 k 9 Try.underlying9
  have HW := Lib.hid hw2
  clear hw2
  by_cases e : xs = ys
  · have hs : ((strOfNums xs).toList == (strOfNums ys).toList) = true := by rw [e]; exact beq_self_eq_true _
    rw [show decide (xs = ys) = true from by simpa using e]
    clear e h g
    cases d <;> cases f
    all_goals
      go_enter Try.func15, Try.ntmps15
      go_wp2_with fail
      go_ret
      exact ⟨rfl, HW.out⟩
  · have hs : ((strOfNums xs).toList == (strOfNums ys).toList) = false := str_ne fun e' => e (str_inj h.1.1 g.1.1 e')
    rw [show decide (xs = ys) = false from by simpa using e]
    clear e h g
    cases d <;> cases f
    all_goals
      go_enter Try.func15, Try.ntmps15
      go_wp2_with fail
      go_ret
      exact ⟨rfl, HW.out⟩

theorem getD_ne {ls ms : List (List Int)} {k : Nat} (h : ls.getD k [] ≠ ms.getD k []) : ls ≠ ms := fun e => h (by rw [e])
theorem getD_all {ls ms : List (List Int)} (hl : ls.length = ms.length) (h : ∀ j, j < ls.length → ls.getD j [] = ms.getD j []) : ls = ms := by
  apply List.ext_getElem hl
  intro j h1 h2
  have := h j h1
  simpa [List.getD_eq_getElem?_getD, h1, h2] using this

set_option maxRecDepth 100000 in
set_option maxHeartbeats 1000000 in
theorem Lists_any {p q : Nat → Prop} (A B : Option Addr) (ls ms : List (List Int)) (c k : Nat) (w : World) (h : IsL p w A c ls) (g : IsL q w B k ms) :
    Calls Try.prog 16 #[.slice A ls.length c, .slice B ms.length k] w fun e w' => e = .returned (.bool (decide (ls = ms))) ∧ Below w.heap.size w w' := by
  have hlm : ls.length ≤ 9223372036854775807 := by have h1 := h.2.1; have h2 := h.2.2.2; unfold maxLen at h2; omega
  have hmm : ms.length ≤ 9223372036854775807 := by have h1 := g.2.1; have h2 := g.2.2.2; unfold maxLen at h2; omega
  by_cases hlen : ls.length = ms.length
  · have HL := Lib.hid hlen
    obtain ⟨n, hn⟩ : ∃ n, n = ls.length := ⟨_, rfl⟩
    rw [← hlen, ← hn]
    rw [← hn] at hlm
    have HN := Lib.hid hn
    have Hh := Lib.hid h
    have Hg := Lib.hid g
    clear hlen hn hmm h g
    go_enter Try.func16, Try.ntmps16
    go_wp2_with fail
    go_loopw [5] (fun i wr => ∃ j : Nat, j ≤ n ∧ i = .int .i64 j ∧ Below w.heap.size w wr ∧ ∀ r, r < j → ls.getD r [] = ms.getD r []) (fun i _ => n - (intOf i).toNat)
    case atStart => exact ⟨0, by omega, rfl, Below.refl _ _, fun r hr => by omega⟩
    case round =>
      obtain ⟨j, hj, rfl, hb, hall⟩ := hrel
      have HB := Lib.hid hb
      have HAll := Lib.hid hall
      clear hb hall
      by_cases hlt : j < n
      · obtain ⟨b1, o1, A1, c1, rfl, hc1, hs1⟩ := Hh.out.at j (by rw [← HN.out]; exact hlt)
        obtain ⟨b2, o2, A2, c2, rfl, hc2, hs2⟩ := Hg.out.at j (by rw [← HL.out, ← HN.out]; exact hlt)
        have hd1 : wr.cell? ⟨b1, o1 + j, none⟩ = some (.slice A1 (ls.getD j []).length c1) := by
          rw [HB.out.cell (p := ⟨b1, o1 + j, none⟩) (World.block_lt_of_cell? w _ hc1)]
          exact hc1
        have hd2 : wr.cell? ⟨b2, o2 + j, none⟩ = some (.slice A2 (ms.getD j []).length c2) := by
          rw [HB.out.cell (p := ⟨b2, o2 + j, none⟩) (World.block_lt_of_cell? w _ hc2)]
          exact hc2
        have hk1 := hs1.kept HB.out
        have hk2 := hs2.kept HB.out
        obtain ⟨x, hx⟩ : ∃ x, x = ls.getD j [] := ⟨_, rfl⟩
        obtain ⟨y, hy⟩ : ∃ y, y = ms.getD j [] := ⟨_, rfl⟩
        rw [← hx] at hd1 hk1
        rw [← hy] at hd2 hk2
        have cv1 := fun q => conv_any (w := wr.drewN q) (hk1.kept (below_drewN (Below.refl _ wr) q)).1 c1 9 Try.underlying9
        have cv2 := fun q => conv_any (w := wr.drewN q) (hk2.kept (below_drewN (Below.refl _ wr) q)).1 c2 9 Try.underlying9
        have HX := Lib.hid hx
        have HY := Lib.hid hy
        clear hc1 hc2 hs1 hs2 hx hy
        by_cases e : x = y
        · have hs : ((strOfNums x).toList == (strOfNums y).toList) = true := by rw [e]; exact beq_self_eq_true _
          have HE := Lib.hid e
          clear e hk1 hk2
          go_wp2_with fail
          go_quiet (fail)
          go_wp2_with fail
          go_roundw
          case rel =>
            refine ⟨j + 1, by omega, by go_num, below_drewN HB.out _, fun r hr => ?_⟩
            by_cases hrj : r < j
            · exact HAll.out r hrj
            · obtain rfl : r = j := by omega
              rw [← HX.out, ← HY.out]
              exact HE.out
          case measure => simp [intOf]; omega
        · have hne := fun e' => e (str_inj hk1.1.1 hk2.1.1 e')
          have hs : ((strOfNums x).toList == (strOfNums y).toList) = false := str_ne hne
          have HE := Lib.hid (show decide (ls = ms) = false from by simpa using getD_ne (by rw [← HX.out, ← HY.out]; exact e))
          clear e hne hk1 hk2
          go_wp2_with fail
          go_quiet (fail)
          go_wp2_with fail
          go_ret
          exact ⟨congrArg (fun b => Ending.returned (.bool b)) HE.out.symm, below_drewN HB.out _⟩
      · obtain rfl : j = n := by omega
        have HE := Lib.hid (show decide (ls = ms) = true from by simpa using getD_all HL.out (by rw [← HN.out]; exact HAll.out))
        go_wp2_with fail
        go_ret
        exact ⟨congrArg (fun b => Ending.returned (.bool b)) HE.out.symm, HB.out⟩
  · have hd : ((ls.length : Int) != (ms.length : Int)) = true := by rw [bne_iff_ne]; omega
    have HE := Lib.hid (show decide (ls = ms) = false from by simpa using fun e => hlen (by rw [e]))
    clear hlen h g
    go_enter Try.func16, Try.ntmps16
    go_wp2_with fail
    go_ret
    exact ⟨congrArg (fun b => Ending.returned (.bool b)) HE.out.symm, Below.refl _ _⟩
end Go.Proofs.Ytofmgbncaokmdaa.Fr
