/- Pack of the program: what it answers of any bytes; asked: a slice reads as bytes. -/
import Derived.Test.YtofmgbncaokmdaaFrameFns
import Derived.Test.YtofmgbncaokmdaaCrcLater
namespace Go.Proofs.Ytofmgbncaokmdaa.Fr
open Go.RowKit Go.Proofs.Ytofmgbncaokmdaa.BM Go.Proofs.Ytofmgbncaokmdaa.LM Go.Proofs.Ytofmgbncaokmdaa.Std Go.Proofs.Ytofmgbncaokmdaa.FrM

/-- Slices in a row of the call's own. -/
theorem isRow_new (w : World) (vs : List Value) : IsRow (w.alloc (.cells vs.toArray 22)) (some ⟨w.heap.size, 0, none⟩) vs := by
  intro _
  refine ⟨w.heap.size, 0, rfl, fun j u hj => ?_⟩
  rw [World.cell?_alloc_at (hn := rfl), Nat.zero_add]
  simpa using hj

theorem el_any {w : World} {A : Option Addr} {xs : List Int} {c : Nat} (h : SlB w A xs c) : El (fun _ => True) w (.slice A xs.length c) xs := by
  refine ⟨A, c, rfl, h, fun hx => ?_⟩
  obtain ⟨b, o, e, hc⟩ := h.1.2 hx
  exact ⟨b, o, e, trivial, World.block_lt_of_cell? w _ (hc 0 hx)⟩

theorem slB_word {w : World} {n : Int} {B : Nat} (h : IsB w (some ⟨B, 0, none⟩) (LeG.wordL n)) : SlB w (some ⟨B, 0, none⟩) (wd n) 4 := ⟨h, Nat.le_refl _, (fun h => by cases h), by decide⟩

set_option maxRecDepth 100000 in
theorem Pack_no (A : Option Addr) (len c : Nat) (w : World) (h : 512 < len) (hm : len ≤ 9223372036854775807) :
    Calls Try.prog 11 #[.slice A len c] w fun e w' => e = .returned (.tuple #[.slice none 0 0, .bool false]) ∧ w = w' := by
  go_enter Try.func11, Try.ntmps11
  go_wp2_with fail
  go_ret2
  exact ⟨rfl, rfl⟩

set_option maxRecDepth 100000 in
set_option maxHeartbeats 1000000 in
theorem Pack_yes (A : Option Addr) (xs : List Int) (c : Nat) (w : World) (h : SlB w A xs c) (hl : xs.length ≤ 512) :
    Calls Try.prog 11 #[.slice A xs.length c] w fun e w' => ∃ A' c', e = .returned (.tuple #[.slice A' (pk xs).length c', .bool true]) ∧ SlB w' A' (pk xs) c' ∧ (∀ a, A' = some a → a.spot = none ∧ w.heap.size ≤ a.block ∧ a.block < w'.heap.size) ∧ Below w.heap.size w w' := by
  have hlt := CrcM.next_lt 0 xs
  obtain ⟨L, hL⟩ : ∃ L, L = xs.length := ⟨_, rfl⟩
  obtain ⟨n, hn⟩ : ∃ n, n = CrcM.next 0 xs := ⟨_, rfl⟩
  have HW1 := Lib.hid (LeG.Word_mem (L : Int) w (by omega) (by omega))
  have hof := Crc.Of_later A xs L c w hL.symm (by omega) h.1
  rw [← hn] at hof hlt
  have HOf := Lib.hid hof
  have HW2 := Lib.hid (fun W => LeG.Word_mem (n : Int) W (by omega) (by omega))
  rw [← hL] at hl ⊢
  have HL := Lib.hid hL
  have HN := Lib.hid hn
  have HX := Lib.hid h
  have hpk : pk xs = wd (L : Int) ++ wd (n : Int) ++ xs := by rw [pk, ← hL, ← hn]
  have HP := Lib.hid hpk
  clear hof hL hn h hpk
  go_enter Try.func11, Try.ntmps11
  go_wp2_with fail
  refine HW1.out.mono ?_
  rintro e w1 ⟨rfl, hb1, hB1⟩
  have HB1 := Lib.hid hB1
  have Hb1 := Lib.hid hb1
  have hg1 : w.heap.size < w1.heap.size := by
    obtain ⟨b, o, e, hc⟩ := hb1.2 (by simp [LeG.wordL])
    injection e with e
    injection e with e1 e2
    have := World.block_lt_of_cell? w1 _ (hc 0 (by simp [LeG.wordL]))
    rw [← e1] at this
    exact this
  clear hB1 hb1
  go_wp2_with fail
  refine (HOf.out _ HB1.out).mono ?_
  rintro e w2 ⟨rfl, hB2⟩
  have HB2 := Lib.hid hB2
  clear hB2
  go_wp2_with fail
  refine (HW2.out _).mono ?_
  rintro e w3 ⟨rfl, hb3, hB3⟩
  have HB3 := Lib.hid hB3
  have Hb3 := Lib.hid hb3
  clear hB3 hb3
  have hall : IsL (fun _ => True) (w3.alloc (.cells #[.slice (some ⟨w.heap.size, 0, none⟩) 4 4, .slice (some ⟨w2.heap.size, 0, none⟩) 4 4, .slice A L c] 22)) (some ⟨w3.heap.size, 0, none⟩) 3 [wd (L : Int), wd (n : Int), xs] := by
    have ha := (Below.refl w3.heap.size w3).alloc (Nat.le_refl _) (.cells #[.slice (some ⟨w.heap.size, 0, none⟩) 4 4, .slice (some ⟨w2.heap.size, 0, none⟩) 4 4, .slice A L c] 22)
    have h12 := bt HB2.out HB3.out
    refine ⟨⟨_, isRow_new w3 [.slice (some ⟨w.heap.size, 0, none⟩) 4 4, .slice (some ⟨w2.heap.size, 0, none⟩) 4 4, .slice A L c], ?_, ?_, ?_, trivial⟩, Nat.le_refl _, (fun h => by cases h), by decide⟩
    · exact (el_any (slB_word (isB_kept Hb1.out h12))).kept ha
    · exact (el_any (slB_word Hb3.out)).kept ha
    · have hx := el_any (HX.out.kept (bt HB1.out h12))
      rw [← HL.out] at hx
      exact hx.kept ha
  have HC := Lib.hid (Concat_any _ _ _ _ hall (by simp [wd]; have := HL.out; omega))
  have HBa := Lib.hid (bt (bt (bt HB1.out HB2.out) HB3.out) ((Below.refl w3.heap.size w3).alloc (Nat.le_refl _) (.cells #[.slice (some ⟨w.heap.size, 0, none⟩) 4 4, .slice (some ⟨w2.heap.size, 0, none⟩) 4 4, .slice A L c] 22)))
  clear hall
  go_wp2_with fail
  refine HC.out.mono ?_
  rintro e w4 ⟨v, rfl, hown, hB4⟩
  have ef : ([wd (L : Int), wd (n : Int), xs] : List (List Int)).flatten = pk xs := by rw [HP.out]; simp
  rw [ef] at hown
  obtain ⟨A', c', rfl, _, h2, h3⟩ := own_slB hown (pk_bytes HX.out.1.1 (by have := HL.out; omega))
  have hB5 := bt HBa.out hB4
  have hfar : ∀ a, A' = some a → a.spot = none ∧ w.heap.size ≤ a.block ∧ a.block < w4.heap.size := fun a ha => ⟨(h3 a ha).1, Nat.le_trans HBa.out.size (h3 a ha).2.1, (h3 a ha).2.2⟩
  have H2 := Lib.hid h2
  have H5 := Lib.hid hB5
  have HF := Lib.hid hfar
  clear h2 h3 hB5 hB4 hown ef hfar
  go_wp2_with fail
  go_ret2
  exact ⟨A', c', rfl, H2.out, HF.out, H5.out⟩
end Go.Proofs.Ytofmgbncaokmdaa.Fr
