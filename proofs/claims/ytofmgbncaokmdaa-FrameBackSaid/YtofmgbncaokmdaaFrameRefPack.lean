/- Pack of the document's answers: what it answers of any bytes; asked: a slice reads as bytes. -/
import Derived.Test.YtofmgbncaokmdaaFrameRef
import Derived.Test.YtofmgbncaokmdaaFrameFed
namespace Go.Proofs.Ytofmgbncaokmdaa.Fr
open Go.RowKit Go.Proofs.Ytofmgbncaokmdaa.BM Go.Proofs.Ytofmgbncaokmdaa.LM Go.Proofs.Ytofmgbncaokmdaa.Std Go.Proofs.Ytofmgbncaokmdaa.FrM

set_option maxRecDepth 100000 in
theorem refPack_no (A : Option Addr) (len c : Nat) (w : World) (h : 512 < len) (hm : len ≤ 9223372036854775807) :
    Calls Try.prog 12 #[.slice A len c] w fun e w' => e = .returned (.tuple #[.slice none 0 0, .bool false]) ∧ w = w' := by
  go_enter Try.func12, Try.ntmps12
  go_wp2_with fail
  go_ret2
  exact ⟨rfl, rfl⟩

set_option maxRecDepth 100000 in
set_option maxHeartbeats 1000000 in
theorem refPack_yes (A : Option Addr) (xs : List Int) (c : Nat) (w : World) (h : SlB w A xs c) (hl : xs.length ≤ 512) :
    Calls Try.prog 12 #[.slice A xs.length c] w fun e w' => ∃ A' c', e = .returned (.tuple #[.slice A' (pk xs).length c', .bool true]) ∧ SlB w' A' (pk xs) c' ∧ Below w.heap.size w w' := by
  have hlt := CrcM.next_lt 0 xs
  obtain ⟨L, hL⟩ : ∃ L, L = xs.length := ⟨_, rfl⟩
  obtain ⟨n, hn⟩ : ∃ n, n = CrcM.next 0 xs := ⟨_, rfl⟩
  have HW1 := Lib.hid (LeG.refWord_own (L : Int) w (by omega) (by omega))
  have hof := fun W (hW : Below w.heap.size w W) => Crc.ROf_any A xs c W (by omega) (isB_kept h.1 hW)
  rw [← hL] at hof
  rw [← hn] at hof hlt
  have HOf := Lib.hid hof
  have HW2 := Lib.hid (fun W => LeG.refWord_own (n : Int) W (by omega) (by omega))
  rw [← hL] at hl ⊢
  have HL := Lib.hid hL
  have HN := Lib.hid hn
  have HX := Lib.hid h
  have hpk : pk xs = wd (L : Int) ++ wd (n : Int) ++ xs := by rw [pk, ← hL, ← hn]
  have HP := Lib.hid hpk
  have Hb1 := Lib.hid ((Below.refl w.heap.size w).alloc (Nat.le_refl _) (.cells (cs (LeG.wordL (L : Int))).toArray 5))
  clear hof hL hn h hpk
  go_enter Try.func12, Try.ntmps12
  go_wp2_with fail
  refine HW1.out.mono ?_
  rintro e w1 ⟨rfl, rfl⟩
  go_wp2_with fail
  refine (HOf.out _ Hb1.out).mono ?_
  rintro e w2 ⟨rfl, rfl⟩
  have hown1 := World.ownsRow_lit (base := w.heap.size) (e := 5) (size := 1) w (cs (LeG.wordL (L : Int))).toArray 4 (Nat.le_refl _) (by decide) (by simp [cs, LeG.wordL])
  have HOwn1 := Lib.hid hown1
  obtain ⟨w1, hw1⟩ : ∃ w1, w1 = w.alloc (.cells (cs (LeG.wordL (L : Int))).toArray 5) := ⟨_, rfl⟩
  rw [← hw1] at HOwn1 Hb1 ⊢
  have hz1 : w1.heap.size = w.heap.size + 1 := by rw [hw1]; simp
  have HZ1 := Lib.hid hz1
  clear hown1 hw1 hz1
  go_wp2_with fail
  refine (HW2.out _).mono ?_
  rintro e w2 ⟨rfl, hw2⟩
  have hb2 : Below w1.heap.size w1 w2 := by rw [← hw2]; exact (Below.refl _ _).alloc (Nat.le_refl _) _
  have hB2 : IsB w2 (some ⟨w1.heap.size, 0, none⟩) (LeG.wordL (n : Int)) := by rw [← hw2]; exact isB_new w1 _ (LeG.wordL_bytes (by omega) (by omega))
  have hown2 := own_below HOwn1.out hb2
  have Hb2 := Lib.hid hb2
  have HB2 := Lib.hid hB2
  have HOwn2 := Lib.hid hown2
  have hsz2 := hb2.size
  have hsz1 : w.heap.size ≤ w1.heap.size := by have := HZ1.out; omega
  clear hb2 hB2 hown2 hw2
  go_wp2_with (at_builtin; refine wp_append_b rfl (.tmp 11) (.tmp 14) rfl w.heap.size _ 4 (LeG.wordL (L : Int)) rfl HOwn2.out (some ⟨w1.heap.size, 0, none⟩) 4 4 (LeG.wordL (n : Int)) rfl rfl HB2.out (fun h => by cases h) (by omega) (by omega) ?_; intro v1 w3 hown3 hgrow3; refine pause ?_)
  have hB3 : Below w.heap.size w w3 := (bt Hb1.out Hb2.out).grown hgrow3 (by omega) (fun q hq => (HOwn2.out.lt q hq).1)
  have HOwn3 := Lib.hid hown3
  have HB3 := Lib.hid hB3
  have hX3 := HX.out.kept hB3
  have hsz3 := hB3.size
  have HX3 := Lib.hid hX3
  clear hown3 hB3 hgrow3 hX3
  unfold Pause
  go_wp2_with (at_builtin; refine wp_append_b rfl (.tmp 16) (.tmp 17) rfl w.heap.size v1 (4 + 4) (LeG.wordL (L : Int) ++ LeG.wordL (n : Int)) rfl HOwn3.out A L c xs rfl HL.out.symm HX3.out.1 HX3.out.2.2.1 (by omega) (by omega) ?_; intro v2 w4 hown4 hgrow4; refine pause ?_)
  have hB4 : Below w.heap.size w w4 := HB3.out.grown hgrow4 (by omega) (fun q hq => (HOwn3.out.lt q hq).1)
  have hP : LeG.wordL (L : Int) ++ LeG.wordL (n : Int) ++ xs = pk xs := by rw [HP.out]; rfl
  rw [hP] at hown4
  obtain ⟨A', c', rfl, hl4, h2, _⟩ := own_slB hown4 (pk_bytes HX.out.1.1 (by have := HL.out; omega))
  have H2 := Lib.hid h2
  have HB4 := Lib.hid hB4
  clear h2 hB4 hP hown4 hgrow4 hl4
  unfold Pause
  go_wp2_with fail
  go_ret2
  exact ⟨A', c', rfl, H2.out, HB4.out⟩
end Go.Proofs.Ytofmgbncaokmdaa.Fr
