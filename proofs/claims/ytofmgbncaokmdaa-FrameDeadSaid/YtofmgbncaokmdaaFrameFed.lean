/- Feed of the program at any framer, dead or not; and Same in any later world; asked: the slices read as bytes, and are not too long. -/
import Derived.Test.YtofmgbncaokmdaaFrameFeed
namespace Go.Proofs.Ytofmgbncaokmdaa.Fr
open Go.RowKit Go.Proofs.Ytofmgbncaokmdaa.BM Go.Proofs.Ytofmgbncaokmdaa.LM Go.Proofs.Ytofmgbncaokmdaa.Std Go.Proofs.Ytofmgbncaokmdaa.FrM

set_option maxRecDepth 100000 in
set_option maxHeartbeats 1000000 in
theorem Feed_dead (A B : Option Addr) (xs : List Int) (m c k : Nat) (w : World) (h : SlB w A xs c) (hm : xs.length ≤ 100000000) :
    Calls Try.prog 13 #[frm A xs.length c true, .slice B m k] w (FeedLoc w ⟨true, xs, []⟩) := by
  unfold frm
  have Hc := Lib.hid (fun W hW => Clone_any A xs c W (SlB.kept h hW) hm)
  have hbx := box_new (w.alloc (.cells #[.slice A xs.length c, .bool true] 24)) (.slice none 0 0) (.bool false)
  rw [show (w.alloc (.cells #[.slice A xs.length c, .bool true] 24)).heap.size = w.heap.size + 1 from by simp] at hbx
  have HBX := Lib.hid hbx
  have hw2 : Below w.heap.size w (((w.alloc (.cells #[.slice A xs.length c, .bool true] 24))).alloc (.cells #[.slice none 0 0, .bool false] 24)) := ((Below.refl _ w).alloc (Nat.le_refl _) _).alloc (by simp) _
  have HW2 := Lib.hid hw2
  clear h hbx hw2
  go_enter Try.func13, Try.ntmps13
  go_wp2_with fail
  go_step3
  go_wp2_with fail
  refine (Hc.out _ HW2.out).mono ?_
  rintro e w2 ⟨A2, c2, rfl, h1, h2, h3⟩
  have hz := h3.size
  obtain ⟨f1, f2⟩ := feed_out (v0 := .slice none 0 0) (v1 := .bool false) (V := none) (k := 0) (vs := []) (fs := []) true (bt HW2.out h3) (HBX.out.kept h3) (fun h => by simp at h) (Nat.le_refl _) (fun _ => rfl) (Nat.zero_le _) (fun a ha => by cases ha) trivial h1 (fun a ha => by
    have := (h2 a ha).2.1
    simp at this
    omega)
  rw [List.length_nil] at f1
  obtain ⟨b0, b1, b2, b3⟩ := HBX.out.kept h3
  obtain ⟨r0, r1, _, _⟩ := f2
  have F1 := Lib.hid f1
  have R0 := Lib.hid r0
  have R1 := Lib.hid r1
  clear f1 r0 r1 h1 h2 h3 hz
  go_wp2_with fail
  try rw [Exit.noGoto_ret]
  obtain ⟨W3, hW3⟩ : ∃ W3, W3 = (w2.setCell ⟨w.heap.size + 1, 0, none⟩ (.slice A2 xs.length c2)).setCell ⟨w.heap.size + 1, 1, none⟩ (.bool true) := ⟨_, rfl⟩
  rw [← hW3] at F1 R0 R1 ⊢
  have r0 := R0.out
  have r1 := R1.out
  clear hW3 b0 b1 b2 b3
  exact bodyPost_ret (v := .tuple #[.agg #[.slice A2 xs.length c2, .bool true], .slice none 0 0]) (by simp [results, Try.results13, go_sem, r0, r1]) rfl F1.out

theorem Feed_any (d : Bool) (A B : Option Addr) (xs ys : List Int) (c k : Nat) (w : World) (h : SlB w A xs c) (g : SlB w B ys k) (hm : xs.length + ys.length ≤ 100000000) :
    Calls Try.prog 13 #[frm A xs.length c d, .slice B ys.length k] w (FeedLoc w (feed' d xs ys)) := by
  cases d with
  | true => exact Feed_dead A B xs ys.length c k w h (by omega)
  | false => exact Feed_all A B xs ys (xs ++ ys) c k w h g hm rfl
end Go.Proofs.Ytofmgbncaokmdaa.Fr
