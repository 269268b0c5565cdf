/- slices.Clone of fields; asked: they lie where the slice says, and there is memory for as many again. -/
import Derived.Test.YtnkhnfkohnflcaaSchemaFcs
namespace Go.Proofs.Ytnkhnfkohnflcaa.Sc
open Go.RowKit Go.Proofs.Ytnkhnfkohnflcaa.BM Go.Proofs.Ytnkhnfkohnflcaa.VaM Go.Proofs.Ytnkhnfkohnflcaa.Va Go.Proofs.Ytnkhnfkohnflcaa.ScM

/-- Is there memory for as many fields again? -/
def Room (l : List F) : Prop := l.length * 24 ≤ 140737488351232

/-- Fields in a block that was not there. -/
def Own (H : Nat) (w : World) (A : Option Addr) (l : List F) (c : Nat) : Prop := SlF w A l c ∧ ∀ a, A = some a → H ≤ a.block

theorem Own.kept {H : Nat} {w w' : World} {A : Option Addr} {l : List F} {c : Nat} (h : Own H w A l c) (hb : Below w.heap.size w w') : Own H w' A l c := ⟨h.1.kept hb, h.2⟩
theorem Own.low {H K : Nat} {w : World} {A : Option Addr} {l : List F} {c : Nat} (h : Own H w A l c) (hk : K ≤ H) : Own K w A l c := ⟨h.1, fun a ha => Nat.le_trans hk (h.2 a ha)⟩

set_option maxRecDepth 100000 in
set_option maxHeartbeats 1000000 in
theorem CloneF_any (l : List F) (A : Option Addr) (c : Nat) (w : World) (h : SlF w A l c) (hr : Room l) :
    Calls Try.prog 39 #[.slice A l.length c] w fun e w' => ∃ A' c', e = .returned (.slice A' l.length c') ∧ Own w.heap.size w' A' l c' ∧ Below w.heap.size w w' := by
  cases A with
  | none =>
    obtain rfl := h.2.2.1 rfl
    have hl0 : l.length = 0 := by have := h.2.1; omega
    obtain rfl : l = [] := List.eq_nil_of_length_eq_zero hl0
    have hq : ∀ W, (binOp .eql 23 (.slice none 0 0) (.slice none 0 0)).run Try.prog W = .ok (.bool true) W := fun W => by kernel_rfl
    clear h hl0 hr
    rw [List.length_nil]
    go_enter Try.func39, Try.ntmps39
    go_wp2_with fail
    go_ret
    exact ⟨none, 0, rfl, ⟨slF_none _, fun a ha => by cases ha⟩, Below.refl _ _⟩
  | some ad =>
    have hown := World.ownsRow_lit (e := 39) (base := w.heap.size) (size := 2) w #[] 0 (Nat.le_refl _) (Nat.zero_le _) rfl
    have hb1 := (Below.refl w.heap.size w).alloc (Nat.le_refl _) (.cells #[] 39)
    have HR := Lib.hid (h.kept hb1).1
    have HN := Lib.hid h.2.2.2.2
    have hz := hb1.size
    have HO := Lib.hid hown
    have HB1 := Lib.hid hb1
    unfold Room at hr
    obtain ⟨n, hn⟩ : ∃ n, n = l.length := ⟨_, rfl⟩
    rw [← hn] at hr ⊢
    have HL := Lib.hid hn
    have hq : ∀ W, (binOp .eql 23 (.slice (some ad) n c) (.slice none 0 0)).run Try.prog W = .ok (.bool false) W := fun W => by kernel_rfl
    clear hown hb1 h hn
    go_enter Try.func39, Try.ntmps39
    go_wp2_with (at_builtin; refine wp_append_fb rfl (.tmp 5) (.tmp 6) rfl w.heap.size _ 0 [] rfl HO.out (some ad) n c l rfl HL.out.symm HR.out (fun h => by cases h) (by omega) hz ?_; intro u4 w4 hown4 hgrow4; refine pause ?_)
    rw [Nat.zero_add, List.nil_append] at hown4
    obtain ⟨A4, c4, rfl, _, hs4, hb4⟩ := own_slF hown4 HN.out
    have HF := Lib.hid (show Own w.heap.size w4 A4 l c4 from ⟨hs4, fun a ha => (hb4 a ha).1⟩)
    have HB4 := Lib.hid (HB1.out.grown hgrow4 hz (fun q hq => by injection hq with hq; simp only at hq; omega))
    rw [← HL.out]
    clear hown4 hgrow4 hs4 hb4
    unfold Pause
    go_wp2_with fail
    go_ret
    exact ⟨A4, c4, rfl, HF.out, HB4.out⟩
end Go.Proofs.Ytnkhnfkohnflcaa.Sc
