/- bytes.Clone and bytes.Equal of the library, at any bytes; asked: a slice reads as bytes. -/
import Derived.Test.YtofmgbncaokmdaaLMem
import Derived.Lib.Walk
import Derived.Lib.SliceRun
namespace Go.Proofs.Ytofmgbncaokmdaa.Std
open Go.RowKit Go.Proofs.Ytofmgbncaokmdaa.BM Go.Proofs.Ytofmgbncaokmdaa.LM

theorem nil_b (w : World) (a : Option Addr) (n c n' c' : Nat) : (binOp .eql 22 (.slice a n c) (.slice none n' c')).run Try.prog w = .ok (.bool a.isNone) w := Lib.run_eql_slice_nil w _ _ a n c n' c' Try.underlying22

set_option maxRecDepth 100000 in
theorem Clone_any (A : Option Addr) (xs : List Int) (c : Nat) (w : World) (h : SlB w A xs c) (hm : xs.length ≤ 100000000) :
    Calls Try.prog 23 #[.slice A xs.length c] w fun e w' => ∃ A' c', e = .returned (.slice A' xs.length c') ∧ SlB w' A' xs c' ∧ (∀ a, A' = some a → a.spot = none ∧ w.heap.size ≤ a.block ∧ a.block < w'.heap.size) ∧ Below w.heap.size w w' := by
  have q := nil_b
  cases A with
  | none =>
    have hc := h.2.2.1 rfl
    have hl : xs.length = 0 := by have := h.2.1; omega
    obtain rfl : xs = [] := List.eq_nil_of_length_eq_zero hl
    subst hc
    clear h hm hl
    go_enter Try.func23, Try.ntmps23
    go_wp2
    go_ret
    exact ⟨none, 0, rfl, slB_none _, (fun a h => by cases h), Below.refl _ _⟩
  | some ad =>
    have hB := Lib.hid h
    clear h
    go_enter Try.func23, Try.ntmps23
    go_wp2_with (at_builtin; refine wp_append_b rfl (.tmp 5) (.tmp 6) rfl w.heap.size (.slice (some ⟨w.heap.size, 0, none⟩) 0 0) 0 [] rfl (World.ownsRow_made w #[] 0 (Nat.le_refl _) (Nat.zero_le _) rfl) (some ad) xs.length c xs rfl rfl (isB_kept hB.out.1 ((Below.refl _ w).alloc (Nat.le_refl _) _)) (fun h => by cases h) (by omega) (by simp) ?_; intro v1 w1 hown1 hgrow1; refine pause ?_)
    obtain ⟨A', c', rfl, _, h2, h3⟩ := own_slB hown1 (by simpa using hB.out.1.1)
    have HB := Lib.hid (((Below.refl _ w).alloc (Nat.le_refl _) _).grown hgrow1 (by simp) (fun k hk => by simp [Value.ownBlock] at hk; omega))
    have H2 := Lib.hid h2
    have H3 := Lib.hid h3
    clear h2 h3 hown1 hgrow1
    unfold Pause
    go_wp2
    go_ret
    exact ⟨A', c', rfl, H2.out, H3.out, HB.out⟩

theorem Equal_run (A B : Option Addr) (xs ys : List Int) (c d : Nat) (w : World) (h : SlB w A xs c) (k : SlB w B ys d) :
    Calls Try.prog 28 #[.slice A xs.length c, .slice B ys.length d] w fun e w' => e = .returned (.bool (decide (xs = ys))) ∧ w = w' := by
  have h1 := conv_any h.1 c 9 Try.underlying9
  have h2 := conv_any k.1 d 9 Try.underlying9
  by_cases e : xs = ys
  · have he : decide (xs = ys) = true := by simpa using e
    rw [he]
    have hs : ((strOfNums xs).toList == (strOfNums ys).toList) = true := by rw [e]; exact beq_self_eq_true _
    clear e he h k
    go_enter Try.func28, Try.ntmps28
    go_wp2
    go_ret
    exact ⟨rfl, rfl⟩
  · have he : decide (xs = ys) = false := by simpa using e
    rw [he]
    have hs : ((strOfNums xs).toList == (strOfNums ys).toList) = false := str_ne fun e' => e (str_inj h.1.1 k.1.1 e')
    clear e he h k
    go_enter Try.func28, Try.ntmps28
    go_wp2
    go_ret
    exact ⟨rfl, rfl⟩
end Go.Proofs.Ytofmgbncaokmdaa.Std
