/- Put of package value: what it answers of any value; its number is an int. -/
import Derived.Test.YtbakhodijhacoaaValueTail
namespace Go.Proofs.Ytbakhodijhacoaa.Va
open Go.RowKit Go.Proofs.Ytbakhodijhacoaa.BM Go.Proofs.Ytbakhodijhacoaa.LM Go.Proofs.Ytbakhodijhacoaa.LeM Go.Proofs.Ytbakhodijhacoaa.LeZ Go.Proofs.Ytbakhodijhacoaa.VaM

def Putted (v : V) (w : World) : Ending → World → Prop := fun e w' => ∃ A c, e = .returned (.tuple #[.slice A (pv v).length c, .bool (decide (May v))]) ∧ SlB w' A (pv v) c ∧ (∀ a, A = some a → w.heap.size ≤ a.block) ∧ Below w.heap.size w w'

theorem putted_v {v : V} {ys : List Int} (hm : May v) (ht : pv v = ys) (A : Option Addr) (c : Nat) : Value.tuple #[.slice A (pv v).length c, .bool (decide (May v))] = .tuple #[.slice A ys.length c, .bool true] := by rw [ht, decide_eq_true hm]

theorem putted_n {v : V} (hm : ¬ May v) : Value.tuple #[.slice none (pv v).length 0, .bool (decide (May v))] = .tuple #[.slice none 0 0, .bool false] := by rw [decide_eq_false hm, pv, if_neg hm]; rfl

set_option maxRecDepth 100000 in
set_option maxHeartbeats 1000000 in
theorem Put_any (k n : Int) (s : ByteArray) (w : World) (hr : Rng ⟨k, n, s⟩) :
    Calls Try.prog 25 #[.agg #[.int .i64 k, .int .i64 n, .string s]] w (Putted ⟨k, n, s⟩ w) := by
  have HB := Lib.hid ((Below.refl w.heap.size w).alloc (Nat.le_refl _) (.cells #[.int .i64 k, .int .i64 n, .string s] 44))
  have HX := Lib.hid (bx_new w (.int .i64 k) (.int .i64 n) (.string s))
  have HT := Lib.hid (fun W => tail_any ⟨k, n, s⟩ W hr)
  have HR := Lib.hid hr
  clear hr
  go_enter Try.func25, Try.ntmps25
  go_wp2_with fail
  refine (held_any k n s _).mono ?_
  rintro e w1 ⟨rfl, hb1⟩
  have HB1 := Lib.hid (bt HB.out hb1)
  have HX1 := Lib.hid (HX.out.kept hb1)
  obtain ⟨h, hh⟩ : ∃ h, h = heldV ⟨k, n, s⟩ := ⟨_, rfl⟩
  rw [← hh] at HT ⊢
  clear hb1 HB HX hh
  go_wp2_with fail
  refine (HT.out _).mono ?_
  rintro e w2 ⟨A, c, rfl, h2, hb2⟩
  have HB2 := Lib.hid (bt HB1.out hb2)
  have hx2 := HX1.out.kept hb2
  have HS := Lib.hid h2
  clear hb2 HB1 HX1 h2 HT
  by_cases hm : May ⟨k, n, s⟩
  · have ht : tl ⟨k, n, s⟩ = putL (num ⟨k, n, s⟩) ++ bl s := by rw [tl, if_pos hm]
    have hp : pv ⟨k, n, s⟩ = [k] ++ tl ⟨k, n, s⟩ := by rw [pv, if_pos hm, ht]; rfl
    have hk := may_kind hm
    simp only at hk
    have hl : (tl ⟨k, n, s⟩).length ≤ 60 := by
      have := putV_len hm HR.out
      rw [show putV ⟨k, n, s⟩ = [k] ++ tl ⟨k, n, s⟩ from by rw [ht]; rfl, List.length_append] at this
      omega
    obtain ⟨t, hT⟩ : ∃ t, t = tl ⟨k, n, s⟩ := ⟨_, rfl⟩
    rw [← hT] at hl hp HS ⊢
    obtain ⟨m, hM⟩ : ∃ m, m = t.length := ⟨_, rfl⟩
    rw [← hM] at hl ⊢
    have HM := Lib.hid hM
    have HP := Lib.hid hp
    have HMay := Lib.hid hm
    rw [decide_eq_true hm]
    have hcap := HS.out.2.2.1
    have HC := Lib.hid hcap
    obtain ⟨⟨c0, c1, c2⟩, _⟩ := hx2
    have hz2 := HB2.out.size
    have hown0 := World.ownsRow_lit (base := w.heap.size) (e := 5) (size := 1) w2 #[.int .u8 k] 1 hz2 (by decide) rfl
    have HO := Lib.hid hown0
    have HS' := Lib.hid (HS.out.kept ((Below.refl _ _).alloc (Nat.le_refl _) (.cells #[.int .u8 k] 5)))
    clear hm hp hM hT ht hcap c1 c2 hown0
    go_wp2_with (at_builtin; refine wp_append_b rfl (.tmp 17) (.tmp 18) rfl w.heap.size _ 1 [k] rfl HO.out A m c t rfl HM.out.symm HS'.out.1 HC.out (by omega) (by simp; omega) ?_; intro v1 w3 hown3 hgrow3; refine pause ?_)
    have hB3 : Below w.heap.size w w3 := (HB2.out.alloc (HB2.out.size) _).grown hgrow3 (by simp; omega) (fun q hq => (HO.out.lt q hq).1)
    rw [show [k] ++ t = pv ⟨k, n, s⟩ from HP.out.symm] at hown3
    obtain ⟨A', c', rfl, hl3, h3, h4⟩ := own_slB hown3 (pv_bytes _)
    have hz3 := hB3.size
    have HS3 := Lib.hid h3
    have HB3 := Lib.hid hB3
    have HL3 := Lib.hid hl3
    have H4 := Lib.hid (fun a ha => (h4 a ha).2.1)
    clear h3 hB3 hown3 hgrow3 h4 hl3
    unfold Pause
    go_wp2_with fail
    go_ret2
    exact ⟨A', c', ret_v (putted_v HMay.out rfl A' c'), HS3.out, H4.out, HB3.out⟩
  · rw [decide_eq_false hm]
    have HMay := Lib.hid hm
    have hp : pv ⟨k, n, s⟩ = [] := by rw [pv, if_neg hm]
    have HP := Lib.hid hp
    clear hm hp hx2
    go_wp2_with fail
    go_ret2
    exact ⟨none, 0, ret_v (putted_n HMay.out), by rw [HP.out]; exact slB_none _, (fun a ha => by cases ha), HB2.out⟩
end Go.Proofs.Ytbakhodijhacoaa.Va
