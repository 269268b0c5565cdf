/- Next and Of of the program, and of the document's answer: the check of any bytes; asked: a slice reads as bytes. -/
import Derived.Test.YtofmgbncaokmdaaCrcTab
namespace Go.Proofs.Ytofmgbncaokmdaa.Crc
open Go.RowKit Go.Proofs.Ytofmgbncaokmdaa.CrcM Go.Proofs.Ytofmgbncaokmdaa.BM

theorem inv_bits (s : Nat) (h : s < 4294967296) : bits .xor .u32 IntKind.u32.max (s : Int) = ((inv s : Nat) : Int) := by
  have h1 := u32_xor_nat 4294967295 s (by decide) h
  rw [Nat.xor_comm, inv_xor h] at h1
  exact h1

theorem clo_int (B : Nat) (y : Int) (k : Nat) (W : World) (hy : y = (k : Int)) (hk : k < 256) (ht : Tab B W) :
    Calls Try.prog 35 #[.int .u8 y, .pointer (some ⟨B, 0, none⟩)] W fun e w' => e = .returned (.int .u32 ((s8 k : Nat) : Int)) ∧ Tab B w' ∧ Below B W w' := by
  subst hy
  exact clo_any B k W hk ht

theorem low_byte (w x : Nat) (hx : x < 256) : bits .xor .u8 ((w : Int) % 256) (x : Int) = ((w % 256 ^^^ x : Nat) : Int) ∧ (w % 256 ^^^ x) < 256 := by
  have h := u8_xor_nat (w % 256) x (by omega) hx
  have e : ((w % 256 : Nat) : Int) = (w : Int) % 256 := by omega
  rw [e] at h
  exact ⟨h, Nat.xor_lt_two_pow (n := 8) (by omega) (by omega)⟩

theorem new_word (w x : Nat) (hw : w < 4294967296) (hx : x < 256) : bits .xor .u32 ((w : Int) / 256) ((s8 (w % 256 ^^^ x) : Nat) : Int) = ((s8 (w ^^^ x) : Nat) : Int) := by
  have h1 : (w % 256 ^^^ x) < 256 := (low_byte w x hx).2
  have h := u32_xor_nat (w / 256) (s8 (w % 256 ^^^ x)) (by omega) (s8_lt (by omega))
  have e : ((w / 256 : Nat) : Int) = (w : Int) / 256 := by omega
  rw [e, ← take_byte] at h
  exact h

set_option maxRecDepth 100000 in
set_option maxHeartbeats 1000000 in
theorem Next_some (s b o : Nat) (xs : List Int) (cap : Nat) (W : World) (hs : s < 4294967296) (hm : xs.length ≤ 9223372036854775807) (hb : Bytes xs)
    (hc : ∀ j, j < xs.length → W.cell? ⟨b, o + j, none⟩ = some (.int .u8 (xs.getD j 0))) (hbl : b < W.heap.size) :
    Calls Try.prog 30 #[.int .u32 (s : Int), .slice (some ⟨b, o, none⟩) xs.length cap] W fun e w' => e = .returned (.int .u32 ((next s xs : Nat) : Int)) ∧ Below W.heap.size W w' := by
  have Hst := Lib.hid (stepper_any W)
  have Hi := Lib.hid (inv_bits s hs)
  have hi := inv_lt s
  have hT := tab_new W
  have HW := Lib.hid (show Below W.heap.size W (W.alloc (.cells (Array.replicate 256 (.int .u32 0)) 58)) from (Below.refl _ _).alloc (Nat.le_refl _) _)
  go_enter Try.func30, Try.ntmps30
  go_wp2_with fail
  refine Hst.out.mono ?_
  rintro e w' ⟨rfl, rfl⟩
  go_wp2_with fail
  go_loopw [6, 15] (fun v i wr => ∃ k : Nat, k ≤ xs.length ∧ i = .int .i64 k ∧ v = .int .u32 ((fold (inv s) (xs.take k) : Nat) : Int) ∧ Tab W.heap.size wr ∧ Below W.heap.size W wr) (fun _ i _ => xs.length - (intOf i).toNat)
  case atStart => exact ⟨0, by omega, rfl, congrArg (Value.int .u32) Hi.out, hT, HW.out⟩
  case round =>
    obtain ⟨k, hk, rfl, rfl, ht, hbel⟩ := hrel
    have hbt : Bytes (xs.take k) := fun y hy => hb y (List.mem_of_mem_take hy)
    have hf := fold_lt (xs.take k) hi hbt
    have HB := Lib.hid hb
    clear hb hbt hT HW Hst
    by_cases hlt : k < xs.length
    · have hcell : wr.cell? ⟨b, o + k, none⟩ = some (.int .u8 (xs.getD k 0)) := by
        rw [hbel.cell (p := ⟨b, o + k, none⟩) hbl]
        exact hc k hlt
      have hbk : 0 ≤ xs.getD k 0 ∧ xs.getD k 0 < 256 := by
        rw [List.getD_eq_getElem?_getD, List.getElem?_eq_getElem hlt]
        exact HB.out _ (List.getElem_mem hlt)
      have HS := Lib.hid (take_snocB xs k hlt)
      obtain ⟨x, hx⟩ : ∃ x, x = (xs.getD k 0).toNat := ⟨_, rfl⟩
      have hxe : xs.getD k 0 = (x : Int) := by omega
      have hx256 : x < 256 := by omega
      rw [hxe] at hcell HS
      obtain ⟨v, hv⟩ : ∃ v, v = fold (inv s) (xs.take k) := ⟨_, rfl⟩
      rw [← hv] at hf ⊢
      have HV := Lib.hid hv
      have Hlo := Lib.hid (low_byte v x hx256)
      have Hnw := Lib.hid (new_word v x hf hx256)
      clear hc hbk hx hxe hv
      go_wp2_with fail
      refine (clo_int W.heap.size _ (v % 256 ^^^ x) _ Hlo.out.1 Hlo.out.2 ht).mono ?_
      rintro e w1 ⟨rfl, ht1, hb1⟩
      go_wp2_with fail
      go_roundw
      case rel =>
        refine ⟨k + 1, by omega, by go_num, congrArg (Value.int .u32) (Hnw.out.trans ?_), ht1, hbel.trans hb1⟩
        rw [HS.out, fold_snoc, ← HV.out, Int.toNat_natCast]
      case measure => simp [intOf]; omega
    · obtain rfl : k = xs.length := by omega
      rw [List.take_length] at hf ⊢
      have Hf := Lib.hid (inv_bits (fold (inv s) xs) hf)
      clear hc
      go_wp2_with fail
      go_ret
      exact ⟨congrArg (fun z => Ending.returned (.int .u32 z)) Hf.out, hbel⟩

set_option maxRecDepth 100000 in
theorem Next_none (s : Nat) (A : Option Addr) (cap : Nat) (W : World) (hs : s < 4294967296) :
    Calls Try.prog 30 #[.int .u32 (s : Int), .slice A 0 cap] W fun e w' => e = .returned (.int .u32 (s : Int)) ∧ Below W.heap.size W w' := by
  have Hst := Lib.hid (stepper_any W)
  have Hi := Lib.hid (inv_bits s hs)
  have Hj := Lib.hid (inv_bits (inv s) (inv_lt s))
  have HW := Lib.hid (show Below W.heap.size W (W.alloc (.cells (Array.replicate 256 (.int .u32 0)) 58)) from (Below.refl _ _).alloc (Nat.le_refl _) _)
  go_enter Try.func30, Try.ntmps30
  go_wp2_with fail
  refine Hst.out.mono ?_
  rintro e w' ⟨rfl, rfl⟩
  go_wp2_with fail
  refine wp_loop_rounds 1 ?_
  rw [rounds_succ]
  go_wp2_with fail
  go_ret
  refine ⟨congrArg (fun z => Ending.returned (.int .u32 z)) ?_, HW.out⟩
  rw [Hi.out, Hj.out, inv_inv hs]

theorem Next_any (s : Nat) (A : Option Addr) (xs : List Int) (cap : Nat) (W : World) (hs : s < 4294967296) (hm : xs.length ≤ 9223372036854775807) (h : IsB W A xs) :
    Calls Try.prog 30 #[.int .u32 (s : Int), .slice A xs.length cap] W fun e w' => e = .returned (.int .u32 ((next s xs : Nat) : Int)) ∧ Below W.heap.size W w' := by
  by_cases hx : 0 < xs.length
  · obtain ⟨b, o, rfl, hc⟩ := h.2 hx
    exact Next_some s b o xs cap W hs hm h.1 hc (World.block_lt_of_cell? W _ (hc 0 hx))
  · obtain rfl : xs = [] := List.eq_nil_of_length_eq_zero (by omega)
    have h0 := Next_none s A cap W hs
    rw [next_nil hs]
    exact h0

theorem Of_any (A : Option Addr) (xs : List Int) (cap : Nat) (W : World) (hm : xs.length ≤ 9223372036854775807) (h : IsB W A xs) :
    Calls Try.prog 20 #[.slice A xs.length cap] W fun e w' => e = .returned (.int .u32 ((next 0 xs : Nat) : Int)) ∧ Below W.heap.size W w' := by
  have Hn := Lib.hid (Next_any 0 A xs cap W (by decide) hm h)
  go_enter Try.func20, Try.ntmps20
  go_wp2_with fail
  refine Hn.out.mono ?_
  rintro e w' ⟨rfl, hb⟩
  go_wp2_with fail
  go_ret
  exact ⟨rfl, hb⟩
end Go.Proofs.Ytofmgbncaokmdaa.Crc
