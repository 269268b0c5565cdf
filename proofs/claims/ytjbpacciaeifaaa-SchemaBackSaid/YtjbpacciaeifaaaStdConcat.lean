/- slices.Grow of a nil slice of bytes, and slices.Concat of slices of bytes, of the library; asked: the slices read as bytes. -/
import Derived.Test.YtjbpacciaeifaaaLMem
import Derived.Lib.AppendZerosOnto
import Derived.Lib.Walk
import Derived.Lib.SliceRun
namespace Go.Proofs.Ytjbpacciaeifaaa.Std
open Go.RowKit Go.Proofs.Ytjbpacciaeifaaa.BM Go.Proofs.Ytjbpacciaeifaaa.LM

set_option maxRecDepth 100000 in
/-- A nil slice grown: nothing in it, in memory of the call's own. -/
theorem Grow_nil (n : Nat) (w : World) (hn : n ≤ 100000000) :
    Calls Try.prog 39 #[.slice none 0 0, .int .i64 (n : Int)] w fun e w' => ∃ v, e = .returned v ∧ w'.ownsRow w.heap.size 5 1 v 0 [] ∧ Below w.heap.size w w' := by
  by_cases h0 : n = 0
  · subst h0
    go_enter Try.func39, Try.ntmps39
    go_wp2
    go_ret
    exact ⟨_, rfl, World.ownsRow_nil _ _ _ _, Below.refl _ _⟩
  · obtain ⟨i0, hi, hz0, hz1, hz2⟩ := info_parts info_u8
    have hold : (Builtin.firstCells i0.size 0 (.slice none 0 0)).run Try.prog w.drew = .ok ([] : List Value).toArray w.drew := run_firstCells_none w.drew i0.size 0 0 0
    have hrz : ∀ ty, (Builtin.append_ #[25, 3] ty #[.slice none 0 0, .int .i64 (n : Int)]).run Try.prog w =
        .ok (.slice (some ⟨w.heap.size, 0, none⟩) n (grownCap w n 0 5)) (w.drew.alloc (.cells (([] : List Value).toArray ++ Builtin.zeroCells (Value.cells (.int .u8 0)) n ++ Builtin.zeroCells (Value.cells (.int .u8 0)) (grownCap w n 0 5 - n)) 5)) := fun ty => by
      have h := Lib.run_append_grow_zeros w 25 3 ty 5 i0 (.int .u8 0) .i64 .i64 Try.underlying25 Try.underlying3 hi hz0 none 0 0 [] hold n (by omega) (by omega) (by omega) (by omega)
        (by rw [hz2]; omega) (by have := growslice_fits (need := 0 + n) (bytes := i0.bytes) (old := 0) (by omega) (by rw [hz2]; omega); exact this)
      rw [Nat.zero_add] at h
      exact h
    have hGn : n ≤ grownCap w n 0 5 := grownCap_ge w _ _ _
    have hGm : grownCap w n 0 5 ≤ maxLen := grownCap_le_maxLen w n 0 5 (by unfold maxLen; omega)
    obtain ⟨G, hG⟩ : ∃ G, G = grownCap w n 0 5 := ⟨_, rfl⟩
    rw [← hG] at hrz hGn hGm
    have hG63 : G ≤ 9223372036854775807 := by unfold maxLen at hGm; omega
    have h1 : (0 : Int) < n := by omega
    have Hown := Lib.hid (World.ownsRow_made (base := w.heap.size) (e := 5) (size := 1) w.drew (([] : List Value).toArray ++ Builtin.zeroCells (Value.cells (.int .u8 0)) n ++ Builtin.zeroCells (Value.cells (.int .u8 0)) (G - n)) G (Nat.le_refl _) hGm
      (by have e : (Value.cells (.int .u8 0)).size = 1 := rfl
          simp [size_zeroCells, e]; omega))
    have HB := Lib.hid (((Below.refl _ w).drew).alloc (Nat.le_refl _) (.cells (([] : List Value).toArray ++ Builtin.zeroCells (Value.cells (.int .u8 0)) n ++ Builtin.zeroCells (Value.cells (.int .u8 0)) (G - n)) 5))
    obtain ⟨W1, hW1⟩ : ∃ W1, W1 = w.drew.alloc (.cells (([] : List Value).toArray ++ Builtin.zeroCells (Value.cells (.int .u8 0)) n ++ Builtin.zeroCells (Value.cells (.int .u8 0)) (G - n)) 5) := ⟨_, rfl⟩
    rw [← hW1] at hrz Hown HB
    clear hold hG hW1 hGm h0 hi hz0 hz1 hz2
    go_enter Try.func39, Try.ntmps39
    go_wp2_with (at_builtin; refine Lib.wpList_append_run _ rfl (.tmp 20) (.tmp 21) _ _ rfl _ _ rfl rfl _ _ (hrz _) ?_)
    go_ret
    exact ⟨_, rfl, Hown.out, HB.out⟩

theorem take_succ_flat (ls : List (List Int)) (k : Nat) (hk : k < ls.length) : (ls.take (k + 1)).flatten = (ls.take k).flatten ++ ls.getD k [] := by
  rw [List.take_succ_eq_append_getElem hk, List.flatten_append, List.flatten_singleton]
  simp [List.getD_eq_getElem?_getD, hk]

theorem flat_le (ls : List (List Int)) (k : Nat) : (ls.take k).flatten.length ≤ ls.flatten.length := by
  have h : ls.flatten = (ls.take k).flatten ++ (ls.drop k).flatten := by rw [← List.flatten_append, List.take_append_drop]
  rw [h, List.length_append]
  omega

theorem flat_bytes {p : Nat → Prop} {w : World} {A : Option Addr} {c : Nat} {ls : List (List Int)} (h : IsL p w A c ls) : ∀ x ∈ ls.flatten, (0 : Int) ≤ x ∧ x < 256 := by
  intro x hx
  obtain ⟨l, hl, hxl⟩ := List.mem_flatten.1 hx
  obtain ⟨j, hj, rfl⟩ := List.getElem_of_mem hl
  obtain ⟨b, o, A', c', _, _, hs⟩ := h.at j hj
  have e : ls.getD j [] = ls[j] := by simp [List.getD_eq_getElem?_getD, hj]
  rw [e] at hs
  exact hs.1.1 x hxl

set_option maxRecDepth 100000 in
set_option maxHeartbeats 1000000 in
/-- Slices, one behind the other, in memory of the call's own. -/
theorem Concat_any {p : Nat → Prop} (A : Option Addr) (c : Nat) (ls : List (List Int)) (w : World) (h : IsL p w A c ls) (hm : ls.flatten.length ≤ 100000000) :
    Calls Try.prog 24 #[.slice A ls.length c] w fun e w' => ∃ v, e = .returned v ∧ w'.ownsRow w.heap.size 5 1 v ls.flatten.length (cs ls.flatten) ∧ Below w.heap.size w w' := by
  have hlen : ls.length ≤ 9223372036854775807 := by have h1 := h.2.1; have h2 := h.2.2.2; unfold maxLen at h2; omega
  have hfl := flat_le ls
  have HF := Lib.hid hfl
  obtain ⟨N, hN⟩ : ∃ N, N = ls.flatten.length := ⟨_, rfl⟩
  rw [← hN] at hm HF
  have HN := Lib.hid hN
  have HL := Lib.hid h
  have HG := Lib.hid (Grow_nil N w (by omega))
  clear hfl hN h
  go_enter Try.func24, Try.ntmps24
  go_wp2_with fail
  go_loop [3, 11] (fun s i => ∃ k : Nat, k ≤ ls.length ∧ i = .int .i64 k ∧ s = .int .i64 ((ls.take k).flatten.length : Nat)) (fun _ i => ls.length - (intOf i).toNat)
  case atStart => exact ⟨0, by omega, rfl, rfl⟩
  case round =>
    obtain ⟨k, hk, rfl, rfl⟩ := hrel
    have hs := HF.out k
    by_cases hlt : k < ls.length
    · obtain ⟨b, o, A', c', rfl, hcell, hsl⟩ := HL.out.at k hlt
      have hs1 := HF.out (k + 1)
      have HS := Lib.hid (take_succ_flat ls k hlt)
      rw [HS.out, List.length_append] at hs1
      obtain ⟨S, hS⟩ : ∃ S, S = (ls.take k).flatten.length := ⟨_, rfl⟩
      rw [← hS] at hs hs1 ⊢
      have HS' := Lib.hid hS
      obtain ⟨L, hL⟩ : ∃ L, L = (ls.getD k []).length := ⟨_, rfl⟩
      rw [← hL] at hs1 hcell
      have HL' := Lib.hid hL
      clear hS hL hsl
      go_wp2_with fail
      go_round
      case rel => exact ⟨k + 1, by omega, by go_num, by rw [HS.out, List.length_append, ← HS'.out, ← HL'.out]; go_num⟩
      case measure => simp [intOf]; omega
    · obtain rfl : k = ls.length := by omega
      rw [List.take_length, ← HN.out]
      clear hs
      go_wp2_with fail
      refine HG.out.mono ?_
      rintro e w1 ⟨v0, rfl, hown0, hb0⟩
      have Hown0 := Lib.hid hown0
      have Hb0 := Lib.hid hb0
      clear hown0 hb0
      go_wp2_with fail
      go_loopw [6, 27] (fun v i wr => ∃ k : Nat, k ≤ ls.length ∧ i = .int .i64 k ∧ wr.ownsRow w.heap.size 5 1 v (ls.take k).flatten.length (cs (ls.take k).flatten) ∧ Below w.heap.size w wr) (fun _ i _ => ls.length - (intOf i).toNat)
      case atStart => exact ⟨0, by omega, rfl, by simpa [cs] using Hown0.out, Hb0.out⟩
      case round =>
        obtain ⟨k, hk, rfl, hown, hb⟩ := hrel
        have hs := HF.out k
        by_cases hlt : k < ls.length
        · obtain ⟨b, o, A', c', rfl, hcell', hsl'⟩ := HL.out.at k hlt
          have hsl := hsl'.kept hb
          have hcell : wr.cell? ⟨b, o + k, none⟩ = some (.slice A' (ls.getD k []).length c') := by
            rw [hb.cell (p := ⟨b, o + k, none⟩) (World.block_lt_of_cell? w _ hcell')]
            exact hcell'
          have hs1 := HF.out (k + 1)
          have hS := take_succ_flat ls k hlt
          obtain ⟨x, hx⟩ : ∃ x, x = ls.getD k [] := ⟨_, rfl⟩
          rw [← hx] at hS hcell hsl
          have HS := Lib.hid hS
          clear hS hx
          rw [HS.out, List.length_append] at hs1
          have Hown := Lib.hid hown
          have Hsl := Lib.hid hsl
          have Hb := Lib.hid hb
          have hbs := hb.size
          clear hcell' hsl' hown hsl hb
          go_wp2_with (at_builtin; refine wp_append_b rfl (.tmp 31) (.tmp 32) rfl w.heap.size _ _ _ rfl Hown.out A' x.length c' x rfl rfl Hsl.out.1 Hsl.out.2.2.1 (by omega) hbs ?_; intro v1 w1 hown1 hgrow1; refine pause ?_)
          have hb1 := Hb.out.grown hgrow1 hbs (fun q hq => (Hown.out.lt q hq).1)
          have Hown1 := Lib.hid hown1
          have Hb1 := Lib.hid hb1
          clear hown1 hgrow1 hb1 hcell
          unfold Pause
          go_wp2
          go_roundw
          case rel => exact ⟨k + 1, by omega, by go_num, by rw [HS.out, List.length_append]; exact Hown1.out, Hb1.out⟩
          case measure => simp [intOf]; omega
        · obtain rfl : k = ls.length := by omega
          rw [List.take_length] at hown
          have Hown := Lib.hid hown
          have Hb := Lib.hid hb
          clear hown hb hs
          go_wp2_with fail
          go_ret
          exact ⟨_, rfl, Hown.out, Hb.out⟩
end Go.Proofs.Ytjbpacciaeifaaa.Std
