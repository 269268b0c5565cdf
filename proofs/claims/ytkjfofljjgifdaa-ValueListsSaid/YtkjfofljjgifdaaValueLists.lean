/- The walk of ValueLists: values that stand one behind the other are got one by one; no condition. -/
import Derived.Test.YtkjfofljjgifdaaValueLaw
import Derived.Test.YtkjfofljjgifdaaValueList
import Derived.BigQuiet
import Derived.Deep.QuietTactic
namespace Go.Proofs.Ytkjfofljjgifdaa.Va
open Go.RowKit Go.Proofs.Ytkjfofljjgifdaa.BM Go.Proofs.Ytkjfofljjgifdaa.LM Go.Proofs.Ytkjfofljjgifdaa.VaM

theorem elem_v : Try.prog.underlying 37 = some (.slice (Try.prog.elem 37)) := by kernel_rfl
theorem size_v (w : World) : (sizeOf (Try.prog.elem 37)).run Try.prog w = .ok 3 w := by kernel_rfl

/-- l[j] -/
theorem index_v (w : World) (b o len cap j : Nat) (h : j < len) : (Instr.indexAt 37 (.slice (some ⟨b, o, none⟩) len cap) (.int .i64 (j : Int))).run Try.prog w = .ok (.pointer (some ⟨b, o + j * 3, none⟩)) w := by
  rw [run_indexAt_slice w _ _ _ _ _ _ elem_v, if_pos (by omega), size_v]
  simp only [Result.andThen, Int.toNat_natCast, Addr.add_lit]

set_option maxRecDepth 100000 in
theorem lists_up (a : Option Addr) (len cap : Nat) (w : World) (h : 10 < len) (hm : len ≤ 9223372036854775807) :
    Calls Try.prog 7 #[.slice a len cap] w fun e w' => e = .returned (.bool true) ∧ Below w.heap.size w w' := by
  go_enter Try.func7, Try.ntmps7
  go_wp2_with fail
  refine (awake_any _).mono ?_
  rintro e w1 ⟨rfl, hb⟩
  have HB := Lib.hid hb
  clear hb
  go_wp2_with fail
  go_ret
  exact ⟨ret_bool (by first | rfl | simp), HB.out⟩

set_option maxRecDepth 100000 in
set_option maxHeartbeats 4000000 in
theorem lists_in (a : Option Addr) (len cap : Nat) (f : Nat → V) (w : World) (h10 : len ≤ 10) (hR : ∀ i, i < len → Rng (f i)) (hA : 0 < len → ∃ b o, a = some ⟨b, o, none⟩ ∧ ∀ i, i < len → CellV w b (o + i * 3) (f i)) :
    Calls Try.prog 7 #[.slice a len cap] w fun e w' => e = .returned (.bool true) ∧ Below w.heap.size w w' := by
  have hix : ∀ j, j < len → ∃ b q, (∀ W, (Instr.indexAt 37 (.slice a len cap) (.int .i64 (j : Int))).run Try.prog W = .ok (.pointer (some ⟨b, q, none⟩)) W) ∧ ∀ W, Below w.heap.size w W → CellV W b q (f j) := by
    intro j hj
    obtain ⟨b, o, rfl, hc⟩ := hA (by omega)
    exact ⟨b, o + j * 3, fun W => index_v W b o len cap j hj, fun W hW => (hc j hj).kept hW⟩
  have HIx := Lib.hid hix
  have HR := Lib.hid hR
  clear hix hA hR
  go_enter Try.func7, Try.ntmps7
  go_wp2_with fail
  refine (awake_any _).mono ?_
  rintro e w1 ⟨rfl, hb⟩
  have HB1 := Lib.hid hb
  clear hb
  go_wp2_with fail
  go_loopw [4, 5] (fun v i wr => ∃ j : Nat, i = .int .i64 j ∧ j ≤ len ∧ wr.ownsRow w.heap.size 5 1 v (flTo f j).length (cs (flTo f j)) ∧ (∀ r, r < j → May (f r)) ∧ Below w.heap.size w wr) (fun _ i _ => len - (intOf i).toNat)
  case atStart => exact ⟨0, rfl, Nat.zero_le _, World.ownsRow_nil _ _ _ _, fun r hr => absurd hr (Nat.not_lt_zero r), HB1.out⟩
  case round =>
    obtain ⟨j, rfl, hj, hown, hmay, hbel⟩ := hrel
    have HO := Lib.hid hown
    have HMay := Lib.hid hmay
    have HBl := Lib.hid hbel
    clear hown hmay hbel
    by_cases hjl : j < len
    · obtain ⟨b, q, hi, hc⟩ := HIx.out j hjl
      have hrj := HR.out j hjl
      obtain ⟨⟨k, n, s⟩, hf⟩ : ∃ v, v = f j := ⟨_, rfl⟩
      rw [← hf] at hrj hc
      have HF := Lib.hid hf
      have HC := Lib.hid hc
      obtain ⟨c0, c1, c2⟩ := hc _ HBl.out
      have hpl := pv_len hrj
      have HP := Lib.hid (fun W => Put_any k n s W hrj)
      simp only at c0 c1 c2
      clear hc hf
      go_wp2_with fail
      refine (HP.out _).mono ?_
      rintro e w2 ⟨B, d, rfl, h2, _, hb⟩
      have HB2 := Lib.hid (bt HBl.out hb)
      have HS2 := Lib.hid h2
      have HO2 := Lib.hid (RegA.own_below HO.out hb)
      clear hb h2 c0 c1 c2 HP
      by_cases hm : May ⟨k, n, s⟩
      · rw [decide_eq_true hm]
        have hz := may_size hm
        simp only at hz
        obtain ⟨M, hM⟩ : ∃ M, M = (pv ⟨k, n, s⟩).length := ⟨_, rfl⟩
        rw [← hM] at hpl ⊢
        have HM := Lib.hid hM
        obtain ⟨T, hT⟩ : ∃ T, T = (flTo f j).length := ⟨_, rfl⟩
        have hTl := flTo_len j HMay.out (fun i hi => HR.out i (by omega))
        rw [← hT] at HO2 hTl
        have HT := Lib.hid hT
        have HMj := Lib.hid hm
        obtain ⟨c0, c1, c2⟩ := HC.out _ HB2.out
        simp only at c0 c1 c2
        have hsz := HB2.out.size
        clear hm hM hT HO
        go_wp2_with (at_builtin; refine wp_append_b rfl (.tmp 46) (.tmp 47) rfl w.heap.size _ T (flTo f j) rfl HO2.out B M d (pv ⟨k, n, s⟩) rfl HM.out.symm HS2.out.1 HS2.out.2.2.1 (by omega) hsz ?_; intro v3 w3 hown3 hgrow3; refine pause ?_)
        have hB3 : Below w.heap.size w w3 := HB2.out.grown hgrow3 hsz (fun q hq => (HO2.out.lt q hq).1)
        have hfl : flTo f j ++ pv ⟨k, n, s⟩ = flTo f (j + 1) := by rw [flTo, ← HF.out, pv, if_pos HMj.out]
        have hln : T + M = (flTo f (j + 1)).length := by rw [← hfl, List.length_append, HT.out, HM.out]
        rw [hfl, hln] at hown3
        have HO3 := Lib.hid hown3
        have HB3 := Lib.hid hB3
        have HMay3 := Lib.hid (show ∀ r, r < j + 1 → May (f r) from fun r hr => by
          by_cases h : r < j
          · exact HMay.out r h
          · obtain rfl : r = j := by omega
            rw [← HF.out]
            exact HMj.out)
        clear hB3 hown3 hgrow3 hfl hln c0 c1 c2 hi
        unfold Pause
        go_wp2_with fail
        go_roundw
        case rel => exact ⟨j + 1, by go_num, by omega, HO3.out, HMay3.out, HB3.out⟩
        case measure => simp [intOf]; omega
      · rw [decide_eq_false hm]
        clear hm
        go_wp2_with fail
        go_ret
        exact ⟨ret_bool (by first | rfl | simp), HB2.out⟩
    · obtain rfl : j = len := by omega
      have hbt := flTo_bytes j HMay.out
      obtain ⟨A0, c0, rfl, _, hs0, _⟩ := own_slB HO.out hbt
      rw [← fl_all] at hs0
      have HS0 := Lib.hid hs0
      have hl0 : (flTo f j).length = (flFrom f 0 j).length := by rw [fl_all]
      rw [hl0]
      have hTl := flTo_len j HMay.out (fun i hi => HR.out i hi)
      rw [hl0] at hTl
      clear hbt hs0 hl0 HO
      go_wp2_with fail
      go_loopw [4, 8] (fun v i wr => ∃ (r : Nat) (A : Option Addr) (m c : Nat), i = .int .i64 r ∧ r ≤ j ∧ v = .slice A m c ∧ m = (flFrom f r (j - r)).length ∧ m ≤ 51 * j ∧ SlB wr A (flFrom f r (j - r)) c ∧ Below w.heap.size w wr) (fun _ i _ => j - (intOf i).toNat)
      case atStart => exact ⟨0, A0, _, c0, rfl, Nat.zero_le _, rfl, rfl, hTl, HS0.out, HBl.out⟩
      case round =>
        obtain ⟨r, A, m, c, rfl, hr, rfl, hm, hm51, hsl, hbel⟩ := hrel
        have HS := Lib.hid hsl
        have HM := Lib.hid hm
        have HBr := Lib.hid hbel
        clear hsl hm hbel HS0 hTl
        by_cases hrj : r < j
        · obtain ⟨b, q, hi, hc⟩ := HIx.out r hrj
          have hmay := HMay.out r hrj
          have hrng := HR.out r hrj
          have hfl : flFrom f r (j - r) = putV (f r) ++ flFrom f (r + 1) (j - (r + 1)) := by
            rw [show j - r = (j - (r + 1)) + 1 from by omega]
            rfl
          have hbt := flFrom_bytes (j - (r + 1)) (r + 1) (f := f) (fun i hi => HMay.out i (by omega))
          have hga : gotP (getP (flFrom f r (j - r))) = (f r, (putV (f r)).length, true) := by
            rw [hfl, getP_app hrng hmay _ hbt]
            rfl
          have hget := Get_any A _ c wr HS.out
          unfold Gots at hget
          rw [hga, ← HM.out] at hget
          have hlen : m = (putV (f r)).length + (flFrom f (r + 1) (j - (r + 1))).length := by rw [HM.out, hfl, List.length_append]
          have hdr : (flFrom f r (j - r)).drop (putV (f r)).length = flFrom f (r + 1) (j - (r + 1)) := by rw [hfl, List.drop_left]
          obtain ⟨⟨k, n, s⟩, hf⟩ : ∃ v, v = f r := ⟨_, rfl⟩
          rw [← hf] at hget hlen hdr hc
          obtain ⟨u, hu⟩ : ∃ u, u = (putV ⟨k, n, s⟩).length := ⟨_, rfl⟩
          rw [← hu] at hget hlen hdr
          simp only [got3] at hget
          have HGet := Lib.hid hget
          have HC := Lib.hid hc
          have HDr := Lib.hid hdr
          have HLn := Lib.hid hlen
          have hum : u ≤ m := by omega
          have hcm := HS.out.2.1
          rw [← HM.out] at hcm
          have hcx := HS.out.2.2.2
          unfold maxLen at hcx
          clear hmay hrng hfl hbt hga hget hlen hdr hf hu hc
          go_wp2_with fail
          refine HGet.out.mono ?_
          rintro e w4 ⟨rfl, hb⟩
          have ha5 := (Below.refl w4.heap.size w4).alloc (Nat.le_refl _) (.cells #[.int .i64 k, .int .i64 n, .string s] 23)
          have HB5 := Lib.hid (bt HBr.out (bt hb ha5))
          have HS5 := Lib.hid (HS.out.kept (bt hb ha5))
          obtain ⟨c0, c1, c2⟩ := HC.out _ HB5.out
          obtain ⟨⟨r0, r1, r2⟩, _⟩ := bx_new w4 (.int .i64 k) (.int .i64 n) (.string s)
          have hne : ∀ W, (binOp .neq 23 (.agg #[.int .i64 k, .int .i64 n, .string s]) (.agg #[.int .i64 k, .int .i64 n, .string s])).run Try.prog W = .ok (.bool false) W := fun W => by rw [neq_v, same_iff.2 rfl]; rfl
          have hd1 : decide ((m : Int) < u) = false := by rw [decide_eq_false_iff_not]; omega
          have hd2 : decide (m < u) = false := by rw [decide_eq_false_iff_not]; omega
          have hsl := fun W => slice_lo W A m c u hum
          have HS6 := Lib.hid (Cut.slB_drop HS5.out u (by rw [← HM.out]; exact hum))
          simp only at c0 c1 c2
          clear ha5 hb HGet HS
          go_wp2_with fail
          obtain ⟨w5, hw5⟩ : ∃ w5, w5 = w4.alloc (.cells #[.int .i64 k, .int .i64 n, .string s] 23) := ⟨_, rfl⟩
          rw [← hw5] at HB5 HS5 HS6 c0 c1 c2 r0 r1 r2 ⊢
          clear hw5
          go_quiet (fail)
          go_wp2_with fail
          go_roundw
          case rel =>
            rw [HDr.out] at HS6
            have hl := HLn.out
            refine ⟨r + 1, dropA A u c, m - u, c - u, by go_num, by omega, rfl, by omega, by omega, HS6.out.kept (below_drewN (Below.refl _ _) _), below_drewN HB5.out _⟩
          case measure => simp [intOf]; omega
        · obtain rfl : r = j := by omega
          have hm0 := HM.out
          rw [Nat.sub_self] at hm0
          obtain rfl : m = 0 := hm0
          go_wp2_with fail
          go_ret
          exact ⟨ret_bool (by first | rfl | simp), HBr.out⟩

theorem lists_walk (a : Option Addr) (len cap : Nat) (w : World) (h : RowV w a len) :
    Calls Try.prog 7 #[.slice a len cap] w fun e w' => e = .returned (.bool true) ∧ Below w.heap.size w w' := by
  obtain ⟨f, hm, hR, hA⟩ := h
  by_cases h10 : len ≤ 10
  · exact lists_in a len cap f w h10 hR hA
  · exact lists_up a len cap w (by omega) hm
end Go.Proofs.Ytkjfofljjgifdaa.Va
