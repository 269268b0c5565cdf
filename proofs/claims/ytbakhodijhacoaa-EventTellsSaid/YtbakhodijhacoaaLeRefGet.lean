/- Get of the document's answers: what it answers of any bytes; asked: a slice reads as bytes. -/
import Derived.Test.YtbakhodijhacoaaLeRefs
import Derived.Test.YtbakhodijhacoaaRegion
namespace Go.Proofs.Ytbakhodijhacoaa.LeG
open Go.RowKit Go.Proofs.Ytbakhodijhacoaa.LeM Go.Proofs.Ytbakhodijhacoaa.LeZ Go.Proofs.Ytbakhodijhacoaa.LeP Go.Proofs.Ytbakhodijhacoaa.BM

/-- Get, said by Put. -/
theorem get_by_put {xs : List Int} {k : Nat} (hb : ∀ x ∈ xs, (0 : Int) ≤ x ∧ x < 256) (hk : k < xs.length) (h10 : k < 10) (hge : ∀ x ∈ xs.take k, (128 : Int) ≤ x) (hx : xs.getD k 0 < 128) (h0 : 0 ≤ xs.getD k 0) :
    getS xs = if strOfNums (putL ((vs (xs.take k) + 128 ^ k * (xs.getD k 0).toNat) % 18446744073709551616)) = strOfNums (xs.take (k + 1)) then some ((vs (xs.take k) + 128 ^ k * (xs.getD k 0).toNat) % 18446744073709551616, k + 1) else none := by
  obtain ⟨t, ht⟩ : ∃ t, t = vs (xs.take k) + 128 ^ k * (xs.getD k 0).toNat := ⟨_, rfl⟩
  rw [← ht]
  have hlt : t % 18446744073709551616 < 18446744073709551616 := Nat.mod_lt _ (by decide)
  by_cases he : strOfNums (putL (t % 18446744073709551616)) = strOfNums (xs.take (k + 1))
  · rw [if_pos he]
    exact (getS_iff xs hb _ _).2 ⟨hlt, by omega, str_inj (putL_bytes _) (fun x hx => hb x (List.mem_of_mem_take hx)) he⟩
  · rw [if_neg he]
    by_cases h1 : 0 < k ∧ xs.getD k 0 ≤ 0
    · exact getS_zero hk h10 hge hx h1.1 h1.2
    · by_cases h2 : t < 18446744073709551616
      · have h3 := getS_some hk h10 hge hx (by omega) (by rw [← ht]; exact h2)
        rw [← ht] at h3
        have h4 := (getS_iff xs hb _ _).1 h3
        rw [Nat.mod_eq_of_lt h2, h4.2.2] at he
        exact absurd rfl he
      · exact getS_over hk h10 hge hx (by rw [← ht]; omega)

theorem acc_mul (acc pl : Nat) (x : Int) : IntKind.u64.wrap ((acc : Int) + IntKind.u64.wrap (x % 128 * (pl : Int))) = (((acc + pl * (x % 128).toNat) % 18446744073709551616 : Nat) : Int) := by
  have e : x % 128 * (pl : Int) = ((pl * (x % 128).toNat : Nat) : Int) := by
    have : x % 128 = ((x % 128).toNat : Int) := by omega
    rw [this]
    simp [Int.mul_comm]
  rw [e, IntKind.wrap_u64, IntKind.wrap_u64]
  omega
theorem pl_mul (pl : Nat) : IntKind.u64.wrap ((pl : Int) * 128) = ((pl * 128 % 18446744073709551616 : Nat) : Int) := by
  rw [IntKind.wrap_u64]
  omega

theorem refGet_none (A : Option Addr) (cap : Nat) (w : World) :
    Calls Try.prog 33 #[.slice A 0 cap] w fun e w' => e = .returned (gotV (getS [])) ∧ Below w.heap.size w w' := by
  go_enter Try.func33, Try.ntmps33
  go_wp2
  refine wp_loop_rounds 1 ?_
  rw [rounds_succ]
  go_wp2
  go_ret3
  exact ⟨rfl, Below.refl _ _⟩

set_option maxRecDepth 100000 in
set_option maxHeartbeats 1000000 in
theorem refGet_some (b o : Nat) (xs : List Int) (cap : Nat) (w : World) (hx : 0 < xs.length) (hcap : xs.length ≤ cap) (hm : xs.length ≤ 9223372036854775807) (hb : ∀ x ∈ xs, (0 : Int) ≤ x ∧ x < 256)
    (hc : ∀ j, j < xs.length → w.cell? ⟨b, o + j, none⟩ = some (.int .u8 (xs.getD j 0))) :
    Calls Try.prog 33 #[.slice (some ⟨b, o, none⟩) xs.length cap] w fun e w' => e = .returned (gotV (getS xs)) ∧ Below w.heap.size w w' := by
  have hB : IsB w (some ⟨b, o, none⟩) xs := ⟨hb, fun _ => ⟨b, o, rfl, hc⟩⟩
  have HBs := Lib.hid hB
  clear hB
  go_enter Try.func33, Try.ntmps33
  go_wp2
  go_loop [5, 6, 7] (fun nn pp i => ∃ (k acc pl : Nat), k ≤ xs.length ∧ k ≤ 10 ∧ i = .int .i64 k ∧ nn = .int .u64 acc ∧ pp = .int .u64 pl ∧ (k < 10 → acc = vs (xs.take k) ∧ pl = 128 ^ k) ∧ ∀ x ∈ xs.take k, (128 : Int) ≤ x) (fun _ _ i => 10 - (intOf i).toNat)
  case atStart => exact ⟨0, 0, 1, by omega, by omega, rfl, rfl, rfl, by simp [vs], by simp⟩
  case round =>
    obtain ⟨k, acc, pl, hk, hk10, rfl, rfl, rfl, hv, hge⟩ := hrel
    have HV := Lib.hid hv
    have HG := Lib.hid hge
    have HB := Lib.hid hb
    clear hv hge hb
    by_cases hl1 : k < xs.length
    · by_cases hl2 : k < 10
      · have hcell : w.cell? ⟨b, o + k, none⟩ = some (.int .u8 (xs.getD k 0)) := hc k hl1
        have hbk : 0 ≤ xs.getD k 0 ∧ xs.getD k 0 < 256 := by
          rw [List.getD_eq_getElem?_getD, List.getElem?_eq_getElem hl1]
          exact HB.out _ (List.getElem_mem hl1)
        obtain ⟨x, hx⟩ : ∃ x, x = xs.getD k 0 := ⟨_, rfl⟩
        rw [← hx] at hcell hbk
        have HX := Lib.hid hx
        obtain ⟨hb0, hb1⟩ := hbk
        clear hx hc
        have HA := Lib.hid (acc_mul acc pl x)
        have HP := Lib.hid (pl_mul pl)
        by_cases h128 : 128 ≤ x
        · have HS := Lib.hid (vs_snoc xs k hl1)
          have HT := Lib.hid (take_snoc xs k hl1)
          go_wp2_with fail
          go_round
          case rel =>
            refine ⟨k + 1, _, _, by omega, by omega, by go_num, congrArg (Value.int .u64) HA.out, congrArg (Value.int .u64) HP.out, ?_, ?_⟩
            · intro h9
              obtain ⟨e1, e2⟩ := HV.out hl2
              have h1 := pow_le (k + 1) (by omega)
              rw [HS.out, ← HX.out, e1, e2]
              have h2 := vs_lt (xs.take (k + 1))
              rw [HS.out, ← HX.out, List.length_take, Nat.min_eq_left (by omega)] at h2
              rw [← Nat.pow_succ]
              exact ⟨Nat.mod_eq_of_lt (by omega), Nat.mod_eq_of_lt (by omega)⟩
            · rw [HT.out, ← HX.out]
              intro y hy
              rcases List.mem_append.1 hy with h | h
              · exact HG.out y h
              · simp at h; omega
          case measure => simp [intOf]; omega
        · have hgp := get_by_put HB.out hl1 hl2 HG.out (by rw [← HX.out]; omega) (by rw [← HX.out]; omega)
          have ha : (acc + pl * (x % 128).toNat) % 18446744073709551616 = (vs (xs.take k) + 128 ^ k * (xs.getD k 0).toNat) % 18446744073709551616 := by
            obtain ⟨e1, e2⟩ := HV.out hl2
            rw [e1, e2, ← HX.out, show x % 128 = x from by omega]
          rw [← ha] at hgp
          have HA' := HA.out
          obtain ⟨v, hv⟩ : ∃ v, v = (acc + pl * (x % 128).toNat) % 18446744073709551616 := ⟨_, rfl⟩
          have hvl : v < 18446744073709551616 := by rw [hv]; exact Nat.mod_lt _ (by decide)
          rw [← hv] at hgp HA'
          have HA2 := Lib.hid HA'
          have Hgp := Lib.hid hgp
          have Hput := Lib.hid (fun W => refPut_mem v W hvl)
          have hkc : (k : Int) + 1 ≤ (cap : Int) := by omega
          clear ha HA' hv HA hgp HP
          go_wp2_with fail
          rw [HA2.out]
          refine (Hput.out _).mono ?_
          rintro e w2 ⟨g, cap1, rfl, hB1, hb2⟩
          have hc1 := fun j => conv_any (w := w2.drewN j) hB1 cap1 9 Try.underlying9
          have hc2 := fun j => conv_any (w := w2.drewN j) (isB_take (isB_kept HBs.out hb2) (k + 1)) cap 9 Try.underlying9
          rw [List.length_take, Nat.min_eq_left (by omega)] at hc2
          obtain ⟨s1, hs1⟩ : ∃ s, s = strOfNums (putL v) := ⟨_, rfl⟩
          obtain ⟨s2, hs2⟩ : ∃ s, s = strOfNums (xs.take (k + 1)) := ⟨_, rfl⟩
          have hgp := Hgp.out
          rw [← hs1, ← hs2] at hgp
          rw [← hs1] at hc1
          rw [← hs2] at hc2
          have Hgp2 := Lib.hid hgp
          clear hs1 hs2 hgp Hgp hB1
          by_cases hse : s1 = s2
          · subst hse
            have hgp := Hgp2.out
            rw [if_pos rfl] at hgp
            have Hgp3 := Lib.hid hgp
            clear hgp Hgp2
            go_wp2_with fail
            go_quiet (fail)
            go_wp2
            go_ret3
            refine ⟨?_, below_drewN hb2 _⟩
            rw [Hgp3.out]
            rfl
          · have hgp := Hgp2.out
            rw [if_neg hse] at hgp
            have Hgp3 := Lib.hid hgp
            have hsn := str_ne hse
            clear hgp Hgp2
            go_wp2_with fail
            go_quiet (fail)
            go_wp2
            go_ret3
            refine ⟨?_, below_drewN hb2 _⟩
            rw [Hgp3.out]
            rfl
      · obtain rfl : k = 10 := by omega
        go_wp2_with fail
        go_ret3
        refine ⟨?_, Below.refl _ _⟩
        rw [getS_all (k := 10) (.inr rfl) (by omega) HG.out]
        rfl
    · obtain rfl : k = xs.length := by omega
      go_wp2_with fail
      go_ret3
      refine ⟨?_, Below.refl _ _⟩
      rw [getS_all (k := xs.length) (.inl rfl) hk10 HG.out]
      rfl

theorem refGet_any (A : Option Addr) (xs : List Int) (cap : Nat) (w : World) (hcap : xs.length ≤ cap) (hm : xs.length ≤ 9223372036854775807) (h : IsB w A xs) :
    Calls Try.prog 33 #[.slice A xs.length cap] w fun e w' => e = .returned (gotV (getS xs)) ∧ Below w.heap.size w w' := by
  by_cases hx : 0 < xs.length
  · obtain ⟨b, o, rfl, hc⟩ := h.2 hx
    exact refGet_some b o xs cap w hx hcap hm h.1 hc
  · obtain rfl : xs = [] := List.eq_nil_of_length_eq_zero (by omega)
    exact refGet_none A cap w
end Go.Proofs.Ytbakhodijhacoaa.LeG
