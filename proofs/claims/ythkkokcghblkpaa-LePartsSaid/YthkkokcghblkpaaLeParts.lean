/- The walk of LeParts: numbers that stand one behind the other are got one by one; no condition. -/
import Derived.Test.YthkkokcghblkpaaLeAwake
import Derived.Test.YthkkokcghblkpaaRegion
namespace Go.Proofs.Ythkkokcghblkpaa.LeG
open Go.RowKit Go.Proofs.Ythkkokcghblkpaa.LeM Go.Proofs.Ythkkokcghblkpaa.LeZ Go.Proofs.Ythkkokcghblkpaa.LeP

/-- A slice of uint64 that came in. -/
def RowU64 (w : World) (a : Option Addr) (len cap : Nat) (zs : List Int) : Prop :=
  (a = none ∧ len = 0 ∧ cap = 0 ∧ zs = []) ∨
  ∃ x, a = some x ∧ len ≤ cap ∧ cap ≤ maxLen ∧ zs.length = cap ∧ (∀ i, i < zs.length → w.cell? (x.add i) = some (.int .u64 (zs.getD i 0))) ∧ ∀ n ∈ zs, (Lit.int .u64 n).wf = true

theorem row_u64 {w : World} {a : Option Addr} {len cap : Nat} {zs : List Int} (h : RowU64 w a len cap zs) (hl : 0 < len) :
    ∃ (b o : Nat) (ns : List Nat), a = some ⟨b, o, none⟩ ∧ ns.length = len ∧ (∀ n ∈ ns, n < 18446744073709551616) ∧ b < w.heap.size ∧ ∀ j, j < len → w.cell? ⟨b, o + j, none⟩ = some (.int .u64 ((ns.getD j 0 : Nat) : Int)) := by
  rcases h with ⟨_, rfl, _, _⟩ | ⟨x, rfl, h1, hm, hz, hc, hwf⟩
  · omega
  · obtain ⟨b, o, s⟩ := x
    have h0 := hc 0 (by omega)
    have hs : s = none := by simpa [Addr.add] using World.cell?_spot h0
    subst hs
    have hlt : b < w.heap.size := by
      have := World.block_lt_of_cell? w _ h0
      simpa [Addr.add] using this
    refine ⟨b, o, (zs.take len).map Int.toNat, rfl, by rw [List.length_map, List.length_take]; omega, ?_, hlt, fun j hj => ?_⟩
    · intro n hn
      obtain ⟨z, hz1, rfl⟩ := List.mem_map.1 hn
      have := bounds_u64 (hwf z (List.mem_of_mem_take hz1))
      omega
    · have h2 := hc j (by omega)
      rw [Addr.add_lit] at h2
      rw [h2]
      have hjz : j < zs.length := by omega
      have hwj := bounds_u64 (hwf (zs.getD j 0) (by rw [List.getD_eq_getElem?_getD, List.getElem?_eq_getElem hjz]; exact List.getElem_mem hjz))
      have e : ((zs.take len).map Int.toNat).getD j 0 = (zs.getD j 0).toNat := by
        rw [List.getD_eq_getElem?_getD, List.getD_eq_getElem?_getD, List.getElem?_map, List.getElem?_take, if_pos hj, List.getElem?_eq_getElem hjz]
        rfl
      rw [e]
      congr 2
      omega

/-- The bytes of numbers, one behind the other. -/
def flat : List Nat → List Int
  | [] => []
  | n :: r => putL n ++ flat r

theorem flat_append (a b : List Nat) : flat (a ++ b) = flat a ++ flat b := by
  induction a with
  | nil => rfl
  | cons n r ih => simp [flat, ih]
theorem flat_bytes : ∀ l : List Nat, ∀ x ∈ flat l, (0 : Int) ≤ x ∧ x < 256
  | [], x, h => by simp [flat] at h
  | n :: r, x, h => by
    rcases List.mem_append.1 h with h | h
    · exact putL_bytes n x h
    · exact flat_bytes r x h
theorem flat_len : ∀ l : List Nat, (∀ n ∈ l, n < 18446744073709551616) → (flat l).length ≤ 10 * l.length
  | [], _ => by simp [flat]
  | n :: r, h => by
    have h1 := putL_len64 (h n (by simp))
    have h2 := flat_len r (fun m hm => h m (by simp [hm]))
    simp only [flat, List.length_append, List.length_cons]
    omega
theorem flat_snoc (l : List Nat) (k : Nat) (hk : k < l.length) : flat (l.take (k + 1)) = flat (l.take k) ++ putL (l.getD k 0) := by
  rw [List.take_succ_eq_append_getElem hk, flat_append, List.getD_eq_getElem?_getD, List.getElem?_eq_getElem hk]
  simp [flat]
theorem flat_drop (l : List Nat) (k : Nat) (hk : k < l.length) : flat (l.drop k) = putL (l.getD k 0) ++ flat (l.drop (k + 1)) := by
  rw [List.drop_eq_getElem_cons hk, List.getD_eq_getElem?_getD, List.getElem?_eq_getElem hk]
  simp [flat]

/-- What is owned stays owned where nothing that was there turns. -/
theorem own_below {w w' : World} {base n : Nat} {e : TypeId} {size : Nat} {v : Value} {xs : List Value} (h : w.ownsRow base e size v n xs) (hb : Below w.heap.size w w') : w'.ownsRow base e size v n xs :=
  h.kept (row := none) ⟨hb.os, hb.tape, hb.output, hb.size, fun k hk _ => hb.block k hk⟩ (by cases v.ownBlock <;> simp)

/-- The first loop's state. -/
def Coll (w : World) (ns : List Nat) (k : Nat) (v : Value) (wr : World) : Prop :=
  wr.ownsRow w.heap.size 5 1 v (flat (ns.take k)).length (cs (flat (ns.take k))) ∧ Below w.heap.size w wr

set_option maxRecDepth 100000 in
set_option maxHeartbeats 1000000 in
theorem parts_some (b o len cap : Nat) (ns : List Nat) (w : World) (hlen : ns.length = len) (h0 : 0 < len) (h20 : len ≤ 20) (hns : ∀ n ∈ ns, n < 18446744073709551616) (hbw : b < w.heap.size)
    (hc : ∀ j, j < len → w.cell? ⟨b, o + j, none⟩ = some (.int .u64 ((ns.getD j 0 : Nat) : Int))) :
    Calls Try.prog 10 #[.slice (some ⟨b, o, none⟩) len cap] w fun e w' => e = .returned (.bool true) ∧ Below w.heap.size w w' := by
  have Haw := Lib.hid (awake_any w)
  have HL := Lib.hid hlen
  have HN := Lib.hid hns
  have HC := Lib.hid hc
  clear hlen hns hc
  go_enter Try.func10, Try.ntmps10
  go_wp2_with fail
  refine Haw.out.mono ?_
  rintro e w1 ⟨rfl, hb1⟩
  go_wp2_with fail
  have Hb1 := Lib.hid hb1
  clear hb1 Haw
  go_loopw [4, 5] (fun v i wr => ∃ k : Nat, k ≤ len ∧ i = .int .i64 k ∧ Coll w1 ns k v wr) (fun _ i _ => len - (intOf i).toNat)
  case atStart => exact ⟨0, by omega, rfl, World.ownsRow_nil _ _ _ _, Below.refl _ _⟩
  case round =>
    obtain ⟨k, hk, rfl, hst⟩ := hrel
    by_cases hlt : k < len
    · have hx := HN.out (ns.getD k 0) (by rw [List.getD_eq_getElem?_getD, List.getElem?_eq_getElem (by rw [HL.out]; exact hlt)]; exact List.getElem_mem _)
      have hcell := ((Reg.below_trans Hb1.out (hst.2)).cell (p := ⟨b, o + k, none⟩) hbw).trans (HC.out k hlt)
      have hsn := Lib.hid (flat_snoc ns k (by rw [HL.out]; exact hlt))
      have hfl := flat_len (ns.take k) (fun n hn => HN.out n (List.mem_of_mem_take hn))
      rw [List.length_take] at hfl
      have hp10 := putL_len64 hx
      obtain ⟨x, hxx⟩ : ∃ x, x = ns.getD k 0 := ⟨_, rfl⟩
      rw [← hxx] at hx hcell hsn hp10
      clear hxx
      have Hst := Lib.hid hst
      clear hst
      go_wp2_with fail
      refine (Put_mem x wr hx).mono ?_
      rintro e w2 ⟨g, cap1, rfl, hg1, hg2, hcap1, hB1, _, hb2⟩
      have hown := own_below Hst.out.1 hb2
      have hbel := Hst.out.2
      have hb2' : Below w1.heap.size w1 w2 := Reg.below_trans hbel hb2
      have hsz := hb2'.size
      go_wp2_with (at_builtin; refine wp_append_b rfl (.tmp 25) (.tmp 30) rfl w1.heap.size _ _ (flat (ns.take k)) rfl hown (some ⟨g, 0, none⟩) _ cap1 (putL x) rfl rfl hB1 (fun h => by cases h) (by omega) hsz ?_; intro v1 w3 hown1 hgrow1; refine pause ?_)
      have hst2 : Coll w1 ns (k + 1) v1 w3 := by
        refine ⟨?_, hb2'.grown hgrow1 hsz (fun q hq => (hown.lt q hq).1)⟩
        rw [hsn.out, List.length_append]
        exact hown1
      clear hown1 hgrow1 hown hcell hB1 hbel hb2 hb2'
      unfold Pause
      go_wp2
      go_roundw
      case rel => exact ⟨k + 1, by omega, by go_num, hst2⟩
      case measure => simp [intOf]; omega
    · obtain rfl : k = len := by omega
      have hfn : flat (ns.take k) ≠ [] := by
        intro h
        have h1 := flat_drop ns 0 (by rw [HL.out]; exact h0)
        rw [List.take_of_length_le (by rw [HL.out]; exact Nat.le_refl _)] at h
        rw [List.drop_zero, h] at h1
        have h2 := putL_pos (ns.getD 0 0)
        have h3 := congrArg List.length h1
        simp only [List.length_nil, List.length_append] at h3
        omega
      obtain ⟨g, c0, rfl, hgl, hg1, hg2, hgc, hgB⟩ := own_form hst.1 (flat_bytes _) (List.length_pos_iff.2 hfn)
      have hbel : Below w.heap.size w wr := Reg.below_trans Hb1.out hst.2
      have hfl := flat_len ns HN.out
      rw [HL.out] at hfl
      have htk : flat (ns.take k) = flat (ns.drop 0) := by rw [List.take_of_length_le (by rw [HL.out]; exact Nat.le_refl _), List.drop_zero]
      rw [htk] at hgB hgc ⊢
      have hM : (flat (ns.drop 0)).length ≤ 10 * k := by rw [List.drop_zero]; exact hfl
      obtain ⟨M, hMe⟩ : ∃ M, M = (flat (ns.drop 0)).length := ⟨_, rfl⟩
      rw [← hMe] at hgc hM ⊢
      have HM := Lib.hid hMe
      have HB := Lib.hid hgB
      clear hst hfn hgl htk hMe hgB hfl Hb1
      go_wp2_with fail
      go_loop [4, 6] (fun v i => ∃ (j : Nat) (A : Option Addr) (m c : Nat), j ≤ k ∧ i = .int .i64 j ∧ v = .slice A m c ∧ m ≤ c ∧ m ≤ 10 * k ∧ m = (flat (ns.drop j)).length ∧ IsB wr A (flat (ns.drop j))) (fun _ i => k - (intOf i).toNat)
      case atStart => exact ⟨0, _, M, c0, by omega, rfl, rfl, hgc, hM, HM.out, HB.out⟩
      case round =>
        obtain ⟨j, A, m, c, hj, rfl, rfl, hmc, hm10, hm, hA⟩ := hrel
        by_cases hlt : j < k
        · have hx := HN.out (ns.getD j 0) (by rw [List.getD_eq_getElem?_getD, List.getElem?_eq_getElem (by rw [HL.out]; exact hlt)]; exact List.getElem_mem _)
          have hcell := (hbel.cell (p := ⟨b, o + j, none⟩) hbw).trans (HC.out j hlt)
          have hfd := flat_drop ns j (by rw [HL.out]; exact hlt)
          obtain ⟨x, hxx⟩ : ∃ x, x = ns.getD j 0 := ⟨_, rfl⟩
          rw [← hxx] at hx hcell hfd
          have hget := Get_any A (flat (ns.drop j)) c wr (by omega) hA
          rw [← hm, hfd, getS_put hx _ (flat_bytes _)] at hget
          have hmP : m = (putL x).length + (flat (ns.drop (j + 1))).length := by rw [hm, hfd, List.length_append]
          have hp1 := putL_pos x
          obtain ⟨b2, o2, rfl, _⟩ := hA.2 (by rw [hfd, List.length_append]; omega)
          have hA2 := isB_drop hA (putL x).length
          rw [hfd, List.drop_left] at hA2
          obtain ⟨q, hq⟩ : ∃ q, q = (putL x).length := ⟨_, rfl⟩
          rw [← hq] at hget hmP hp1 hA2
          have Hget := Lib.hid (show Calls Try.prog 12 #[.slice (some ⟨b2, o2, none⟩) m c] wr fun e w' => e = .returned (.tuple #[.int .u64 (x : Int), .int .i64 (q : Int), .bool true]) ∧ wr = w' from hget)
          have HmP := Lib.hid hmP
          have hqm : q ≤ m := by omega
          have HA2 := Lib.hid hA2
          clear hget hmP hA2 hA hm hfd hxx hq
          by_cases hcq : c = q
          · subst hcq
            obtain rfl : m = c := by omega
            go_wp2_with fail
            refine Hget.out.mono ?_
            rintro e w5 ⟨rfl, rfl⟩
            go_wp2_with fail
            go_round
            case rel =>
              have hr : (flat (ns.drop (j + 1))).length = 0 := by have := HmP.out; omega
              exact ⟨j + 1, _, 0, 0, by omega, by go_num, rfl, by omega, by omega, hr.symm, ⟨flat_bytes _, fun h => by omega⟩⟩
            case measure => simp [intOf]; omega
          · go_wp2_with fail
            refine Hget.out.mono ?_
            rintro e w5 ⟨rfl, rfl⟩
            go_wp2_with fail
            go_round
            case rel => exact ⟨j + 1, _, m - q, c - q, by omega, by go_num, rfl, by omega, by omega, by have := HmP.out; omega, HA2.out⟩
            case measure => simp [intOf]; omega
        · obtain rfl : j = k := by omega
          rw [List.drop_of_length_le (by rw [HL.out]; exact Nat.le_refl _)] at hm
          obtain rfl : m = 0 := hm
          go_wp2_with fail
          go_ret
          exact ⟨ret_bool rfl, hbel⟩

theorem parts_none (A : Option Addr) (cap : Nat) (w : World) :
    Calls Try.prog 10 #[.slice A 0 cap] w fun e w' => e = .returned (.bool true) ∧ Below w.heap.size w w' := by
  have Haw := Lib.hid (awake_any w)
  go_enter Try.func10, Try.ntmps10
  go_wp2_with fail
  refine Haw.out.mono ?_
  rintro e w1 ⟨rfl, hb1⟩
  go_wp2_with fail
  refine wp_loop_rounds 1 ?_
  rw [rounds_succ]
  go_wp2
  refine wp_loop_rounds 1 ?_
  rw [rounds_succ]
  go_wp2
  go_ret
  exact ⟨ret_bool rfl, hb1⟩

theorem parts_long (A : Option Addr) (len cap : Nat) (w : World) (h : 20 < len) (hm : len ≤ 9223372036854775807) :
    Calls Try.prog 10 #[.slice A len cap] w fun e w' => e = .returned (.bool true) ∧ Below w.heap.size w w' := by
  have Haw := Lib.hid (awake_any w)
  go_enter Try.func10, Try.ntmps10
  go_wp2_with fail
  refine Haw.out.mono ?_
  rintro e w1 ⟨rfl, hb1⟩
  go_wp2_with fail
  go_ret
  exact ⟨rfl, hb1⟩

theorem parts_walk (A : Option Addr) (len cap : Nat) (zs : List Int) (w : World) (w0 : RowU64 w A len cap zs) :
    Calls Try.prog 10 #[.slice A len cap] w fun e w' => e = .returned (.bool true) ∧ Below w.heap.size w w' := by
  have hmax : len ≤ 9223372036854775807 := by
    rcases w0 with ⟨_, rfl, _, _⟩ | ⟨x, _, h1, h2, _⟩
    · omega
    · unfold maxLen at h2; omega
  by_cases h0 : 0 < len
  · by_cases h20 : len ≤ 20
    · obtain ⟨b, o, ns, rfl, h1, h2, h3, h4⟩ := row_u64 w0 h0
      exact parts_some b o len cap ns w h1 h0 h20 h2 h3 h4
    · exact parts_long A len cap w (by omega) hmax
  · obtain rfl : len = 0 := by omega
    exact parts_none A cap w

end Go.Proofs.Ythkkokcghblkpaa.LeG
