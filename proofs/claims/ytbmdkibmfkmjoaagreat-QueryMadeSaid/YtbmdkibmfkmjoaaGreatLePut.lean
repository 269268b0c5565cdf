/- Put of the program: the bytes of the number, in new memory; at every number of its type; nothing is asked. -/
import Derived.Test.YtbmdkibmfkmjoaaGreatLeMath
import Derived.Test.YtbmdkibmfkmjoaaGreatLeZigMath
import Derived.Test.YtbmdkibmfkmjoaaGreatShelf
import Derived.Outline
import Derived.Deep.Draws
namespace Go.Proofs.YtbmdkibmfkmjoaaGreat.LeP
open Go.RowKit Go.Proofs.YtbmdkibmfkmjoaaGreat.LeM Go.Proofs.YtbmdkibmfkmjoaaGreat.LeZ Go.Proofs.YtbmdkibmfkmjoaaGreat.BM

theorem or_one (n : Nat) : n ||| 1 = 2 * (n / 2) + 1 := by
  have h := nat_join 1 (2 * (n / 2)) 1 (by omega) (by decide)
  by_cases h2 : n % 2 = 0
  · have e : n = 2 * (n / 2) := by omega
    rw [← h, ← e]
  · apply Nat.eq_of_testBit_eq
    intro i
    cases i with
    | zero => simp
    | succ i =>
      rw [Nat.testBit_succ, Nat.testBit_succ]
      congr 1
      have : n = 2 * (n / 2) + 1 := by omega
      rw [Nat.or_div_two]
      simp
      omega

theorem or_one_pos (n : Nat) : n ||| 1 ≠ 0 := by rw [or_one]; omega

theorem len_put : ∀ n, n < 18446744073709551616 → (putL n).length = (Lib.bitLen (n ||| 1) - 1) / 7 + 1 ∧ 1 ≤ Lib.bitLen (n ||| 1) ∧ Lib.bitLen (n ||| 1) ≤ 64 := by
  refine put_ind ?_ ?_
  · intro n h hn
    have h7 : Lib.bitLen (n ||| 1) ≤ 7 := Lib.bitLen_le _ 7 (by decide) (by rw [or_one]; omega)
    have h1 := Lib.bitLen_half (n ||| 1) (or_one_pos n) (by rw [or_one]; omega)
    rw [putL_lt h]
    simp only [List.length_cons, List.length_nil]
    omega
  · intro n h ih hn
    obtain ⟨i1, i2, i3⟩ := ih (by omega)
    have hs := Lib.bitLen_shift 7 (n ||| 1) (by rw [or_one]; omega) (by rw [or_one]; omega)
    have e1 : (n ||| 1) / 2 ^ 7 = n / 128 := by rw [or_one]; omega
    rw [e1] at hs
    have h2 := Lib.bitLen_half (n / 128) (by omega) (by omega)
    have h3 := Lib.bitLen_half (n / 128 ||| 1) (or_one_pos _) (by rw [or_one]; omega)
    have e2 : (n / 128 ||| 1) / 2 = n / 128 / 2 := by rw [or_one]; omega
    rw [e2] at h3
    have h64 : Lib.bitLen (n ||| 1) ≤ 64 := Lib.bitLen_le _ 64 (by decide) (by rw [or_one]; omega)
    rw [putL_ge h, List.length_cons, i1]
    omega

theorem behind_any (n : Nat) (w : World) (hn : n < 18446744073709551616) :
    Calls Tryz.prog 79 #[.int .u64 n] w fun e w' => e = .returned (.int .i64 (((putL n).length - 1 : Nat) : Int)) ∧ w = w' := by
  obtain ⟨l1, l2, l3⟩ := len_put n hn
  have hb : bits .or .u64 (n : Int) 1 = ((n ||| 1 : Nat) : Int) := u64_or_nat n 1 hn (by decide)
  have hlt : n ||| 1 < 18446744073709551616 := by rw [or_one]; omega
  have hc := Tryz.bits_Len64 ((n ||| 1 : Nat) : Int) w (by omega) (by omega)
  rw [Int.toNat_natCast] at hc
  obtain ⟨k, hk⟩ : ∃ k, k = Lib.bitLen (n ||| 1) := ⟨_, rfl⟩
  rw [← hk] at hc l1 l2 l3
  have Hc := Lib.hid hc
  clear hc hk
  have Hl := Lib.hid l1
  clear l1
  go_enter Tryz.func79, Tryz.ntmps79
  go_wp2_with fail
  refine Hc.out.mono ?_
  rintro e w' ⟨rfl, rfl⟩
  go_wp2_with fail
  go_ret
  refine ⟨ret_int ?_, rfl⟩
  have := Hl.out
  omega

/-- What Put answers: the bytes, owned by the call. -/
def Puts (n : Nat) (w : World) (e : Ending) (w' : World) : Prop :=
  ∃ v, e = .returned v ∧ w'.ownsRow w.heap.size 5 1 v (putL n).length (cs (putL n)) ∧ Below w.heap.size w w'

theorem or_128 (m : Nat) : bits .or .u8 ((m : Int) % 256) 128 = (m : Int) % 128 + 128 := by
  have h := u8_or_nat (m % 256) 128 (by omega) (by decide)
  have e : ((m % 256 : Nat) : Int) = (m : Int) % 256 := by omega
  rw [e] at h
  refine h.trans ?_
  have h1 : ∀ x : Fin 256, x.val ||| 128 = x.val % 128 + 128 := by decide +kernel
  have := h1 ⟨m % 256, by omega⟩
  simp only at this
  rw [this]
  omega

/-- The loop's state: some bytes are there, the rest is to come. -/
def St (n : Nat) (w : World) (k m : Nat) (pre : List Int) (v : Value) (wr : World) : Prop :=
  pre.length = k ∧ putL n = pre ++ putL m ∧ m ≤ n ∧ wr.ownsRow w.heap.size 5 1 v k (cs pre) ∧ Below w.heap.size w wr

theorem St.step {n : Nat} {w : World} {k m : Nat} {pre : List Int} {v v' : Value} {wr w1 : World} (h : St n w k m pre v wr) (hm : 128 ≤ m)
    (ho : w1.ownsRow w.heap.size 5 1 v' (k + 1) (cs pre ++ [.int .u8 ((m : Int) % 128 + 128)])) (hg : (wr.alloc (.cells #[.int .u8 ((m : Int) % 128 + 128)] 5)).grownBy w1 v.ownBlock) :
    St n w (k + 1) (m / 128) (pre ++ [((m : Int) % 128 + 128)]) v' w1 := by
  obtain ⟨h1, h2, h3, h4, h5⟩ := h
  refine ⟨by simp [h1], ?_, by omega, by rw [← cs_snoc]; exact ho, ?_⟩
  · rw [h2, putL_ge hm]
    simp
  · refine (h5.alloc h5.size _).grown hg (by have := h5.size; simp; omega) ?_
    intro j hj
    exact (h4.lt j hj).1

theorem St.last {n : Nat} {w : World} {k m : Nat} {pre : List Int} {v v' : Value} {wr w1 : World} (h : St n w k m pre v wr) (hm : m < 128)
    (ho : w1.ownsRow w.heap.size 5 1 v' (k + 1) (cs pre ++ [.int .u8 (m : Int)])) (hg : (wr.alloc (.cells #[.int .u8 (m : Int)] 5)).grownBy w1 v.ownBlock) :
    Puts n w (.returned v') w1 := by
  obtain ⟨h1, h2, h3, h4, h5⟩ := h
  have e : putL n = pre ++ [(m : Int)] := by rw [h2, putL_lt hm]
  refine ⟨v', rfl, ?_, ?_⟩
  · rw [e, List.length_append, h1, ← cs_snoc]
    exact ho
  · refine (h5.alloc h5.size _).grown hg (by have := h5.size; simp; omega) ?_
    intro j hj
    exact (h4.lt j hj).1

theorem Put_any (n : Nat) (w : World) (hn : n < 18446744073709551616) :
    Calls Tryz.prog 48 #[.int .u64 n] w (Puts n w) := by
  obtain ⟨i0, hi, hz0, hz1, hz2⟩ := info_parts info_u8
  have hL := putL_pos n
  have hL10 := putL_len64 hn
  obtain ⟨L, hLd⟩ : ∃ L, L = (putL n).length := ⟨_, rfl⟩
  have hb := behind_any n w hn
  rw [← hLd] at hb hL hL10
  have Hb := Lib.hid hb
  have HL := Lib.hid hLd
  clear hb hLd
  go_enter Tryz.func48, Tryz.ntmps48
  go_wp2_with fail
  refine Hb.out.mono ?_
  rintro e w' ⟨rfl, rfl⟩
  go_wp2_with (at_make; refine wpList_make_own _ rfl _ _ 26 rfl w.heap.size 5 i0 (.int .u8 0) 1 Tryz.underlying26 hi hz0 hz1 .i64 .i64 _ L rfl rfl (by omega) (by rw [hz2]; omega) (by unfold maxLen; omega) (Nat.le_refl _) ?_; intro w0 hown0 hgrow0)
  go_loopw [0, 4, 11] (fun nn v i wr => ∃ (k m : Nat) (pre : List Int), k + 1 ≤ L ∧ nn = .int .u64 m ∧ i = .int .i64 k ∧ St n w k m pre v wr) (fun _ _ i _ => L - (intOf i).toNat)
  case atStart => exact ⟨0, n, [], by omega, rfl, rfl, rfl, rfl, Nat.le_refl _, hown0, (Below.refl _ _).grown hgrow0 (Nat.le_refl _) (fun _ h => by cases h)⟩
  case round =>
    obtain ⟨k, m, pre, hk, rfl, rfl, hst⟩ := hrel
    have hown := hst.2.2.2.1
    have hbel := hst.2.2.2.2
    have hor := or_128 m
    have hpl : L = k + (putL m).length := by rw [HL.out, hst.2.1, List.length_append, hst.1]
    have hmn : m ≤ n := hst.2.2.1
    by_cases hlt : k < L - 1
    · have hm : 128 ≤ m := by
        rcases Nat.lt_or_ge m 128 with h | h
        · rw [putL_lt h] at hpl; simp at hpl; omega
        · exact h
      clear hpl
      go_wp2_with (at_builtin; refine wpList_append_own _ rfl (.tmp 13) (.tmp 17) 26 rfl w.heap.size 5 i0 (.int .u8 0) 1 1 Tryz.underlying26 hi hz0 hz1 hz2 rfl (by decide) _ _ _ rfl (hown.alloc _) ⟨wr.heap.size, 0, none⟩ 1 1 [.int .u8 ((m : Int) % 128 + 128)] rfl rfl (cell_one_new _ _ _) (fun x hx => by simp at hx; subst hx; rfl) (by unfold maxLen; omega) (by omega) (by have := hbel.size; simp; omega) ?_; intro v' w1 hown1 hgrow1 _)
      have hs := hst.step hm hown1 hgrow1
      clear hown1 hgrow1 hst hown hbel hor
      go_wp2
      go_roundw
      case rel => exact ⟨k + 1, m / 128, _, by omega, by go_num, by go_num, hs⟩
      case measure => simp [intOf]; omega
    · have hm : m < 128 := by
        rcases Nat.lt_or_ge m 128 with h | h
        · exact h
        · rw [putL_ge h, List.length_cons] at hpl
          have := putL_pos (m / 128)
          omega
      clear hpl
      go_wp2_with (at_builtin; refine wpList_append_own _ rfl (.tmp 22) (.tmp 25) 26 rfl w.heap.size 5 i0 (.int .u8 0) 1 1 Tryz.underlying26 hi hz0 hz1 hz2 rfl (by decide) _ _ _ rfl (hown.alloc _) ⟨wr.heap.size, 0, none⟩ 1 1 [.int .u8 (m : Int)] rfl rfl (cell_one_new _ _ _) (fun x hx => by simp at hx; subst hx; rfl) (by unfold maxLen; omega) (by omega) (by have := hbel.size; simp; omega) ?_; intro v' w1 hown1 hgrow1 _)
      have hs := hst.last hm hown1 hgrow1
      clear hown1 hgrow1 hst hown hbel hor
      go_wp2
      go_ret
      exact hs
end Go.Proofs.YtbmdkibmfkmjoaaGreat.LeP
