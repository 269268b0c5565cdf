/- RegistryOne: the walk; asked: what comes in, opened. -/
import Derived.Test.YtnkhnfkohnflcaaRegAwake
import Derived.Test.YtnkhnfkohnflcaaRegRoom
import Derived.Test.YtnkhnfkohnflcaaOpenSchemas
import Derived.Test.YtnkhnfkohnflcaaSchemaMay
namespace Go.Proofs.Ytnkhnfkohnflcaa.Rg
open Go.RowKit Go.Proofs.Ytnkhnfkohnflcaa.BM Go.Proofs.Ytnkhnfkohnflcaa.LM Go.Proofs.Ytnkhnfkohnflcaa.VaM Go.Proofs.Ytnkhnfkohnflcaa.Va Go.Proofs.Ytnkhnfkohnflcaa.Sc Go.Proofs.Ytnkhnfkohnflcaa.RgM
open Go.Proofs.Ytnkhnfkohnflcaa.ScM (Sc Fit)

/-- How many of a name are among the first j, if schemas may be. -/
def cnt (l : List Sc) (nm : ByteArray) (j : Nat) : Nat := match At l nm with
  | some i => if i < j then 1 else 0
  | none => 0

theorem cnt_zero (l : List Sc) (nm : ByteArray) : cnt l nm 0 = 0 := by
  unfold cnt
  split
  · rfl
  · rfl

theorem cnt_yes {l : List Sc} {nm : ByteArray} {j : Nat} (hm : LGd l l.length) (hj : j < l.length) (h : (l.getD j s0).s = nm) : cnt l nm j = 0 ∧ cnt l nm (j + 1) = 1 := by
  have h1 := (hm j hj).2
  rw [h] at h1
  unfold cnt
  rw [h1]
  simp

theorem cnt_no {l : List Sc} {nm : ByteArray} {j : Nat} (h : (l.getD j s0).s ≠ nm) : cnt l nm (j + 1) = cnt l nm j := by
  unfold cnt
  split
  · rename_i i hi
    have hne : i ≠ j := fun e => h (by rw [← e]; exact (at_some.1 hi).2.1)
    by_cases g : i < j
    · rw [if_pos g, if_pos (by omega)]
    · rw [if_neg g, if_neg (by omega)]
  · rfl

set_option maxRecDepth 100000 in
set_option maxHeartbeats 4000000 in
theorem one_walk (a0 : Option Addr) (len0 cap0 : Nat) (nm : ByteArray) (W : World) (h0 : Op.ArgL W a0 len0 cap0) (hz : nm.size ≤ 140737488351232) :
    Calls Try.prog 7 #[.slice a0 len0 cap0, .string nm] W fun e w' => e = .returned (.bool true) ∧ Below W.heap.size W w' := by
  obtain ⟨l, hn, hS⟩ := h0
  subst hn
  have hfew := fun w (h : Below W.heap.size W w) => Few_any l a0 cap0 w (hS.kept h)
  have hmay := fun w (h : Below W.heap.size W w) => May_any l a0 cap0 w (hS.kept h)
  have hfind := fun w (h : Below W.heap.size W w) (g : RoomL l) => Find_any l nm a0 cap0 w (hS.kept h) g
  have hl := slS_len hS
  have hc0 := cnt_zero l nm
  have hcy := fun j => @cnt_yes l nm j
  have hcn := fun j => @cnt_no l nm j
  obtain ⟨n, hn⟩ : ∃ n, n = l.length := ⟨_, rfl⟩
  simp only [← hn] at hfew hmay hfind hcy
  rw [← hn] at hl ⊢
  have HFew := Lib.hid hfew
  have HMay := Lib.hid hmay
  have HFind := Lib.hid hfind
  have HS := Lib.hid hS
  have HLen := Lib.hid hn
  have HC0 := Lib.hid hc0
  have HCy := Lib.hid hcy
  have HCn := Lib.hid hcn
  clear hn hS hfew hmay hfind hc0 hcy hcn
  go_enter Try.func7, Try.ntmps7
  go_wp2_with fail
  refine (awake_any W).mono ?_
  rintro e w1 ⟨rfl, hb1⟩
  have HB1 := Lib.hid hb1
  clear hb1
  go_wp2_with fail
  refine (HFew.out w1 HB1.out).mono ?_
  rintro e w2 ⟨rfl, hb2⟩
  have HB2 := Lib.hid (bt HB1.out hb2)
  clear hb2 HB1
  by_cases hfew : Few l
  · rw [decide_eq_true hfew]
    have HRm := Lib.hid (roomL_few hfew)
    clear hfew
    by_cases h60 : nm.size ≤ 60
    · have hd60 : decide ((60 : Int) < (nm.size : Int)) = false := by rw [decide_eq_false_iff_not]; omega
      go_wp2_with fail
      refine (HMay.out w2 HB2.out).mono ?_
      rintro e w3 ⟨rfl, hb3⟩
      have HB3 := Lib.hid (bt HB2.out hb3)
      clear hb3 HB2 hd60
      by_cases hmay : May l
      · rw [decide_eq_true hmay]
        have HMy := Lib.hid hmay
        clear hmay
        go_wp2_with fail
        go_loopw [7, 8] (fun m i wr => ∃ j : Nat, i = .int .i64 j ∧ j ≤ n ∧ m = .int .i64 (cnt l nm j : Nat) ∧ wr = w3) (fun _ i _ => n - (intOf i).toNat)
        case atStart => exact ⟨0, rfl, Nat.zero_le _, by rw [HC0.out]; rfl, rfl⟩
        case round =>
          obtain ⟨j, rfl, hj, rfl, rfl⟩ := hrel
          by_cases hjn : j < n
          · obtain ⟨b, q, A1, c1, hix, hc, _⟩ := HS.out.at j (by rw [← HLen.out]; exact hjn)
            have hi := fun W => hix W n cap0 hjn
            obtain ⟨⟨x0, _⟩, _⟩ := hc wr HB3.out
            have hy := HCy.out j
            have hno := HCn.out j
            obtain ⟨t, ht⟩ : ∃ t, t = (l.getD j s0).s := ⟨_, rfl⟩
            rw [← ht] at x0 hno hy
            clear hix hc ht
            by_cases he : t = nm
            · subst he
              have hee : (t.toList == t.toList) = true := by simp
              obtain ⟨g1, g2⟩ := hy (by rw [HLen.out]; exact HMy.out.1) hjn rfl
              rw [g1]
              have HG2 := Lib.hid g2
              clear g1 g2 hy hno
              go_wp2_with fail
              go_roundw
              case rel => exact ⟨j + 1, by go_num, by omega, by rw [HG2.out]; go_num, by trivial⟩
              case measure => simp [intOf]; omega
            · have hee := str_ne he
              have HNo := Lib.hid (hno he)
              obtain ⟨k, hk⟩ : ∃ k, k = cnt l nm j := ⟨_, rfl⟩
              rw [← hk] at HNo ⊢
              clear he hy hno hk
              go_wp2_with fail
              go_roundw
              case rel => exact ⟨j + 1, by go_num, by omega, by rw [HNo.out], by trivial⟩
              case measure => simp [intOf]; omega
          · obtain rfl : j = n := by omega
            cases hat : At l nm with
            | none =>
              have hc : cnt l nm j = 0 := by unfold cnt; rw [hat]
              have HF := Lib.hid (HFind.out wr HB3.out HRm.out)
              unfold Found at HF
              simp only [find_no hat, s0, e0, List.length_nil] at HF
              rw [hc]
              clear hc hat
              go_wp2_with fail
              refine HF.out.mono ?_
              rintro e w4 ⟨A4, c4, rfl, hf4, _, hb4⟩
              have ha4 := (Below.refl w4.heap.size w4).alloc (Nat.le_refl _) (.cells #[.string ⟨#[]⟩, .int .i64 0, .slice A4 0 c4] 25)
              obtain ⟨⟨p0, p1, p2⟩, _⟩ := bx_new_t w4 25 (.string ⟨#[]⟩) (.int .i64 0) (.slice A4 0 c4)
              have HB5 := Lib.hid (bt HB3.out (bt hb4 ha4))
              clear hb4 ha4 HF hf4
              go_wp2_with fail
              go_ret
              exact ⟨ret_v (x := .bool true) rfl, HB5.out⟩
            | some i =>
              obtain ⟨hi1, hi2, _⟩ := at_some.1 hat
              have hc : cnt l nm j = 1 := by unfold cnt; rw [hat]; simp only; rw [if_pos (by rw [HLen.out]; exact hi1)]
              have hgd := (HMy.out.1 i hi1).1
              have HF := Lib.hid (HFind.out wr HB3.out HRm.out)
              unfold Found at HF
              simp only [find_of hat] at HF
              rw [hc]
              obtain ⟨t, ht⟩ : ∃ t, t = l.getD i s0 := ⟨_, rfl⟩
              rw [← ht] at HF hgd hi2
              clear hc hat ht hi1
              obtain ⟨ts, tv, tf⟩ := t
              simp only at HF hi2
              subst hi2
              have HGd := Lib.hid hgd
              clear hgd
              go_wp2_with fail
              refine HF.out.mono ?_
              rintro e w4 ⟨A4, c4, rfl, hf4, hz4, hb4⟩
              have ha4 := (Below.refl w4.heap.size w4).alloc (Nat.le_refl _) (.cells #[.string ts, .int .i64 tv, .slice A4 tf.length c4] 25)
              have HM5 := Lib.hid (Go.Proofs.Ytnkhnfkohnflcaa.Sc.May_any ⟨ts, tv, tf⟩ A4 c4 _ (hf4.kept ha4) hz4)
              obtain ⟨⟨p0, p1, p2⟩, _⟩ := bx_new_t w4 25 (.string ts) (.int .i64 tv) (.slice A4 tf.length c4)
              have HB5 := Lib.hid (bt HB3.out (bt hb4 ha4))
              rw [decide_eq_true HGd.out] at HM5
              simp only at HM5
              obtain ⟨k, hk⟩ : ∃ k, k = tf.length := ⟨_, rfl⟩
              rw [← hk] at HM5 HB5 p0 p1 p2 ⊢
              have hee : (ts.toList == ts.toList) = true := by simp
              clear hb4 ha4 HF hf4 hz4 hk
              go_wp2_with fail
              refine HM5.out.mono ?_
              rintro e w6 ⟨rfl, hb6⟩
              have HB6 := Lib.hid (bt HB5.out hb6)
              clear hb6 p0 p1 p2
              go_wp2_with fail
              go_ret
              exact ⟨ret_v (x := .bool true) rfl, HB6.out⟩
      · rw [decide_eq_false hmay]
        clear hmay
        go_wp2_with fail
        go_ret
        exact ⟨ret_v (x := .bool true) rfl, HB3.out⟩
    · have hd60 : decide ((60 : Int) < (nm.size : Int)) = true := by rw [decide_eq_true_iff]; omega
      go_wp2_with fail
      go_ret
      exact ⟨ret_v (x := .bool true) rfl, HB2.out⟩
  · rw [decide_eq_false hfew]
    clear hfew
    obtain ⟨d60, hd60⟩ : ∃ d, d = decide ((60 : Int) < (nm.size : Int)) := ⟨_, rfl⟩
    go_wp2_with fail
    go_ret
    exact ⟨ret_v (x := .bool true) rfl, HB2.out⟩
end Go.Proofs.Ytnkhnfkohnflcaa.Rg
