/- The walk of EventCut: a beginning of an event's bytes is none; the event's parts lie where they say. -/
import Derived.Test.YtbakhodijhacoaaEventAwake
import Derived.Test.YtbakhodijhacoaaEventFew
import Derived.Test.YtbakhodijhacoaaOpenEvent
namespace Go.Proofs.Ytbakhodijhacoaa.Ev
open Go.RowKit Go.Proofs.Ytbakhodijhacoaa.BM Go.Proofs.Ytbakhodijhacoaa.LM Go.Proofs.Ytbakhodijhacoaa.EvM
open Go.Proofs.Ytbakhodijhacoaa.VaM (V e0)
open Go.Proofs.Ytbakhodijhacoaa.Va (SlV bx_new_t Bx ret_v)

set_option maxRecDepth 100000 in
set_option maxHeartbeats 2000000 in
theorem cut_walk (s : ByteArray) (v : Int) (a : Option Addr) (len cap : Nat) (at' : Int) (w : World) (hs : Op.ArgE w s v a len cap) (_ha : (Lit.int .i64 at').wf = true) :
    Calls Try.prog 6 #[.agg #[.string s, .int .i64 v, .slice a len cap], .int .i64 at'] w fun e w' => e = .returned (.bool true) ∧ Below w.heap.size w w' := by
  obtain ⟨l, hlen, hS, hfine⟩ := hs
  have hF := fun W (hW : Below w.heap.size w W) => Few_any ⟨s, v, l⟩ a cap W (hS.kept hW) hfine.1
  have hP := fun W (hW : Below w.heap.size w W) => Put_any ⟨s, v, l⟩ a cap W (hS.kept hW) hfine
  simp only [hlen] at hF hP
  have hrng : Rngs l := fun x hx => (hS.2 x hx).2
  have hpl := pv_len (e := ⟨s, v, l⟩) hrng
  have HRng := Lib.hid hrng
  have HF := Lib.hid hF
  have HP := Lib.hid hP
  have HX := Lib.hid (bx_new_t w 27 (.string s) (.int .i64 v) (.slice a len cap))
  have HB := Lib.hid ((Below.refl w.heap.size w).alloc (Nat.le_refl _) (.cells #[.string s, .int .i64 v, .slice a len cap] 27))
  clear hF hP hS hfine hlen hrng
  go_enter Try.func6, Try.ntmps6
  go_wp2_with fail
  refine (awake_any _).mono ?_
  rintro e w1 ⟨rfl, hb⟩
  have HX1 := Lib.hid (HX.out.kept hb)
  have HB1 := Lib.hid (bt HB.out hb)
  clear hb HX HB
  obtain ⟨⟨p0, p1, p2⟩, _⟩ := HX1.out
  go_wp2_with fail
  refine (HF.out _ HB1.out).mono ?_
  rintro e w2 ⟨rfl, hb⟩
  obtain ⟨P, hP⟩ : ∃ P, P = decide (Few ⟨s, v, l⟩) := ⟨_, rfl⟩
  rw [← hP]
  have HX2 := Lib.hid (HX1.out.kept hb)
  have HB2 := Lib.hid (bt HB1.out hb)
  clear hb HX1 HB1 p0 p1 p2 hP HF
  obtain ⟨⟨p0, p1, p2⟩, _⟩ := HX2.out
  go_wp2_with fail
  refine (HP.out _ HB2.out).mono ?_
  rintro e w3 ⟨A, c, rfl, h3, _, hb⟩
  obtain ⟨L, hL⟩ : ∃ L, L = (pv ⟨s, v, l⟩).length := ⟨_, rfl⟩
  rw [← hL] at hpl ⊢
  have HL := Lib.hid hL
  have HS3 := Lib.hid h3
  have HB3 := Lib.hid (bt HB2.out hb)
  clear hb HX2 HB2 p0 p1 p2 h3 HP hL
  cases P
  · by_cases hm : May ⟨s, v, l⟩
    · rw [decide_eq_true hm]
      clear hm
      go_wp2_with fail
      go_ret
      exact ⟨ret_bool (by first | rfl | simp), HB3.out⟩
    · rw [decide_eq_false hm]
      clear hm
      go_wp2_with fail
      go_ret
      exact ⟨ret_bool (by first | rfl | simp), HB3.out⟩
  · by_cases hm : May ⟨s, v, l⟩
    · rw [decide_eq_true hm]
      have hpv : pv ⟨s, v, l⟩ = pE ⟨s, v, l⟩ := by rw [pv, if_pos hm]
      have hw : at' < 0 ∨ (0 ≤ at' ∧ (L : Int) ≤ at') ∨ (0 ≤ at' ∧ at' < (L : Int)) := by omega
      rcases hw with q | ⟨q1, q2⟩ | ⟨q1, q2⟩
      · clear hm hpv
        go_wp2_with fail
        go_ret
        exact ⟨ret_bool (by first | rfl | simp), HB3.out⟩
      · have hd1 : decide (at' < 0) = false := by rw [decide_eq_false_iff_not]; omega
        clear hm hpv
        go_wp2_with fail
        go_ret
        exact ⟨ret_bool (by first | rfl | simp), HB3.out⟩
      · obtain ⟨k, rfl⟩ := Int.eq_ofNat_of_zero_le q1
        have hd1 : decide ((k : Int) < 0) = false := by rw [decide_eq_false_iff_not]; omega
        have hd2 : decide ((L : Int) ≤ (k : Int)) = false := by rw [decide_eq_false_iff_not]; omega
        have hkL : k < L := by omega
        have hcap := HS3.out.2.1
        rw [← HL.out] at hcap
        have hsl := fun W => slice_hi W A L c k (by omega)
        have hget := Get_any A ((pv ⟨s, v, l⟩).take k) c w3 (Cut.slB_head HS3.out k c (by omega) (Nat.le_refl _) (by rw [← HL.out]; omega))
        have hcut : gE ((pv ⟨s, v, l⟩).take k) = none := by
          rw [hpv]
          exact gE_cut hm HRng.out k (by rw [← hpv, ← HL.out]; exact hkL)
        have hlt : ((pv ⟨s, v, l⟩).take k).length = k := by rw [List.length_take, ← HL.out]; omega
        unfold Gots at hget
        simp only [hcut, gotE, got3, hlt, List.length_nil] at hget
        have HGet := Lib.hid hget
        clear hm hpv hget hcut hlt
        go_wp2_with fail
        refine HGet.out.mono ?_
        rintro e w4 ⟨A4, c4, rfl, _, _, hb⟩
        have HB4 := Lib.hid (bt HB3.out (bt hb ((Below.refl w4.heap.size w4).alloc (Nat.le_refl _) (.cells #[.string e0, .int .i64 0, .slice A4 0 c4] 27))))
        clear hb
        go_wp2_with fail
        go_ret
        exact ⟨ret_bool (by first | rfl | simp), HB4.out⟩
    · rw [decide_eq_false hm]
      clear hm
      go_wp2_with fail
      go_ret
      exact ⟨ret_bool (by first | rfl | simp), HB3.out⟩
end Go.Proofs.Ytbakhodijhacoaa.Ev
