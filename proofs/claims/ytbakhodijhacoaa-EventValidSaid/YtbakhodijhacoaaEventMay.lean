/- May, of the program and of the document's answers: which events may be; asked: the values lie where the slice says. -/
import Derived.Test.YtbakhodijhacoaaEventMath
import Derived.Test.YtbakhodijhacoaaValueRow
import Derived.Test.YtbakhodijhacoaaValueRefMay
import Derived.Test.YtbakhodijhacoaaSchemaName
import Derived.Test.YtbakhodijhacoaaRegion
namespace Go.Proofs.Ytbakhodijhacoaa.Ev
open Go.RowKit Go.Proofs.Ytbakhodijhacoaa.BM Go.Proofs.Ytbakhodijhacoaa.LM Go.Proofs.Ytbakhodijhacoaa.LeM Go.Proofs.Ytbakhodijhacoaa.EvM
open Go.Proofs.Ytbakhodijhacoaa.VaM (V Rng e0)
open Go.Proofs.Ytbakhodijhacoaa.Va (Bx Bx2 bx_new_t bx2_new ret_v SlV slV_len slV_none SlV.kept SlV.at SlV.take CellV)
open Go.Proofs.Ytbakhodijhacoaa.ScM (Nm)

/-- What is asked of an event's own parts. -/
def Fine (e : Ev) : Prop := e.s.size ≤ maxLen ∧ -9223372036854775808 ≤ e.t ∧ e.t ≤ 9223372036854775807

theorem may_ways (nm : ByteArray) (t : Int) (n : Nat) : ¬ Nm nm ∨ (Nm nm ∧ t < 0) ∨ (Nm nm ∧ 0 ≤ t ∧ 1125899906842624 < t) ∨ (Nm nm ∧ 0 ≤ t ∧ t ≤ 1125899906842624 ∧ 6 < n) ∨ (Nm nm ∧ 0 ≤ t ∧ t ≤ 1125899906842624 ∧ n ≤ 6) := by
  by_cases h : Nm nm
  · simp only [h, true_and, not_true, false_or]
    omega
  · exact Or.inl h

set_option maxRecDepth 100000 in
set_option maxHeartbeats 2000000 in
theorem May_any (e : Ev) (A : Option Addr) (c : Nat) (w : World) (hS : SlV w A e.v c) (hz : Fine e) :
    Calls Try.prog 18 #[.agg #[.string e.s, .int .i64 e.t, .slice A e.v.length c]] w fun r w' => r = .returned (.bool (decide (May e))) ∧ Below w.heap.size w w' := by
  obtain ⟨nm, t, l⟩ := e
  simp only at hS ⊢
  have hl := slV_len hS
  have HN := Lib.hid (fun W => Sc.Name_any nm W hz.1)
  have hmay : May ⟨nm, t, l⟩ ↔ Nm nm ∧ 0 ≤ t ∧ t ≤ 1125899906842624 ∧ l.length ≤ 6 ∧ VGd l l.length := Iff.rfl
  obtain ⟨n, hn⟩ : ∃ n, n = l.length := ⟨_, rfl⟩
  rw [← hn] at hl hmay ⊢
  have HLen := Lib.hid hn
  have HS := Lib.hid hS
  have HMay := Lib.hid hmay
  have HX0 := Lib.hid (bx_new_t w 27 (.string nm) (.int .i64 t) (.slice A n c))
  have HB0 := Lib.hid ((Below.refl w.heap.size w).alloc (Nat.le_refl _) (.cells #[.string nm, .int .i64 t, .slice A n c] 27))
  clear hn hS hmay hz
  obtain ⟨⟨p0, p1, p2⟩, _⟩ := HX0.out
  go_enter Try.func18, Try.ntmps18
  go_wp2_with fail
  refine (HN.out _).mono ?_
  rintro e w1 ⟨rfl, hb1⟩
  have HX1 := Lib.hid (HX0.out.kept hb1)
  have HB1 := Lib.hid (bt HB0.out hb1)
  clear hb1 HX0 HB0 HN p0 p1 p2
  obtain ⟨⟨p0, p1, p2⟩, _⟩ := HX1.out
  rcases may_ways nm t n with m1 | ⟨m1, m2⟩ | ⟨m1, m2, m3⟩ | ⟨m1, m2, m3, m4⟩ | ⟨m1, m2, m3, m4⟩
  · rw [decide_eq_false m1]
    have HM := Lib.hid (show ¬ May ⟨nm, t, l⟩ from fun h => m1 (HMay.out.1 h).1)
    clear m1
    go_wp2_with fail
    go_ret
    exact ⟨ret_v (x := .bool false) (by rw [decide_eq_false HM.out]), HB1.out⟩
  · rw [decide_eq_true m1]
    have HM := Lib.hid (show ¬ May ⟨nm, t, l⟩ from fun h => by have := (HMay.out.1 h).2.1; omega)
    clear m1
    go_wp2_with fail
    go_ret
    exact ⟨ret_v (x := .bool false) (by rw [decide_eq_false HM.out]), HB1.out⟩
  · rw [decide_eq_true m1]
    have HM := Lib.hid (show ¬ May ⟨nm, t, l⟩ from fun h => by have := (HMay.out.1 h).2.2.1; omega)
    have hd0 : decide (t < 0) = false := by rw [decide_eq_false_iff_not]; omega
    clear m1
    go_wp2_with fail
    go_ret
    exact ⟨ret_v (x := .bool false) (by rw [decide_eq_false HM.out]), HB1.out⟩
  · rw [decide_eq_true m1]
    have HM := Lib.hid (show ¬ May ⟨nm, t, l⟩ from fun h => by have := (HMay.out.1 h).2.2.2.1; omega)
    have hd0 : decide (t < 0) = false := by rw [decide_eq_false_iff_not]; omega
    clear m1
    go_wp2_with fail
    go_ret
    exact ⟨ret_v (x := .bool false) (by rw [decide_eq_false HM.out]), HB1.out⟩
  · rw [decide_eq_true m1]
    have HM := Lib.hid (show May ⟨nm, t, l⟩ ↔ VGd l n from ⟨fun h => (HMay.out.1 h).2.2.2.2, fun h => HMay.out.2 ⟨m1, m2, m3, m4, h⟩⟩)
    have hd0 : decide (t < 0) = false := by rw [decide_eq_false_iff_not]; omega
    clear m1 HMay
    go_wp2_with fail
    clear p0 p1 p2
    go_loopw [28] (fun i wr => ∃ j : Nat, i = .int .i64 j ∧ j ≤ n ∧ VGd l j ∧ Below w.heap.size w wr) (fun i _ => n - (intOf i).toNat)
    case atStart => exact ⟨0, rfl, Nat.zero_le _, fun r hr => absurd hr (Nat.not_lt_zero r), HB1.out⟩
    case round =>
      obtain ⟨j, rfl, hj, hgood, hbel⟩ := hrel
      have HG := Lib.hid hgood
      have HBl := Lib.hid hbel
      clear hgood hbel
      by_cases hjn : j < n
      · obtain ⟨b, q, hix, hc, hsz, _⟩ := HS.out.at v0 j (by rw [← HLen.out]; exact hjn)
        obtain ⟨⟨fk, fn, fs⟩, hf⟩ : ∃ f, f = l.getD j v0 := ⟨_, rfl⟩
        rw [← hf] at hc
        obtain ⟨c0, c1, c2⟩ := hc wr HBl.out
        simp only at c0 c1 c2
        have hi := fun W => hix W n c hjn
        have HF := Lib.hid hf
        have HV := Lib.hid (fun W => Va.May_any fk fn fs W)
        have ha2 := (Below.refl wr.heap.size wr).alloc (Nat.le_refl _) (.cells #[.int .i64 fk, .int .i64 fn, .string fs] 44)
        have HB2 := Lib.hid (bt HBl.out ha2)
        obtain ⟨⟨y0, y1, y2⟩, _⟩ := bx_new_t wr 44 (.int .i64 fk) (.int .i64 fn) (.string fs)
        clear hc hix hf ha2
        by_cases hok : VaM.May ⟨fk, fn, fs⟩
        · rw [decide_eq_true hok] at HV
          have HGo := Lib.hid (HG.out.succ (by rw [← HF.out]; exact hok))
          clear hok
          go_wp2_with fail
          refine (HV.out _).mono ?_
          rintro e w3 ⟨rfl, hb3⟩
          have HB3 := Lib.hid (bt HB2.out hb3)
          clear hb3 HV y0 y1 y2 c0 c1 c2 hi
          go_wp2_with fail
          go_roundw
          case rel => exact ⟨j + 1, by go_num, by omega, HGo.out, HB3.out⟩
          case measure => simp [intOf]; omega
        · rw [decide_eq_false hok] at HV
          have HNo := Lib.hid (show ¬ May ⟨nm, t, l⟩ from fun h => hok (by have := HM.out.1 h j hjn; rw [← HF.out] at this; exact this))
          clear hok
          go_wp2_with fail
          refine (HV.out _).mono ?_
          rintro e w3 ⟨rfl, hb3⟩
          have HB3 := Lib.hid (bt HB2.out hb3)
          clear hb3 HV y0 y1 y2 c0 c1 c2 hi
          go_wp2_with fail
          go_ret
          exact ⟨ret_v (x := .bool false) (by rw [decide_eq_false HNo.out]), HB3.out⟩
      · obtain rfl : j = n := by omega
        have HYes := Lib.hid (HM.out.2 HG.out)
        go_wp2_with fail
        go_ret
        exact ⟨ret_v (x := .bool true) (by rw [decide_eq_true HYes.out]), HBl.out⟩

set_option maxRecDepth 100000 in
set_option maxHeartbeats 2000000 in
theorem refMay_any (e : Ev) (A : Option Addr) (c : Nat) (w : World) (hS : SlV w A e.v c) (hz : Fine e) :
    Calls Try.prog 17 #[.agg #[.string e.s, .int .i64 e.t, .slice A e.v.length c]] w fun r w' => r = .returned (.bool (decide (May e))) ∧ Below w.heap.size w w' := by
  obtain ⟨nm, t, l⟩ := e
  simp only at hS ⊢
  have hl := slV_len hS
  have HN := Lib.hid (fun W => Sc.refName_any nm W hz.1)
  have hmay : May ⟨nm, t, l⟩ ↔ Nm nm ∧ 0 ≤ t ∧ t ≤ 1125899906842624 ∧ l.length ≤ 6 ∧ VGd l l.length := Iff.rfl
  obtain ⟨n, hn⟩ : ∃ n, n = l.length := ⟨_, rfl⟩
  rw [← hn] at hl hmay ⊢
  have HLen := Lib.hid hn
  have HS := Lib.hid hS
  have HMay := Lib.hid hmay
  have HX0 := Lib.hid (bx_new_t w 27 (.string nm) (.int .i64 t) (.slice A n c))
  have HB0 := Lib.hid ((Below.refl w.heap.size w).alloc (Nat.le_refl _) (.cells #[.string nm, .int .i64 t, .slice A n c] 27))
  clear hn hS hmay hz
  obtain ⟨⟨p0, p1, p2⟩, _⟩ := HX0.out
  go_enter Try.func17, Try.ntmps17
  go_wp2_with fail
  refine (HN.out _).mono ?_
  rintro e w1 ⟨rfl, rfl⟩
  obtain ⟨w1, hw1⟩ : ∃ w1, w1 = w.alloc (.cells #[.string nm, .int .i64 t, .slice A n c] 27) := ⟨_, rfl⟩
  rw [← hw1] at HB0 HX0 p0 p1 p2 ⊢
  clear HN hw1
  rcases may_ways nm t n with m1 | ⟨m1, m2⟩ | ⟨m1, m2, m3⟩ | ⟨m1, m2, m3, m4⟩ | ⟨m1, m2, m3, m4⟩
  · rw [decide_eq_false m1]
    have HM := Lib.hid (show ¬ May ⟨nm, t, l⟩ from fun h => m1 (HMay.out.1 h).1)
    clear m1
    go_wp2_with fail
    go_ret
    exact ⟨ret_v (x := .bool false) (by rw [decide_eq_false HM.out]), HB0.out⟩
  · rw [decide_eq_true m1]
    have HM := Lib.hid (show ¬ May ⟨nm, t, l⟩ from fun h => by have := (HMay.out.1 h).2.1; omega)
    clear m1
    go_wp2_with fail
    go_ret
    exact ⟨ret_v (x := .bool false) (by rw [decide_eq_false HM.out]), HB0.out⟩
  · rw [decide_eq_true m1]
    have HM := Lib.hid (show ¬ May ⟨nm, t, l⟩ from fun h => by have := (HMay.out.1 h).2.2.1; omega)
    have hd0 : decide (t < 0) = false := by rw [decide_eq_false_iff_not]; omega
    clear m1
    go_wp2_with fail
    go_ret
    exact ⟨ret_v (x := .bool false) (by rw [decide_eq_false HM.out]), HB0.out⟩
  · rw [decide_eq_true m1]
    have HM := Lib.hid (show ¬ May ⟨nm, t, l⟩ from fun h => by have := (HMay.out.1 h).2.2.2.1; omega)
    have hd0 : decide (t < 0) = false := by rw [decide_eq_false_iff_not]; omega
    clear m1
    go_wp2_with fail
    go_ret
    exact ⟨ret_v (x := .bool false) (by rw [decide_eq_false HM.out]), HB0.out⟩
  · rw [decide_eq_true m1]
    have HM := Lib.hid (show May ⟨nm, t, l⟩ ↔ VGd l n from ⟨fun h => (HMay.out.1 h).2.2.2.2, fun h => HMay.out.2 ⟨m1, m2, m3, m4, h⟩⟩)
    have hd0 : decide (t < 0) = false := by rw [decide_eq_false_iff_not]; omega
    clear m1 HMay
    go_wp2_with fail
    clear p0 p1 p2
    go_loopw [4] (fun i wr => ∃ j : Nat, i = .int .i64 j ∧ j ≤ n ∧ VGd l j ∧ Below w1.heap.size w1 wr) (fun i _ => n - (intOf i).toNat)
    case atStart => exact ⟨0, rfl, Nat.zero_le _, fun r hr => absurd hr (Nat.not_lt_zero r), Below.refl _ _⟩
    case round =>
      obtain ⟨j, rfl, hj, hgood, hbel⟩ := hrel
      have HG := Lib.hid hgood
      have HBl := Lib.hid hbel
      obtain ⟨⟨_, _, x2⟩, _⟩ := HX0.out.kept HBl.out
      clear hgood hbel
      by_cases hjn : j < n
      · obtain ⟨b, q, hix, hc, hsz, _⟩ := HS.out.at v0 j (by rw [← HLen.out]; exact hjn)
        obtain ⟨⟨fk, fn, fs⟩, hf⟩ : ∃ f, f = l.getD j v0 := ⟨_, rfl⟩
        rw [← hf] at hc
        obtain ⟨c0, c1, c2⟩ := hc wr (bt HB0.out HBl.out)
        simp only at c0 c1 c2
        have hi := fun W => hix W n c hjn
        have HF := Lib.hid hf
        have HV := Lib.hid (fun W => Va.refMay_any fk fn fs W)
        clear hc hix hf
        by_cases hok : VaM.May ⟨fk, fn, fs⟩
        · rw [decide_eq_true hok] at HV
          have HGo := Lib.hid (HG.out.succ (by rw [← HF.out]; exact hok))
          clear hok
          go_wp2_with fail
          refine (HV.out _).mono ?_
          rintro e w3 ⟨rfl, hb3⟩
          have HB3 := Lib.hid (bt HBl.out hb3)
          clear hb3 HV c0 c1 c2 hi x2
          go_wp2_with fail
          go_roundw
          case rel => exact ⟨j + 1, by go_num, by omega, HGo.out, HB3.out⟩
          case measure => simp [intOf]; omega
        · rw [decide_eq_false hok] at HV
          have HNo := Lib.hid (show ¬ May ⟨nm, t, l⟩ from fun h => hok (by have := HM.out.1 h j hjn; rw [← HF.out] at this; exact this))
          clear hok
          go_wp2_with fail
          refine (HV.out _).mono ?_
          rintro e w3 ⟨rfl, hb3⟩
          have HB3 := Lib.hid (bt HBl.out hb3)
          clear hb3 HV c0 c1 c2 hi x2
          go_wp2_with fail
          go_ret
          exact ⟨ret_v (x := .bool false) (by rw [decide_eq_false HNo.out]), bt HB0.out HB3.out⟩
      · obtain rfl : j = n := by omega
        have HYes := Lib.hid (HM.out.2 HG.out)
        go_wp2_with fail
        go_ret
        exact ⟨ret_v (x := .bool true) (by rw [decide_eq_true HYes.out]), bt HB0.out HBl.out⟩
end Go.Proofs.Ytbakhodijhacoaa.Ev
