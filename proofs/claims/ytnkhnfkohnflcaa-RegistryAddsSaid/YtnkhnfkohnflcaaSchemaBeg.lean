/- begins: whether fields begin by others; asked: the fields lie where the slices say. -/
import Derived.Test.YtnkhnfkohnflcaaSchemaRow
import Derived.Test.YtnkhnfkohnflcaaRegion
import Derived.BigQuiet
import Derived.Deep.QuietTactic
namespace Go.Proofs.Ytnkhnfkohnflcaa.Sc
open Go.RowKit Go.Proofs.Ytnkhnfkohnflcaa.BM Go.Proofs.Ytnkhnfkohnflcaa.VaM Go.Proofs.Ytnkhnfkohnflcaa.Va Go.Proofs.Ytnkhnfkohnflcaa.ScM

theorem take_iff {l m : List F} {n : Nat} (hl : n ≤ l.length) (hm : n ≤ m.length) : l.take n = m.take n ↔ ∀ j, j < n → l.getD j d0 = m.getD j d0 := by
  constructor
  · intro h j hj
    have e1 : (l.take n).getD j d0 = l.getD j d0 := by rw [List.getD_eq_getElem?_getD, List.getD_eq_getElem?_getD, List.getElem?_take, if_pos hj]
    have e2 : (m.take n).getD j d0 = m.getD j d0 := by rw [List.getD_eq_getElem?_getD, List.getD_eq_getElem?_getD, List.getElem?_take, if_pos hj]
    rw [← e1, ← e2, h]
  · intro h
    apply List.ext_getElem
    · rw [List.length_take, List.length_take]; omega
    · intro i h1 h2
      rw [List.length_take] at h1 h2
      have h3 := h i (by omega)
      rw [List.getD_eq_getElem?_getD, List.getD_eq_getElem?_getD, List.getElem?_eq_getElem (by omega), List.getElem?_eq_getElem (by omega)] at h3
      rw [List.getElem_take, List.getElem_take]
      exact h3

/-- Do fields begin by others? -/
def Beg (l by' : List F) : Prop := by'.length ≤ l.length ∧ l.take by'.length = by'
instance (l m : List F) : Decidable (Beg l m) := by unfold Beg; infer_instance

theorem beg_iff {l m : List F} (h : m.length ≤ l.length) : Beg l m ↔ ∀ j, j < m.length → l.getD j d0 = m.getD j d0 := by
  have h1 := take_iff (l := l) (m := m) h (Nat.le_refl _)
  rw [List.take_length] at h1
  unfold Beg
  rw [← h1]
  exact ⟨fun h => h.2, fun k => ⟨h, k⟩⟩

set_option maxRecDepth 100000 in
set_option maxHeartbeats 1000000 in
theorem begins_any (A : Option Addr) (l : List F) (c : Nat) (B : Option Addr) (m : List F) (d : Nat) (w : World) (h : SlF w A l c) (k : SlF w B m d) :
    Calls Try.prog 30 #[.slice A l.length c, .slice B m.length d] w fun e w' => e = .returned (.bool (decide (Beg l m))) ∧ Below w.heap.size w w' := by
  have hl := slF_len h
  have hm := slF_len k
  have hbi := fun hh => beg_iff (l := l) (m := m) hh
  have hno : l.length < m.length → ¬ Beg l m := fun h1 h2 => by have := h2.1; omega
  obtain ⟨n, hn⟩ : ∃ n, n = l.length := ⟨_, rfl⟩
  obtain ⟨r, hr⟩ : ∃ r, r = m.length := ⟨_, rfl⟩
  rw [← hn, ← hr] at hbi hno ⊢
  rw [← hn] at hl
  rw [← hr] at hm
  have HN := Lib.hid hn
  have HR := Lib.hid hr
  have HS := Lib.hid h
  have HT := Lib.hid k
  have HBi := Lib.hid hbi
  have HNo := Lib.hid hno
  clear hbi hno hn hr h k
  by_cases hlt : n < r
  · have HNo' := Lib.hid (HNo.out hlt)
    go_enter Try.func30, Try.ntmps30
    go_wp2_with fail
    go_ret
    exact ⟨ret_v (x := .bool false) (by rw [decide_eq_false HNo'.out]), Below.refl _ _⟩
  · have HB := Lib.hid (HBi.out (by omega))
    have hd1 : decide ((n : Int) < r) = false := by rw [decide_eq_false_iff_not]; omega
    clear HBi HNo
    go_enter Try.func30, Try.ntmps30
    go_wp2_with fail
    go_loopw [14] (fun i wr => ∃ j : Nat, i = .int .i64 j ∧ j ≤ r ∧ (∀ x, x < j → l.getD x d0 = m.getD x d0) ∧ Below w.heap.size w wr) (fun i _ => r - (intOf i).toNat)
    case atStart => exact ⟨0, rfl, Nat.zero_le _, fun x hx => absurd hx (Nat.not_lt_zero x), Below.refl _ _⟩
    case round =>
      obtain ⟨j, rfl, hj, hsame, hbel⟩ := hrel
      have HSm := Lib.hid hsame
      have HBl := Lib.hid hbel
      clear hsame hbel
      by_cases hjr : j < r
      · obtain ⟨b1, q1, hix1, hc1, _⟩ := HS.out.at j (by rw [← HN.out]; omega)
        obtain ⟨b2, q2, hix2, hc2, _⟩ := HT.out.at j (by rw [← HR.out]; omega)
        obtain ⟨⟨s1, k1⟩, hf1⟩ : ∃ f, f = l.getD j d0 := ⟨_, rfl⟩
        obtain ⟨⟨s2, k2⟩, hf2⟩ : ∃ f, f = m.getD j d0 := ⟨_, rfl⟩
        rw [← hf1] at hc1
        rw [← hf2] at hc2
        have ha := (Below.refl wr.heap.size wr).alloc (Nat.le_refl _) (.cells #[.string s2, .int .i64 k2] 39)
        have HB2 := Lib.hid (bt HBl.out ha)
        obtain ⟨c0, c1⟩ := hc2 wr HBl.out
        obtain ⟨e0, e1⟩ := hc1 _ HB2.out
        obtain ⟨⟨p0, p1⟩, _⟩ := bx2_new wr 39 (.string s2) (.int .i64 k2)
        simp only at c0 c1 e0 e1
        have hi1 := fun W => hix1 W n c (by omega)
        have hi2 := fun W => hix2 W r d hjr
        have hne := fun W => neq_f s1 s2 k1 k2 W
        have HF1 := Lib.hid hf1
        have HF2 := Lib.hid hf2
        clear hc1 hc2 hix1 hix2 hf1 hf2 ha
        by_cases he : (⟨s1, k1⟩ : F) = ⟨s2, k2⟩
        · have hsucc : ∀ x, x < j + 1 → l.getD x d0 = m.getD x d0 := fun x hx => by
            by_cases e : x = j
            · rw [e, ← HF1.out, ← HF2.out, he]
            · exact HSm.out x (by omega)
          simp only [decide_eq_true he, Bool.not_true] at hne
          have HSu := Lib.hid hsucc
          clear he hsucc
          go_wp2_with fail
          obtain ⟨w2, hw2⟩ : ∃ w2, w2 = wr.alloc (.cells #[.string s2, .int .i64 k2] 39) := ⟨_, rfl⟩
          obtain ⟨bk, hbk⟩ : ∃ bk, bk = wr.heap.size := ⟨_, rfl⟩
          rw [← hw2] at HB2 p0 p1 e0 e1 ⊢
          rw [← hbk] at p0 p1 ⊢
          clear hw2 hbk
          go_quiet (fail)
          go_wp2_with fail
          go_roundw
          case rel => exact ⟨j + 1, by go_num, by omega, HSu.out, below_drewN HB2.out _⟩
          case measure => simp [intOf]; omega
        · simp only [decide_eq_false he, Bool.not_false] at hne
          have HNo := Lib.hid (show ¬ Beg l m from fun h => he (by rw [HF1.out, HF2.out]; exact HB.out.1 h j hjr))
          clear he
          go_wp2_with fail
          obtain ⟨w2, hw2⟩ : ∃ w2, w2 = wr.alloc (.cells #[.string s2, .int .i64 k2] 39) := ⟨_, rfl⟩
          obtain ⟨bk, hbk⟩ : ∃ bk, bk = wr.heap.size := ⟨_, rfl⟩
          rw [← hw2] at HB2 p0 p1 e0 e1 ⊢
          rw [← hbk] at p0 p1 ⊢
          clear hw2 hbk
          go_quiet (fail)
          go_wp2_with fail
          go_ret
          exact ⟨ret_v (x := .bool false) (by rw [decide_eq_false HNo.out]), below_drewN HB2.out _⟩
      · obtain rfl : j = r := by omega
        have HYes := Lib.hid (HB.out.2 HSm.out)
        go_wp2_with fail
        go_ret
        exact ⟨ret_v (x := .bool true) (by rw [decide_eq_true HYes.out]), HBl.out⟩

theorem beg_same {a b : Sc} (h1 : a.s = b.s) (h2 : a.v = b.v) (h3 : a.f.length = b.f.length) : Beg a.f b.f ↔ a = b := by
  constructor
  · intro h
    have h4 := h.2
    rw [← h3, List.take_length] at h4
    exact Sc.same h1 h2 h4
  · intro h
    rw [h]
    exact ⟨Nat.le_refl _, List.take_length⟩

theorem fit_beg {a b : Sc} (h1 : May a) (h2 : May b) (h3 : a.s = b.s) (h4 : b.v = a.v + 1) : Beg b.f a.f ↔ Fit a b :=
  ⟨fun h => ⟨h1, h2, h3, h4, h.1, h.2⟩, fun h => ⟨h.2.2.2.2.1, h.2.2.2.2.2⟩⟩
end Go.Proofs.Ytnkhnfkohnflcaa.Sc
