/- The walk of ValueLess: no value is less than itself, and so on; the strings are within the reach. -/
import Derived.Test.YtkjfofljjgifdaaValueLaw
namespace Go.Proofs.Ytkjfofljjgifdaa.Va
open Go.RowKit Go.Proofs.Ytkjfofljjgifdaa.BM Go.Proofs.Ytkjfofljjgifdaa.LM Go.Proofs.Ytkjfofljjgifdaa.VaM

theorem lt_self (a : V) : lt a a = false := by
  unfold lt
  split
  · rw [bls_bl, bls_self]
  · simp

theorem can_self (a : V) : can a a = decide (May a) := by
  unfold can
  congr 1
  simp

theorem not_low {k n : Int} {s : ByteArray} (hk : k ≠ 0) : (can ⟨k, n, s⟩ ⟨k, 0, e0⟩ && lt ⟨k, n, s⟩ ⟨k, 0, e0⟩) = false := by
  by_cases hc : can ⟨k, n, s⟩ ⟨k, 0, e0⟩ = true
  · rw [hc, Bool.true_and]
    have hm := (of_decide_eq_true hc).1
    by_cases k2 : k = 2
    · rw [lt_s k2, bls_bl]
      show bls (bl s) [] = false
      cases bl s <;> rfl
    · rw [lt_n k2, decide_eq_false_iff_not]
      rcases hm with ⟨h1, _⟩ | ⟨_, h1 | ⟨_, h1⟩ | ⟨_, h1, _⟩⟩
      · exact absurd h1 k2
      · exact absurd h1 hk
      · simp only at h1 ⊢
        omega
      · simp only at h1 ⊢
        omega
  · rw [Bool.eq_false_iff.2 hc, Bool.false_and]

theorem bl_app (s t : ByteArray) : bl (s ++ t) = bl s ++ bl t := by
  simp [bl, ByteArray.data_append]

theorem can_more (s t : ByteArray) : can ⟨2, 0, s⟩ ⟨2, 0, s ++ t⟩ = decide (s.size + t.size ≤ 40) := by
  unfold can
  rw [decide_eq_decide]
  constructor
  · rintro ⟨_, h, _⟩
    have := may_size h
    simp only [ByteArray.size_append] at this
    exact this
  · intro h
    exact ⟨Or.inl ⟨rfl, rfl, by simp only; omega⟩, Or.inl ⟨rfl, rfl, by simp only [ByteArray.size_append]; exact h⟩, rfl⟩

theorem lt_more (s t : ByteArray) : lt ⟨2, 0, s⟩ ⟨2, 0, s ++ t⟩ = decide (0 < t.size) := by
  rw [lt_s rfl, bls_bl]
  show bls (bl s) (bl (s ++ t)) = _
  have h := bls_same (bl s) [] (bl t)
  rw [List.append_nil, ← bl_app] at h
  rw [h]
  have hl := bl_len t
  cases hb : bl t with
  | nil =>
    rw [hb] at hl
    simp only [List.length_nil] at hl
    rw [← hl]
    rfl
  | cons a r =>
    rw [hb, List.length_cons] at hl
    rw [decide_eq_true (by omega)]
    rfl

set_option maxRecDepth 100000 in
set_option maxHeartbeats 2000000 in
theorem less_walk (k n : Int) (s0 s t : ByteArray) (w : World) (_hv : (Lit.int .i64 k).wf = true ∧ (Lit.int .i64 n).wf = true ∧ s0.size ≤ maxLen) (hs : s.size ≤ 140737488351232) (ht : t.size ≤ 140737488351232) :
    Calls Try.prog 9 #[.agg #[.int .i64 k, .int .i64 n, .string s0], .string s, .string t] w fun e w' => e = .returned (.bool true) ∧ Below w.heap.size w w' := by
  have HX := Lib.hid (bx_new w (.int .i64 k) (.int .i64 n) (.string s0))
  have HB := Lib.hid ((Below.refl w.heap.size w).alloc (Nat.le_refl _) (.cells #[.int .i64 k, .int .i64 n, .string s0] 23))
  have h1 := Less_any ⟨k, n, s0⟩ ⟨k, n, s0⟩
  rw [lt_self, Bool.and_false, can_self] at h1
  have H1 := Lib.hid h1
  have H2 := Lib.hid (Less_any ⟨k, n, s0⟩ ⟨k, 0, ⟨#[]⟩⟩)
  have h3 := Less_any ⟨2, 0, s⟩ ⟨2, 0, s ++ t⟩
  rw [can_more, lt_more] at h3
  have H3 := Lib.hid h3
  have hadd : ∀ W, (binOp .add 9 (.string s) (.string t)).run Try.prog W = .ok (.string (s ++ t)) W := fun W => by rw [binOp_string_add]; exact run_string_add_sum W _ _ (by omega)
  have hadd' : ∀ W, (Op.stringOp .add s t).run Try.prog W = .ok (.string (s ++ t)) W := fun W => run_string_add_sum W _ _ (by omega)
  have HM := Lib.hid (May_any k n s0)
  have HN := Lib.hid (show k ≠ 0 → (can ⟨k, n, s0⟩ ⟨k, 0, ⟨#[]⟩⟩ && lt ⟨k, n, s0⟩ ⟨k, 0, ⟨#[]⟩⟩) = false from not_low)
  obtain ⟨st, hst⟩ : ∃ st, st = s ++ t := ⟨_, rfl⟩
  rw [← hst] at H3
  simp only [← hst] at hadd hadd'
  clear h1 h3 hst
  go_enter Try.func9, Try.ntmps9
  go_wp2_with fail
  refine (awake_any _).mono ?_
  rintro e w1 ⟨rfl, hb1⟩
  have HX1 := Lib.hid (HX.out.kept hb1)
  have HB1 := Lib.hid (bt HB.out hb1)
  obtain ⟨⟨p0, p1, p2⟩, _⟩ := HX1.out
  clear hb1 HX HB
  go_wp2_with fail
  refine (H1.out _).mono ?_
  rintro e w2 ⟨rfl, hb2⟩
  have HX2 := Lib.hid (HX1.out.kept hb2)
  have HB2 := Lib.hid (bt HB1.out hb2)
  obtain ⟨I, hI⟩ : ∃ I, I = decide (May ⟨k, n, s0⟩) := ⟨_, rfl⟩
  rw [← hI] at HM ⊢
  clear hb2 HX1 HB1 p0 p1 p2 hI
  obtain ⟨⟨p0, p1, p2⟩, _⟩ := HX2.out
  go_wp2_with fail
  refine (HM.out _).mono ?_
  rintro e w3 ⟨rfl, hb3⟩
  have HX3 := Lib.hid (HX2.out.kept hb3)
  have HB3 := Lib.hid (bt HB2.out hb3)
  clear hb3 HX2 HB2 p0 p1 p2
  obtain ⟨⟨p0, p1, p2⟩, _⟩ := HX3.out
  obtain ⟨⟨q0, q1, q2⟩, _⟩ := HX3.out.kept ((Below.refl w3.heap.size w3).alloc (Nat.le_refl _) (.cells #[.int .i64 k, .int .i64 0, .string ⟨#[]⟩] 23))
  go_wp2_with fail
  clear p0 p1 p2 q0 q1 q2
  have HX4 := Lib.hid (HX3.out.kept ((Below.refl w3.heap.size w3).alloc (Nat.le_refl _) (.cells #[.int .i64 k, .int .i64 0, .string ⟨#[]⟩] 23)))
  have HB4 := Lib.hid (bt HB3.out ((Below.refl w3.heap.size w3).alloc (Nat.le_refl _) (.cells #[.int .i64 k, .int .i64 0, .string ⟨#[]⟩] 23)))
  refine (H2.out _).mono ?_
  rintro e w5 ⟨rfl, hb5⟩
  have HX5 := Lib.hid (HX4.out.kept hb5)
  have HB5 := Lib.hid (bt HB4.out hb5)
  clear hb5 HX4 HB4 HX3 HB3
  obtain ⟨U, hU⟩ : ∃ U, U = (can ⟨k, n, s0⟩ ⟨k, 0, ⟨#[]⟩⟩ && lt ⟨k, n, s0⟩ ⟨k, 0, ⟨#[]⟩⟩) := ⟨_, rfl⟩
  rw [← hU] at HN ⊢
  obtain ⟨C, hC⟩ : ∃ C, C = can ⟨k, n, s0⟩ ⟨k, 0, ⟨#[]⟩⟩ := ⟨_, rfl⟩
  rw [← hC]
  clear hU hC
  obtain ⟨⟨p0, p1, p2⟩, _⟩ := HX5.out
  have hw5 : Below w5.heap.size w5 ((w5.alloc (.cells #[.int .i64 2, .int .i64 0, .string s] 23)).alloc (.cells #[.int .i64 2, .int .i64 0, .string st] 23)) := ((Below.refl w5.heap.size w5).alloc (Nat.le_refl _) _).alloc (by simp) _
  have HW5 := Lib.hid (bt HB5.out hw5)
  have hF : decide (s.size + t.size ≤ 40) = decide ((s.size : Int) + (t.size : Int) ≤ 40) := by rw [decide_eq_decide]; omega
  have hG : decide (0 < t.size) = decide ((0 : Int) < (t.size : Int)) := by rw [decide_eq_decide]; omega
  rw [hF, hG] at H3
  clear hw5 hF hG
  have hk : (k ≠ 0 ∧ U = false) ∨ k = 0 := by
    by_cases h : k = 0
    · exact Or.inr h
    · exact Or.inl ⟨h, HN.out h⟩
  rcases hk with ⟨hk, rfl⟩ | rfl
  · have b0 : (k != 0) = true := by simpa using hk
    go_wp2_with fail
    refine (H3.out _).mono ?_
    rintro e w6 ⟨rfl, hb6⟩
    have HB6 := Lib.hid (bt HW5.out hb6)
    clear hb6 p0 p1 p2
    go_wp2_with fail
    all_goals
      go_ret
      exact ⟨ret_bool (by first | rfl | simp | (simp; omega)), HB6.out⟩
  · go_wp2_with fail
    refine (H3.out _).mono ?_
    rintro e w6 ⟨rfl, hb6⟩
    have HB6 := Lib.hid (bt HW5.out hb6)
    clear hb6 p0 p1 p2
    go_wp2_with fail
    all_goals
      go_ret
      exact ⟨ret_bool (by first | rfl | simp | (simp; omega)), HB6.out⟩
end Go.Proofs.Ytkjfofljjgifdaa.Va
