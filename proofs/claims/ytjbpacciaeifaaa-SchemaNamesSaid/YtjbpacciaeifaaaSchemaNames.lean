/- The walk of SchemaNames: a name's beginnings are names; with a sign more it is one, or not; the string is within the reach. -/
import Derived.Test.YtjbpacciaeifaaaSchemaAwake
namespace Go.Proofs.Ytjbpacciaeifaaa.Sc
open Go.RowKit Go.Proofs.Ytjbpacciaeifaaa.BM Go.Proofs.Ytjbpacciaeifaaa.LM Go.Proofs.Ytjbpacciaeifaaa.VaM Go.Proofs.Ytjbpacciaeifaaa.Va Go.Proofs.Ytjbpacciaeifaaa.ScM

theorem nm_take {s : ByteArray} (h : Nm s) {k : Nat} (h1 : 1 ≤ k) (h2 : k ≤ s.size) : Nm (s.extract 0 k) := by
  obtain ⟨g1, g2, g3⟩ := h
  unfold Nm
  rw [bl_cut]
  have hl : ((bl s).take k).length = k := by rw [List.length_take, bl_len]; omega
  rw [bl_len] at g2
  refine ⟨by omega, by omega, fun j hj => ?_⟩
  have h3 := g3 j (by rw [bl_len]; omega)
  unfold okAt at h3 ⊢
  have e : ((bl s).take k).getD j 0 = (bl s).getD j 0 := by
    rw [List.getD_eq_getElem?_getD, List.getD_eq_getElem?_getD, List.getElem?_take, if_pos (by omega)]
  rw [e]
  exact h3

theorem nm_snoc {s t : ByteArray} {c : Int} (h : Nm s) (ht : bl t = bl s ++ [c]) : Nm t ↔ (smallB c || behB c) = true ∧ t.size ≤ 12 := by
  obtain ⟨g1, g2, g3⟩ := h
  have hl : t.size = (bl s).length + 1 := by rw [← bl_len t, ht, List.length_append]; rfl
  unfold Nm IsNm
  rw [bl_len t, Bool.or_eq_true]
  have hlast : okAt (bl t) (bl s).length ↔ smallB c = true ∨ behB c = true := by
    unfold okAt
    rw [ht]
    have e : (bl s ++ [c]).getD (bl s).length 0 = c := by simp [List.getD_eq_getElem?_getD]
    rw [e]
    constructor
    · rintro (h | ⟨_, h⟩)
      · exact Or.inl h
      · exact Or.inr h
    · rintro (h | h)
      · exact Or.inl h
      · exact Or.inr ⟨by omega, h⟩
  constructor
  · rintro ⟨_, h2, h3⟩
    exact ⟨hlast.1 (h3 _ (by omega)), h2⟩
  · rintro ⟨h1, h2⟩
    refine ⟨by omega, h2, fun j hj => ?_⟩
    by_cases e : j = (bl s).length
    · rw [e]
      exact hlast.2 h1
    · have h3 := g3 j (by omega)
      unfold okAt at h3 ⊢
      have e2 : (bl t).getD j 0 = (bl s).getD j 0 := by
        rw [ht, List.getD_eq_getElem?_getD, List.getD_eq_getElem?_getD, List.getElem?_append_left (by omega)]
      rw [e2]
      exact h3

theorem nm_great {s t : ByteArray} (h : Nm s) (ht : bl t = bl s ++ [65]) : ¬ Nm t := fun hn => by
  have h1 := (nm_snoc h ht).1 hn
  exact absurd h1.1 (by decide)

theorem nm_under {s t : ByteArray} (ht : bl t = 95 :: bl s) : ¬ Nm t := fun hn => by
  have h1 := hn.2.2 0 (by rw [ht]; simp)
  unfold okAt at h1
  rw [ht, List.getD_cons_zero] at h1
  rcases h1 with h1 | ⟨h1, _⟩
  · exact absurd h1 (by decide)
  · exact h1 rfl

set_option maxRecDepth 100000 in
theorem names_no (s : ByteArray) (c at' : Int) (w : World) (hs : s.size ≤ 140737488351232) (hno : ¬ (s.size ≤ 60 ∧ Nm s ∧ 1 ≤ at' ∧ at' ≤ s.size)) :
    Calls Try.prog 6 #[.string s, .int .u8 c, .int .i64 at'] w fun e w' => e = .returned (.bool true) ∧ Below w.heap.size w w' := by
  have HN := Lib.hid (fun W => Name_any s W (by unfold maxLen; omega))
  go_enter Try.func6, Try.ntmps6
  go_wp2_with fail
  refine (awake_any _).mono ?_
  rintro e w1 ⟨rfl, hb⟩
  have HB1 := Lib.hid hb
  clear hb
  by_cases h60 : s.size ≤ 60
  · have hd1 : decide ((60 : Int) < (s.size : Int)) = false := by rw [decide_eq_false_iff_not]; omega
    go_wp2_with fail
    refine (HN.out _).mono ?_
    rintro e w2 ⟨rfl, hb⟩
    have HB2 := Lib.hid (bt HB1.out hb)
    clear hb
    by_cases hn : Nm s
    · rw [decide_eq_true hn]
      have hw : at' < 1 ∨ (1 ≤ at' ∧ (s.size : Int) < at') := by
        by_cases h1 : at' < 1
        · exact Or.inl h1
        · exact Or.inr ⟨by omega, Int.not_le.1 (fun h2 => hno ⟨h60, hn, by omega, h2⟩)⟩
      clear hn hno
      rcases hw with h1 | ⟨h1, h2⟩
      · go_wp2_with fail
        go_ret
        exact ⟨ret_bool (by first | rfl | simp), HB2.out⟩
      · have hd2 : decide (at' < 1) = false := by rw [decide_eq_false_iff_not]; omega
        go_wp2_with fail
        go_ret
        exact ⟨ret_bool (by first | rfl | simp), HB2.out⟩
    · rw [decide_eq_false hn]
      clear hn hno
      go_wp2_with fail
      go_ret
      exact ⟨ret_bool (by first | rfl | simp), HB2.out⟩
  · have hd1 : decide ((60 : Int) < (s.size : Int)) = true := by rw [decide_eq_true_iff]; omega
    clear h60 hno
    go_wp2_with fail
    go_ret
    exact ⟨ret_bool (by first | rfl | simp), HB1.out⟩

set_option maxRecDepth 100000 in
set_option maxHeartbeats 2000000 in
theorem names_yes (s : ByteArray) (c : Int) (k : Nat) (w : World) (hc0 : 0 ≤ c) (hc1 : c < 256) (hn : Nm s) (hk1 : 1 ≤ k) (hk : k ≤ s.size) :
    Calls Try.prog 6 #[.string s, .int .u8 c, .int .i64 (k : Int)] w fun e w' => e = .returned (.bool true) ∧ Below w.heap.size w w' := by
  have hs12 := nm_size hn
  have hcb : ∀ x ∈ [c], (0 : Int) ≤ x ∧ x < 256 := fun x hx => by simp only [List.mem_singleton] at hx; omega
  have hN := fun W => Name_any s W (by unfold maxLen; omega)
  rw [decide_eq_true hn] at hN
  have HN := Lib.hid hN
  have hCut := fun W => Name_any (s.extract 0 k) W (by unfold maxLen; rw [ByteArray.size_extract]; omega)
  rw [decide_eq_true (nm_take hn hk1 hk)] at hCut
  have hsl : ∀ W, (Instr.slice 9 (.string s) none (some (.int .i64 (k : Int))) none).run Try.prog W = .ok (.string (s.extract 0 k)) W := fun W => by
    rw [run_slice_string_to_if W _ _ _ _ Try.underlying9, if_pos (by omega)]
    rfl
  have hblA : bl (s ++ ⟨#[65]⟩) = bl s ++ [65] := bl_app _ _
  have hblU : bl ((⟨#[95]⟩ : ByteArray) ++ s) = 95 :: bl s := bl_app _ _
  have hsA : (s ++ (⟨#[65]⟩ : ByteArray)).size = s.size + 1 := by rw [ByteArray.size_append]; rfl
  have hsU : ((⟨#[95]⟩ : ByteArray) ++ s).size = s.size + 1 := by rw [ByteArray.size_append, Nat.add_comm]; rfl
  have hA := fun W => Name_any (s ++ ⟨#[65]⟩) W (by unfold maxLen; rw [hsA]; omega)
  rw [decide_eq_false (nm_great hn hblA)] at hA
  have hU := fun W => Name_any ((⟨#[95]⟩ : ByteArray) ++ s) W (by unfold maxLen; rw [hsU]; omega)
  rw [decide_eq_false (nm_under hblU)] at hU
  have hadA : ∀ W, (Op.stringOp .add s ⟨#[65]⟩).run Try.prog W = .ok (.string (s ++ ⟨#[65]⟩)) W := fun W => run_string_add_sum W _ _ (by show s.size + 1 ≤ _; omega)
  have hadU : ∀ W, (Op.stringOp .add ⟨#[95]⟩ s).run Try.prog W = .ok (.string ((⟨#[95]⟩ : ByteArray) ++ s)) W := fun W => run_string_add_sum W _ _ (by show 1 + s.size ≤ _; omega)
  have hadA' : ∀ W, (binOp .add 9 (.string s) (.string ⟨#[65]⟩)).run Try.prog W = .ok (.string (s ++ ⟨#[65]⟩)) W := fun W => by rw [binOp_string_add]; exact hadA W
  have hadU' : ∀ W, (binOp .add 9 (.string ⟨#[95]⟩) (.string s)).run Try.prog W = .ok (.string ((⟨#[95]⟩ : ByteArray) ++ s)) W := fun W => by rw [binOp_string_add]; exact hadU W
  have hsC : (s ++ strOfNums [c]).size = s.size + 1 := by rw [ByteArray.size_append, size_str]; rfl
  have hblC : bl (s ++ strOfNums [c]) = bl s ++ [c] := by rw [bl_app, bl_str hcb]
  have hadC : ∀ W, (Op.stringOp .add s (strOfNums [c])).run Try.prog W = .ok (.string (s ++ strOfNums [c])) W := fun W => run_string_add_sum W _ _ (by rw [size_str]; show s.size + 1 ≤ _; omega)
  have hadC' : ∀ W, (binOp .add 9 (.string s) (.string (strOfNums [c]))).run Try.prog W = .ok (.string (s ++ strOfNums [c])) W := fun W => by rw [binOp_string_add]; exact hadC W
  have hLong := fun W => Name_any (s ++ strOfNums [c]) W (by unfold maxLen; rw [hsC]; omega)
  have hSn := nm_snoc hn hblC
  have hcv0 : ∀ W : World, (convert 25 9 (.slice (some ⟨W.heap.size, 0, none⟩) 1 1)).run Try.prog (W.alloc (.cells #[.int .u8 c] 5)) = .ok (.string (strOfNums [c])) (W.alloc (.cells #[.int .u8 c] 5)) := fun W => conv_any (isB_new W [c] hcb) 1 9 Try.underlying9
  obtain ⟨ct, hct⟩ : ∃ t, t = s.extract 0 k := ⟨_, rfl⟩
  obtain ⟨tA, htA⟩ : ∃ t, t = s ++ (⟨#[65]⟩ : ByteArray) := ⟨_, rfl⟩
  obtain ⟨tU, htU⟩ : ∃ t, t = (⟨#[95]⟩ : ByteArray) ++ s := ⟨_, rfl⟩
  obtain ⟨sc, hsc⟩ : ∃ t, t = strOfNums [c] := ⟨_, rfl⟩
  simp only [← hsc] at hcv0 hadC hadC' hLong hSn hsC
  obtain ⟨lg, hlg⟩ : ∃ t, t = s ++ sc := ⟨_, rfl⟩
  simp only [← hlg] at hadC hadC' hLong hSn hsC
  simp only [← hct] at hCut hsl
  simp only [← htA] at hA hadA hadA'
  simp only [← htU] at hU hadU hadU'
  have HCut := Lib.hid hCut
  have HA := Lib.hid hA
  have HU := Lib.hid hU
  have HLong := Lib.hid hLong
  have HSn := Lib.hid hSn
  have HCv := Lib.hid hcv0
  have hlg13 : lg.size ≤ 13 := by omega
  clear hn hN hCut hA hU hLong hSn hcv0 hct htA htU hsc hlg hblA hblU hblC hsA hsU hsC hcb
  go_enter Try.func6, Try.ntmps6
  go_wp2_with fail
  refine (awake_any _).mono ?_
  rintro e w1 ⟨rfl, hb⟩
  have HB1 := Lib.hid hb
  clear hb
  have hd1 : decide ((60 : Int) < (s.size : Int)) = false := by rw [decide_eq_false_iff_not]; omega
  go_wp2_with fail
  refine (HN.out _).mono ?_
  rintro e w2 ⟨rfl, hb⟩
  have HB2 := Lib.hid (bt HB1.out hb)
  have hd2 : decide ((k : Int) < 1) = false := by rw [decide_eq_false_iff_not]; omega
  have hd3 : decide ((s.size : Int) < (k : Int)) = false := by rw [decide_eq_false_iff_not]; omega
  have ha3 := (Below.refl w2.heap.size w2).alloc (Nat.le_refl _) (.cells #[.int .u8 c] 5)
  have hcv := HCv.out w2
  clear hb HCv HN HB1
  have hways : (97 ≤ c ∧ c ≤ 122) ∨ (48 ≤ c ∧ c ≤ 57) ∨ c = 95 ∨ c < 48 ∨ (57 < c ∧ c < 97 ∧ c ≠ 95) ∨ 122 < c := by omega
  rcases hways with ⟨q1, q2⟩ | ⟨q1, q2⟩ | rfl | q1 | ⟨q1, q2, q3⟩ | q1
  · have hfi : (smallB c || behB c) = true := by simp [smallB, q1, q2]
    have hnl : decide (Nm lg) = (true && decide (lg.size ≤ 12)) := by
      rw [Bool.eq_iff_iff, decide_eq_true_iff, HSn.out, hfi]
      simp
    have hl2 : decide ((lg.size : Int) ≤ 12) = decide (lg.size ≤ 12) := by rw [decide_eq_decide]; omega
    have HNl := Lib.hid hnl
    have HL2 := Lib.hid hl2
    clear hfi hnl hl2
    obtain ⟨G, hG⟩ : ∃ G, G = decide (lg.size ≤ 12) := ⟨_, rfl⟩
    rw [← hG] at HNl HL2
    obtain ⟨NL, hNL⟩ : ∃ G, G = decide (Nm lg) := ⟨_, rfl⟩
    rw [← hNL] at HNl HLong
    have hnl2 := HNl.out
    first | rw [Bool.true_and] at hnl2 | rw [Bool.false_and] at hnl2
    subst hnl2
    have hl3 := HL2.out
    clear hG hNL HNl HL2
    go_wp2_with fail
    refine (HCut.out _).mono ?_
    rintro e w3 ⟨rfl, hb3⟩
    have HB3 := Lib.hid (bt HB2.out (bt ha3 hb3))
    clear hb3 hcv ha3
    go_wp2_with fail
    refine (HLong.out _).mono ?_
    rintro e w4 ⟨rfl, hb4⟩
    have HB4 := Lib.hid (bt HB3.out hb4)
    clear hb4 HB3
    go_wp2_with fail
    refine (HA.out _).mono ?_
    rintro e w5 ⟨rfl, hb5⟩
    have HB5 := Lib.hid (bt HB4.out hb5)
    clear hb5 HB4
    go_wp2_with fail
    refine (HU.out _).mono ?_
    rintro e w6 ⟨rfl, hb6⟩
    have HB6 := Lib.hid (bt HB5.out hb6)
    clear hb6 HB5
    go_wp2_with fail
    go_ret
    exact ⟨ret_bool (by first | rfl | simp), HB6.out⟩
  · have hfi : (smallB c || behB c) = true := by simp [behB, q1, q2]
    have hd4 : decide ((97 : Int) ≤ c) = false := by rw [decide_eq_false_iff_not]; omega
    have hnl : decide (Nm lg) = (true && decide (lg.size ≤ 12)) := by
      rw [Bool.eq_iff_iff, decide_eq_true_iff, HSn.out, hfi]
      simp
    have hl2 : decide ((lg.size : Int) ≤ 12) = decide (lg.size ≤ 12) := by rw [decide_eq_decide]; omega
    have HNl := Lib.hid hnl
    have HL2 := Lib.hid hl2
    clear hfi hnl hl2
    obtain ⟨G, hG⟩ : ∃ G, G = decide (lg.size ≤ 12) := ⟨_, rfl⟩
    rw [← hG] at HNl HL2
    obtain ⟨NL, hNL⟩ : ∃ G, G = decide (Nm lg) := ⟨_, rfl⟩
    rw [← hNL] at HNl HLong
    have hnl2 := HNl.out
    first | rw [Bool.true_and] at hnl2 | rw [Bool.false_and] at hnl2
    subst hnl2
    have hl3 := HL2.out
    clear hG hNL HNl HL2
    go_wp2_with fail
    refine (HCut.out _).mono ?_
    rintro e w3 ⟨rfl, hb3⟩
    have HB3 := Lib.hid (bt HB2.out (bt ha3 hb3))
    clear hb3 hcv ha3
    go_wp2_with fail
    refine (HLong.out _).mono ?_
    rintro e w4 ⟨rfl, hb4⟩
    have HB4 := Lib.hid (bt HB3.out hb4)
    clear hb4 HB3
    go_wp2_with fail
    refine (HA.out _).mono ?_
    rintro e w5 ⟨rfl, hb5⟩
    have HB5 := Lib.hid (bt HB4.out hb5)
    clear hb5 HB4
    go_wp2_with fail
    refine (HU.out _).mono ?_
    rintro e w6 ⟨rfl, hb6⟩
    have HB6 := Lib.hid (bt HB5.out hb6)
    clear hb6 HB5
    go_wp2_with fail
    go_ret
    exact ⟨ret_bool (by first | rfl | simp), HB6.out⟩
  · have hfi : (smallB 95 || behB 95) = true := by decide
    have hnl : decide (Nm lg) = (true && decide (lg.size ≤ 12)) := by
      rw [Bool.eq_iff_iff, decide_eq_true_iff, HSn.out, hfi]
      simp
    have hl2 : decide ((lg.size : Int) ≤ 12) = decide (lg.size ≤ 12) := by rw [decide_eq_decide]; omega
    have HNl := Lib.hid hnl
    have HL2 := Lib.hid hl2
    clear hfi hnl hl2
    obtain ⟨G, hG⟩ : ∃ G, G = decide (lg.size ≤ 12) := ⟨_, rfl⟩
    rw [← hG] at HNl HL2
    obtain ⟨NL, hNL⟩ : ∃ G, G = decide (Nm lg) := ⟨_, rfl⟩
    rw [← hNL] at HNl HLong
    have hnl2 := HNl.out
    first | rw [Bool.true_and] at hnl2 | rw [Bool.false_and] at hnl2
    subst hnl2
    have hl3 := HL2.out
    clear hG hNL HNl HL2
    go_wp2_with fail
    refine (HCut.out _).mono ?_
    rintro e w3 ⟨rfl, hb3⟩
    have HB3 := Lib.hid (bt HB2.out (bt ha3 hb3))
    clear hb3 hcv ha3
    go_wp2_with fail
    refine (HLong.out _).mono ?_
    rintro e w4 ⟨rfl, hb4⟩
    have HB4 := Lib.hid (bt HB3.out hb4)
    clear hb4 HB3
    go_wp2_with fail
    refine (HA.out _).mono ?_
    rintro e w5 ⟨rfl, hb5⟩
    have HB5 := Lib.hid (bt HB4.out hb5)
    clear hb5 HB4
    go_wp2_with fail
    refine (HU.out _).mono ?_
    rintro e w6 ⟨rfl, hb6⟩
    have HB6 := Lib.hid (bt HB5.out hb6)
    clear hb6 HB5
    go_wp2_with fail
    go_ret
    exact ⟨ret_bool (by first | rfl | simp), HB6.out⟩
  · have hfi : (smallB c || behB c) = false := by
      have g1 : ¬ 97 ≤ c := by omega
      have g2 : ¬ 48 ≤ c := by omega
      have g3 : ¬ c = 95 := by omega
      simp [smallB, behB, g1, g2, g3]
    have hd4 : decide ((97 : Int) ≤ c) = false := by rw [decide_eq_false_iff_not]; omega
    have hd5 : decide ((48 : Int) ≤ c) = false := by rw [decide_eq_false_iff_not]; omega
    have hd6 : (c == 95) = false := by rw [beq_eq_false_iff_ne]; omega
    have hnl : decide (Nm lg) = (false && decide (lg.size ≤ 12)) := by
      rw [Bool.eq_iff_iff, decide_eq_true_iff, HSn.out, hfi]
      simp
    have hl2 : decide ((lg.size : Int) ≤ 12) = decide (lg.size ≤ 12) := by rw [decide_eq_decide]; omega
    have HNl := Lib.hid hnl
    have HL2 := Lib.hid hl2
    clear hfi hnl hl2
    obtain ⟨G, hG⟩ : ∃ G, G = decide (lg.size ≤ 12) := ⟨_, rfl⟩
    rw [← hG] at HNl HL2
    obtain ⟨NL, hNL⟩ : ∃ G, G = decide (Nm lg) := ⟨_, rfl⟩
    rw [← hNL] at HNl HLong
    have hnl2 := HNl.out
    first | rw [Bool.true_and] at hnl2 | rw [Bool.false_and] at hnl2
    subst hnl2
    have hl3 := HL2.out
    clear hG hNL HNl HL2
    go_wp2_with fail
    refine (HCut.out _).mono ?_
    rintro e w3 ⟨rfl, hb3⟩
    have HB3 := Lib.hid (bt HB2.out (bt ha3 hb3))
    clear hb3 hcv ha3
    go_wp2_with fail
    refine (HLong.out _).mono ?_
    rintro e w4 ⟨rfl, hb4⟩
    have HB4 := Lib.hid (bt HB3.out hb4)
    clear hb4 HB3
    go_wp2_with fail
    refine (HA.out _).mono ?_
    rintro e w5 ⟨rfl, hb5⟩
    have HB5 := Lib.hid (bt HB4.out hb5)
    clear hb5 HB4
    go_wp2_with fail
    refine (HU.out _).mono ?_
    rintro e w6 ⟨rfl, hb6⟩
    have HB6 := Lib.hid (bt HB5.out hb6)
    clear hb6 HB5
    go_wp2_with fail
    go_ret
    exact ⟨ret_bool (by first | rfl | simp), HB6.out⟩
  · have hfi : (smallB c || behB c) = false := by
      have g1 : ¬ 97 ≤ c := by omega
      have g2 : ¬ c ≤ 57 := by omega
      simp [smallB, behB, g1, g2, q3]
    have hd4 : decide ((97 : Int) ≤ c) = false := by rw [decide_eq_false_iff_not]; omega
    have hd5 : (48 : Int) ≤ c := by omega
    have hd6 : (c == 95) = false := by rw [beq_eq_false_iff_ne]; omega
    have hd7 : decide (c ≤ (57 : Int)) = false := by rw [decide_eq_false_iff_not]; omega
    have hnl : decide (Nm lg) = (false && decide (lg.size ≤ 12)) := by
      rw [Bool.eq_iff_iff, decide_eq_true_iff, HSn.out, hfi]
      simp
    have hl2 : decide ((lg.size : Int) ≤ 12) = decide (lg.size ≤ 12) := by rw [decide_eq_decide]; omega
    have HNl := Lib.hid hnl
    have HL2 := Lib.hid hl2
    clear hfi hnl hl2
    obtain ⟨G, hG⟩ : ∃ G, G = decide (lg.size ≤ 12) := ⟨_, rfl⟩
    rw [← hG] at HNl HL2
    obtain ⟨NL, hNL⟩ : ∃ G, G = decide (Nm lg) := ⟨_, rfl⟩
    rw [← hNL] at HNl HLong
    have hnl2 := HNl.out
    first | rw [Bool.true_and] at hnl2 | rw [Bool.false_and] at hnl2
    subst hnl2
    have hl3 := HL2.out
    clear hG hNL HNl HL2
    go_wp2_with fail
    refine (HCut.out _).mono ?_
    rintro e w3 ⟨rfl, hb3⟩
    have HB3 := Lib.hid (bt HB2.out (bt ha3 hb3))
    clear hb3 hcv ha3
    go_wp2_with fail
    refine (HLong.out _).mono ?_
    rintro e w4 ⟨rfl, hb4⟩
    have HB4 := Lib.hid (bt HB3.out hb4)
    clear hb4 HB3
    go_wp2_with fail
    refine (HA.out _).mono ?_
    rintro e w5 ⟨rfl, hb5⟩
    have HB5 := Lib.hid (bt HB4.out hb5)
    clear hb5 HB4
    go_wp2_with fail
    refine (HU.out _).mono ?_
    rintro e w6 ⟨rfl, hb6⟩
    have HB6 := Lib.hid (bt HB5.out hb6)
    clear hb6 HB5
    go_wp2_with fail
    go_ret
    exact ⟨ret_bool (by first | rfl | simp), HB6.out⟩
  · have hfi : (smallB c || behB c) = false := by
      have g1 : ¬ c ≤ 122 := by omega
      have g2 : ¬ c ≤ 57 := by omega
      have g3 : ¬ c = 95 := by omega
      simp [smallB, behB, g1, g2, g3]
    have hd4 : (97 : Int) ≤ c := by omega
    have hd8 : decide (c ≤ (122 : Int)) = false := by rw [decide_eq_false_iff_not]; omega
    have hd5 : (48 : Int) ≤ c := by omega
    have hd6 : (c == 95) = false := by rw [beq_eq_false_iff_ne]; omega
    have hd7 : decide (c ≤ (57 : Int)) = false := by rw [decide_eq_false_iff_not]; omega
    have hnl : decide (Nm lg) = (false && decide (lg.size ≤ 12)) := by
      rw [Bool.eq_iff_iff, decide_eq_true_iff, HSn.out, hfi]
      simp
    have hl2 : decide ((lg.size : Int) ≤ 12) = decide (lg.size ≤ 12) := by rw [decide_eq_decide]; omega
    have HNl := Lib.hid hnl
    have HL2 := Lib.hid hl2
    clear hfi hnl hl2
    obtain ⟨G, hG⟩ : ∃ G, G = decide (lg.size ≤ 12) := ⟨_, rfl⟩
    rw [← hG] at HNl HL2
    obtain ⟨NL, hNL⟩ : ∃ G, G = decide (Nm lg) := ⟨_, rfl⟩
    rw [← hNL] at HNl HLong
    have hnl2 := HNl.out
    first | rw [Bool.true_and] at hnl2 | rw [Bool.false_and] at hnl2
    subst hnl2
    have hl3 := HL2.out
    clear hG hNL HNl HL2
    go_wp2_with fail
    refine (HCut.out _).mono ?_
    rintro e w3 ⟨rfl, hb3⟩
    have HB3 := Lib.hid (bt HB2.out (bt ha3 hb3))
    clear hb3 hcv ha3
    go_wp2_with fail
    refine (HLong.out _).mono ?_
    rintro e w4 ⟨rfl, hb4⟩
    have HB4 := Lib.hid (bt HB3.out hb4)
    clear hb4 HB3
    go_wp2_with fail
    refine (HA.out _).mono ?_
    rintro e w5 ⟨rfl, hb5⟩
    have HB5 := Lib.hid (bt HB4.out hb5)
    clear hb5 HB4
    go_wp2_with fail
    refine (HU.out _).mono ?_
    rintro e w6 ⟨rfl, hb6⟩
    have HB6 := Lib.hid (bt HB5.out hb6)
    clear hb6 HB5
    go_wp2_with fail
    go_ret
    exact ⟨ret_bool (by first | rfl | simp), HB6.out⟩

theorem names_walk (s : ByteArray) (c at' : Int) (w : World) (hs : s.size ≤ 140737488351232) (hc : (Lit.int .u8 c).wf = true) (_ha : (Lit.int .i64 at').wf = true) :
    Calls Try.prog 6 #[.string s, .int .u8 c, .int .i64 at'] w fun e w' => e = .returned (.bool true) ∧ Below w.heap.size w w' := by
  have hcb := bounds_u8 hc
  by_cases h : s.size ≤ 60 ∧ Nm s ∧ 1 ≤ at' ∧ at' ≤ s.size
  · obtain ⟨_, h2, h3, h4⟩ := h
    obtain ⟨k, rfl⟩ := Int.eq_ofNat_of_zero_le (show 0 ≤ at' by omega)
    exact names_yes s c k w (by omega) (by omega) h2 (by omega) (by omega)
  · exact names_no s c at' w hs h
end Go.Proofs.Ytjbpacciaeifaaa.Sc
