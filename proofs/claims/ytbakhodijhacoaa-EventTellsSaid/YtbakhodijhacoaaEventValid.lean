/- Valid of the program: why an event is none of a schema; asked: fields and values lie where the slices say. -/
import Derived.Test.YtbakhodijhacoaaEventKinds
import Derived.Test.YtbakhodijhacoaaEventMay
import Derived.Test.YtbakhodijhacoaaSchemaMay
namespace Go.Proofs.Ytbakhodijhacoaa.Ev
open Go.RowKit Go.Proofs.Ytbakhodijhacoaa.BM Go.Proofs.Ytbakhodijhacoaa.EvM
open Go.Proofs.Ytbakhodijhacoaa.VaM (V)
open Go.Proofs.Ytbakhodijhacoaa.Va (SlV slV_len bx_new_t Bx ret_v)
open Go.Proofs.Ytbakhodijhacoaa.Sc (SlF slF_len)
open Go.Proofs.Ytbakhodijhacoaa.ScM (d0 Sc)

theorem kinds_iff {l : List ScM.F} {m : List V} (h : l.length = m.length) : l.map (·.k) = m.map (·.k) ↔ Kinds l m := by
  unfold Kinds
  rw [← h, Nat.min_self]
  constructor
  · intro e i hi
    have h1 : (l.map (·.k))[i]? = (m.map (·.k))[i]? := by rw [e]
    rw [List.getElem?_map, List.getElem?_map, List.getElem?_eq_getElem hi, List.getElem?_eq_getElem (by omega)] at h1
    rw [List.getD_eq_getElem?_getD, List.getD_eq_getElem?_getD, List.getElem?_eq_getElem hi, List.getElem?_eq_getElem (by omega)]
    simpa using h1
  · intro hh
    apply List.ext_getElem
    · simpa using h
    · intro i h1 h2
      rw [List.length_map] at h1 h2
      have h3 := hh i h1
      rw [List.getD_eq_getElem?_getD, List.getD_eq_getElem?_getD, List.getElem?_eq_getElem h1, List.getElem?_eq_getElem h2] at h3
      simpa using h3

theorem valid_1 {s : Sc} {e : Ev} (h : ¬ (ScM.May s ∧ May e)) : valid s e = 1 := by rw [valid, if_pos h]
theorem valid_3 {s : Sc} {e : Ev} (h : ScM.May s ∧ May e) (h2 : s.s ≠ e.s) : valid s e = 3 := by rw [valid, if_neg (fun k => k h), if_pos h2]
theorem valid_l {s : Sc} {e : Ev} (h : ScM.May s ∧ May e) (h2 : s.s = e.s) (h3 : s.f.length ≠ e.v.length) : valid s e = 5 := by
  rw [valid, if_neg (fun k => k h), if_neg (fun k => k h2), if_neg (fun k => h3 (by have := congrArg List.length k; simpa using this))]
theorem valid_k {s : Sc} {e : Ev} (h : ScM.May s ∧ May e) (h2 : s.s = e.s) (h3 : s.f.length = e.v.length) : valid s e = if Kinds s.f e.v then 0 else 5 := by
  rw [valid, if_neg (fun k => k h), if_neg (fun k => k h2)]
  by_cases hk : Kinds s.f e.v
  · rw [if_pos hk, if_pos ((kinds_iff h3).2 hk)]
  · rw [if_neg hk, if_neg (fun k => hk ((kinds_iff h3).1 k))]

set_option maxRecDepth 100000 in
set_option maxHeartbeats 2000000 in
theorem Valid_any (a : Sc) (b : Ev) (A : Option Addr) (c : Nat) (B : Option Addr) (d : Nat) (w : World) (h : SlF w A a.f c) (k : SlV w B b.v d) (ha : Sc.Fine a) (hb : Fine b) :
    Calls Try.prog 20 #[.agg #[.string a.s, .int .i64 a.v, .slice A a.f.length c], .agg #[.string b.s, .int .i64 b.t, .slice B b.v.length d]] w fun e w' => e = .returned (.int .i64 (valid a b)) ∧ Below w.heap.size w w' := by
  have hv1 := fun h => @valid_1 a b h
  have hv3 := fun h h2 => @valid_3 a b h h2
  have hvl := fun h h2 h3 => @valid_l a b h h2 h3
  have hvk := fun h h2 h3 => @valid_k a b h h2 h3
  obtain ⟨E, hE⟩ : ∃ E, E = valid a b := ⟨_, rfl⟩
  rw [← hE] at hv1 hv3 hvl hvk ⊢
  have hm1 := fun W (hW : Below w.heap.size w W) => Sc.May_any a A c W (h.kept hW) ha
  have hm2 := fun W (hW : Below w.heap.size w W) => May_any b B d W (k.kept hW) hb
  have hkd := fun W (hW : Below w.heap.size w W) => ofKinds_any A a.f c B b.v d W (h.kept hW) (k.kept hW)
  have hl := slF_len h
  have hm := slV_len k
  clear hE h k ha hb
  obtain ⟨s1, v1, l⟩ := a
  obtain ⟨s2, v2, m⟩ := b
  simp only at hv1 hv3 hvl hvk hm1 hm2 hkd hl hm ⊢
  obtain ⟨M1, hM1⟩ : ∃ M, M = ScM.May ⟨s1, v1, l⟩ := ⟨_, rfl⟩
  obtain ⟨M2, hM2⟩ : ∃ M, M = May ⟨s2, v2, m⟩ := ⟨_, rfl⟩
  obtain ⟨B1, hB1⟩ : ∃ x, x = decide (ScM.May ⟨s1, v1, l⟩) := ⟨_, rfl⟩
  obtain ⟨B2, hB2⟩ : ∃ x, x = decide (May ⟨s2, v2, m⟩) := ⟨_, rfl⟩
  have b1 : B1 = true ↔ M1 := by rw [hB1, hM1, decide_eq_true_iff]
  have b2 : B2 = true ↔ M2 := by rw [hB2, hM2, decide_eq_true_iff]
  simp only [← hB1] at hm1
  simp only [← hB2] at hm2
  rw [← hM1, ← hM2, ← b1, ← b2] at hv1 hv3 hvl hvk
  clear b1 b2 hB1 hB2 hM1 hM2
  obtain ⟨n, hn⟩ : ∃ n, n = l.length := ⟨_, rfl⟩
  obtain ⟨r, hr⟩ : ∃ r, r = m.length := ⟨_, rfl⟩
  simp only [← hn] at hm1 hkd
  simp only [← hr] at hm2 hkd
  rw [← hn, ← hr] at hvl hvk ⊢
  rw [← hn] at hl
  rw [← hr] at hm
  obtain ⟨KB, hKB⟩ : ∃ x, x = decide (Kinds l m) := ⟨_, rfl⟩
  have kb : (if Kinds l m then (0 : Int) else 5) = if KB = true then 0 else 5 := by
    rw [hKB]
    simp only [decide_eq_true_iff]
  rw [kb] at hvk
  simp only [← hKB] at hkd
  have HM1 := Lib.hid hm1
  have HM2 := Lib.hid hm2
  have HK := Lib.hid hkd
  have HV1 := Lib.hid hv1
  have HV3 := Lib.hid hv3
  have HVl := Lib.hid hvl
  have HVk := Lib.hid hvk
  clear hn hr hm1 hm2 hkd hv1 hv3 hvl hvk kb hKB
  have hb1 := (Below.refl w.heap.size w).alloc (Nat.le_refl _) (.cells #[.string s1, .int .i64 v1, .slice A n c] 24)
  have hk := (Below.refl (w.alloc (.cells #[.string s1, .int .i64 v1, .slice A n c] 24)).heap.size (w.alloc (.cells #[.string s1, .int .i64 v1, .slice A n c] 24))).alloc (Nat.le_refl _) (.cells #[.string s2, .int .i64 v2, .slice B r d] 27)
  have hx2 := bx_new_t (w.alloc (.cells #[.string s1, .int .i64 v1, .slice A n c] 24)) 27 (.string s2) (.int .i64 v2) (.slice B r d)
  rw [show (w.alloc (.cells #[.string s1, .int .i64 v1, .slice A n c] 24)).heap.size = w.heap.size + 1 from by simp] at hx2
  have HX1 := Lib.hid ((bx_new_t w 24 (.string s1) (.int .i64 v1) (.slice A n c)).kept hk)
  have HX2 := Lib.hid hx2
  obtain ⟨⟨p0, p1, p2⟩, _⟩ := HX1.out
  have HB := Lib.hid (bt hb1 hk)
  clear hb1 hk hx2
  go_enter Try.func20, Try.ntmps20
  go_wp2_with fail
  refine (HM1.out _ HB.out).mono ?_
  rintro e w1 ⟨rfl, hb1⟩
  have HX11 := Lib.hid (HX1.out.kept hb1)
  have HX21 := Lib.hid (HX2.out.kept hb1)
  have HB1 := Lib.hid (bt HB.out hb1)
  clear hb1 HB HX1 HX2 p0 p1 p2 HM1
  cases B1
  · have HE := Lib.hid (HV1.out (fun h => by cases h.1))
    go_wp2_with fail
    go_ret
    exact ⟨ret_v (x := .int .i64 1) (by rw [HE.out]), HB1.out⟩
  · obtain ⟨⟨q0, q1, q2⟩, _⟩ := HX21.out
    go_wp2_with fail
    refine (HM2.out _ HB1.out).mono ?_
    rintro e w2 ⟨rfl, hb2⟩
    have HX1 := Lib.hid (HX11.out.kept hb2)
    have HX2 := Lib.hid (HX21.out.kept hb2)
    have HB2 := Lib.hid (bt HB1.out hb2)
    clear hb2 HB1 HX11 HX21 q0 q1 q2 HM2
    obtain ⟨⟨p0, p1, p2⟩, _⟩ := HX1.out
    obtain ⟨⟨q0, q1, q2⟩, _⟩ := HX2.out
    cases B2
    · have HE := Lib.hid (HV1.out (fun h => by cases h.2))
      go_wp2_with fail
      go_ret
      exact ⟨ret_v (x := .int .i64 1) (by rw [HE.out]), HB2.out⟩
    · by_cases g1 : s1 = s2
      · subst g1
        have ee : (s1.toList == s1.toList) = true := by simp
        by_cases g3 : n = r
        · subst g3
          have HVv := Lib.hid (HVk.out (by simp) rfl rfl)
          go_wp2_with fail
          refine (HK.out _ HB2.out).mono ?_
          rintro e w3 ⟨rfl, hb3⟩
          have HB3 := Lib.hid (bt HB2.out hb3)
          clear hb3 p0 p1 p2 q0 q1 q2
          cases KB
          · go_wp2_with fail
            go_ret
            exact ⟨ret_v (x := .int .i64 5) (by rw [HVv.out]; rfl), HB3.out⟩
          · go_wp2_with fail
            go_ret
            exact ⟨ret_v (x := .int .i64 0) (by rw [HVv.out]; rfl), HB3.out⟩
        · have hd : ¬ ((n : Int) = r) := by omega
          have HE := Lib.hid (HVl.out (by simp) rfl g3)
          clear g3
          go_wp2_with fail
          go_ret
          exact ⟨ret_v (x := .int .i64 5) (by rw [HE.out]), HB2.out⟩
      · have ee := str_ne g1
        have HE := Lib.hid (HV3.out (by simp) g1)
        clear g1
        go_wp2_with fail
        go_ret
        exact ⟨ret_v (x := .int .i64 3) (by rw [HE.out]), HB2.out⟩
end Go.Proofs.Ytbakhodijhacoaa.Ev
