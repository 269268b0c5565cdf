/- The walk of ValueOrder: of two values of one kind one is less, or they are the same; no condition. -/
import Derived.Test.YtkjfofljjgifdaaValueLaw
namespace Go.Proofs.Ytkjfofljjgifdaa.Va
open Go.RowKit Go.Proofs.Ytkjfofljjgifdaa.BM Go.Proofs.Ytkjfofljjgifdaa.LM Go.Proofs.Ytkjfofljjgifdaa.VaM

theorem bls_asym : ∀ x y : List Int, bls x y = true → bls y x = false
  | [], [], h => by simp [bls] at h
  | _ :: _, [], h => by simp [bls] at h
  | [], _ :: _, _ => rfl
  | a :: x, b :: y, h => by
    simp only [bls, Bool.or_eq_true, decide_eq_true_eq, Bool.and_eq_true, beq_iff_eq] at h
    simp only [bls, Bool.or_eq_false_iff, decide_eq_false_iff_not, Bool.and_eq_false_imp, beq_iff_eq]
    rcases h with h | ⟨rfl, h⟩
    · exact ⟨by omega, fun e => by omega⟩
    · exact ⟨by omega, fun _ => bls_asym x y h⟩

theorem bls_tri : ∀ x y : List Int, bls x y = false → bls y x = false → x = y
  | [], [], _, _ => rfl
  | _ :: _, [], _, h => by simp [bls] at h
  | [], _ :: _, h, _ => by simp [bls] at h
  | a :: x, b :: y, h, g => by
    simp only [bls, Bool.or_eq_false_iff, decide_eq_false_iff_not, Bool.and_eq_false_imp, beq_iff_eq] at h g
    have e : a = b := by omega
    rw [e, bls_tri x y (h.2 e) (g.2 e.symm)]

theorem bls_trans : ∀ x y z : List Int, bls x y = true → bls y z = true → bls x z = true
  | [], [], _, h, _ => by simp [bls] at h
  | _ :: _, [], _, h, _ => by simp [bls] at h
  | _, _ :: _, [], _, h => by simp [bls] at h
  | [], _ :: _, _ :: _, _, _ => rfl
  | a :: x, b :: y, c :: z, h, g => by
    simp only [bls, Bool.or_eq_true, decide_eq_true_eq, Bool.and_eq_true, beq_iff_eq] at h g ⊢
    rcases h with h | ⟨rfl, h⟩
    · rcases g with g | ⟨rfl, g⟩
      · exact Or.inl (by omega)
      · exact Or.inl h
    · rcases g with g | ⟨rfl, g⟩
      · exact Or.inl g
      · exact Or.inr ⟨rfl, bls_trans x y z h g⟩

theorem bl_inj {s t : ByteArray} (h : bl s = bl t) : s = t := by rw [← str_bl s, ← str_bl t, h]

theorem lt_asym {a b : V} (hk : a.k = b.k) (h : lt a b = true) : lt b a = false := by
  by_cases k2 : a.k = 2
  · rw [lt_s k2, bls_bl] at h
    rw [lt_s (by omega), bls_bl]
    exact bls_asym _ _ h
  · rw [lt_n k2, decide_eq_true_iff] at h
    rw [lt_n (by omega), decide_eq_false_iff_not]
    omega

theorem lt_tri {a b : V} (hk : a.k = b.k) (ma : May a) (mb : May b) : same a b = !(lt a b || lt b a) := by
  cases h1 : lt a b with
  | true =>
    rw [Bool.true_or, Bool.not_true, Bool.eq_false_iff]
    intro h
    rw [same_iff] at h
    rw [h] at h1
    have h2 := lt_asym rfl h1
    rw [h1] at h2
    cases h2
  | false =>
    cases h2 : lt b a with
    | true =>
      rw [Bool.or_true, Bool.not_true, Bool.eq_false_iff]
      intro h
      rw [same_iff] at h
      rw [h] at h1 h2
      rw [h1] at h2
      cases h2
    | false =>
      rw [Bool.or_false, Bool.not_false, same_iff]
      by_cases k2 : a.k = 2
      · rw [lt_s k2, bls_bl] at h1
        rw [lt_s (by omega), bls_bl] at h2
        refine V.same hk ?_ (bl_inj (bls_tri _ _ h1 h2))
        rcases ma with ⟨_, e1, _⟩ | ⟨_, e1 | ⟨e1, _⟩ | ⟨e1, _⟩⟩
        · rcases mb with ⟨_, e2, _⟩ | ⟨_, e2 | ⟨e2, _⟩ | ⟨e2, _⟩⟩ <;> omega
        · omega
        · omega
        · omega
      · rw [lt_n k2, decide_eq_false_iff_not] at h1
        rw [lt_n (by omega), decide_eq_false_iff_not] at h2
        refine V.same hk (by omega) ?_
        rcases ma with ⟨e1, _⟩ | ⟨e1, _⟩
        · omega
        · rcases mb with ⟨e2, _⟩ | ⟨e2, _⟩
          · omega
          · rw [size_e0.1 e1, size_e0.1 e2]

theorem lt_trans {a b c : V} (h1 : a.k = b.k) (h2 : b.k = c.k) (hab : lt a b = true) (hbc : lt b c = true) : lt a c = true := by
  by_cases k2 : a.k = 2
  · rw [lt_s k2, bls_bl] at hab ⊢
    rw [lt_s (by omega), bls_bl] at hbc
    exact bls_trans _ _ _ hab hbc
  · rw [lt_n k2, decide_eq_true_iff] at hab ⊢
    rw [lt_n (by omega), decide_eq_true_iff] at hbc
    omega

set_option maxRecDepth 100000 in
set_option maxHeartbeats 4000000 in
theorem order_walk (k1 n1 : Int) (s1 : ByteArray) (k2 n2 : Int) (s2 : ByteArray) (k3 n3 : Int) (s3 : ByteArray) (w : World) (hv1 : (Lit.int .i64 k1).wf = true ∧ (Lit.int .i64 n1).wf = true ∧ s1.size ≤ maxLen) (hv2 : (Lit.int .i64 k2).wf = true ∧ (Lit.int .i64 n2).wf = true ∧ s2.size ≤ maxLen) (hv3 : (Lit.int .i64 k3).wf = true ∧ (Lit.int .i64 n3).wf = true ∧ s3.size ≤ maxLen) :
    Calls Try.prog 5 #[.agg #[.int .i64 k1, .int .i64 n1, .string s1], .agg #[.int .i64 k2, .int .i64 n2, .string s2], .agg #[.int .i64 k3, .int .i64 n3, .string s3]] w fun e w' => e = .returned (.bool true) ∧ Below w.heap.size w w' := by
  have HF1 := Lib.hid (fun W => few_any k1 n1 s1 W hv1.2.2)
  have HF2 := Lib.hid (fun W => few_any k2 n2 s2 W hv2.2.2)
  have HF3 := Lib.hid (fun W => few_any k3 n3 s3 W hv3.2.2)
  have HM1 := Lib.hid (May_any k1 n1 s1)
  have HM2 := Lib.hid (May_any k2 n2 s2)
  have HM3 := Lib.hid (May_any k3 n3 s3)
  have H12 := Lib.hid (Less_any ⟨k1, n1, s1⟩ ⟨k2, n2, s2⟩)
  have H21 := Lib.hid (Less_any ⟨k2, n2, s2⟩ ⟨k1, n1, s1⟩)
  have H23 := Lib.hid (Less_any ⟨k2, n2, s2⟩ ⟨k3, n3, s3⟩)
  have H13 := Lib.hid (Less_any ⟨k1, n1, s1⟩ ⟨k3, n3, s3⟩)
  obtain ⟨u1, hu1⟩ : ∃ u1, u1 = w.alloc (.cells #[.int .i64 k1, .int .i64 n1, .string s1] 23) := ⟨_, rfl⟩
  obtain ⟨u2, hu2⟩ : ∃ u2, u2 = u1.alloc (.cells #[.int .i64 k2, .int .i64 n2, .string s2] 23) := ⟨_, rfl⟩
  obtain ⟨u3, hu3⟩ : ∃ u3, u3 = u2.alloc (.cells #[.int .i64 k3, .int .i64 n3, .string s3] 23) := ⟨_, rfl⟩
  have z1 : u1.heap.size = w.heap.size + 1 := by rw [hu1]; simp
  have z2 : u2.heap.size = w.heap.size + 2 := by rw [hu2]; simp [z1]
  have b1 : Below w.heap.size w u1 := by rw [hu1]; exact (Below.refl _ w).alloc (Nat.le_refl _) _
  have b2 : Below u1.heap.size u1 u2 := by rw [hu2]; exact (Below.refl _ u1).alloc (Nat.le_refl _) _
  have b3 : Below u2.heap.size u2 u3 := by rw [hu3]; exact (Below.refl _ u2).alloc (Nat.le_refl _) _
  have x1 : Bx u1 w.heap.size (.int .i64 k1) (.int .i64 n1) (.string s1) := by rw [hu1]; exact bx_new _ _ _ _
  have x2 : Bx u2 (w.heap.size + 1) (.int .i64 k2) (.int .i64 n2) (.string s2) := by rw [hu2, ← z1]; exact bx_new _ _ _ _
  have x3 : Bx u3 (w.heap.size + 2) (.int .i64 k3) (.int .i64 n3) (.string s3) := by rw [hu3, ← z2]; exact bx_new _ _ _ _
  have HX1 := Lib.hid ((x1.kept b2).kept b3)
  have HX2 := Lib.hid (x2.kept b3)
  have HX3 := Lib.hid x3
  have HB := Lib.hid (bt (bt b1 b2) b3)
  have hu : u3 = ((w.alloc (.cells #[.int .i64 k1, .int .i64 n1, .string s1] 23)).alloc (.cells #[.int .i64 k2, .int .i64 n2, .string s2] 23)).alloc (.cells #[.int .i64 k3, .int .i64 n3, .string s3] 23) := by rw [hu3, hu2, hu1]
  rw [hu] at HX1 HX2 HX3 HB
  clear hu hu1 hu2 hu3 z1 z2 b1 b2 b3 x1 x2 x3 hv1 hv2 hv3
  go_enter Try.func5, Try.ntmps5
  go_wp2_with fail
  refine (awake_any _).mono ?_
  rintro e w1 ⟨rfl, hb⟩
  have HX11 := Lib.hid (HX1.out.kept hb)
  have HX21 := Lib.hid (HX2.out.kept hb)
  have HX31 := Lib.hid (HX3.out.kept hb)
  have HB1 := Lib.hid (bt HB.out hb)
  clear hb HX1 HX2 HX3 HB
  obtain ⟨⟨p0, p1, p2⟩, _⟩ := HX11.out
  go_wp2_with fail
  refine (HF1.out _).mono ?_
  rintro e w2 ⟨rfl, hb⟩
  obtain ⟨P, hP⟩ : ∃ P, P = decide (s1.size ≤ 100) := ⟨_, rfl⟩
  rw [← hP]
  have HX12 := Lib.hid (HX11.out.kept hb)
  have HX22 := Lib.hid (HX21.out.kept hb)
  have HX32 := Lib.hid (HX31.out.kept hb)
  have HB2 := Lib.hid (bt HB1.out hb)
  clear hb p0 p1 p2 hP HF1 HX11 HX21 HX31 HB1
  obtain ⟨⟨p0, p1, p2⟩, _⟩ := HX22.out
  go_wp2_with fail
  refine (HF2.out _).mono ?_
  rintro e w3 ⟨rfl, hb⟩
  obtain ⟨Q, hQ⟩ : ∃ Q, Q = decide (s2.size ≤ 100) := ⟨_, rfl⟩
  rw [← hQ]
  have HX13 := Lib.hid (HX12.out.kept hb)
  have HX23 := Lib.hid (HX22.out.kept hb)
  have HX33 := Lib.hid (HX32.out.kept hb)
  have HB3 := Lib.hid (bt HB2.out hb)
  clear hb p0 p1 p2 hQ HF2 HX12 HX22 HX32 HB2
  obtain ⟨⟨p0, p1, p2⟩, _⟩ := HX33.out
  go_wp2_with fail
  refine (HF3.out _).mono ?_
  rintro e w4 ⟨rfl, hb⟩
  obtain ⟨R, hR⟩ : ∃ R, R = decide (s3.size ≤ 100) := ⟨_, rfl⟩
  rw [← hR]
  have HX14 := Lib.hid (HX13.out.kept hb)
  have HX24 := Lib.hid (HX23.out.kept hb)
  have HX34 := Lib.hid (HX33.out.kept hb)
  have HB4 := Lib.hid (bt HB3.out hb)
  clear hb p0 p1 p2 hR HF3 HX13 HX23 HX33 HB3
  by_cases hpqr : P = true ∧ Q = true ∧ R = true
  · obtain ⟨rfl, rfl, rfl⟩ := hpqr
    obtain ⟨⟨p0, p1, p2⟩, _⟩ := HX14.out
    go_wp2_with fail
    refine (HM1.out _).mono ?_
    rintro e w5 ⟨rfl, hb⟩
    have HX15 := Lib.hid (HX14.out.kept hb)
    have HX25 := Lib.hid (HX24.out.kept hb)
    have HX35 := Lib.hid (HX34.out.kept hb)
    have HB5 := Lib.hid (bt HB4.out hb)
    clear hb p0 p1 p2 HM1 HX14 HX24 HX34 HB4
    by_cases m1 : May ⟨k1, n1, s1⟩
    · rw [decide_eq_true m1]
      have HMay1 := Lib.hid m1
      clear m1
      obtain ⟨⟨p0, p1, p2⟩, _⟩ := HX25.out
      go_wp2_with fail
      refine (HM2.out _).mono ?_
      rintro e w6 ⟨rfl, hb⟩
      have HX16 := Lib.hid (HX15.out.kept hb)
      have HX26 := Lib.hid (HX25.out.kept hb)
      have HX36 := Lib.hid (HX35.out.kept hb)
      have HB6 := Lib.hid (bt HB5.out hb)
      clear hb p0 p1 p2 HM2 HX15 HX25 HX35 HB5
      by_cases m2 : May ⟨k2, n2, s2⟩
      · rw [decide_eq_true m2]
        have HMay2 := Lib.hid m2
        clear m2
        obtain ⟨⟨p0, p1, p2⟩, _⟩ := HX36.out
        go_wp2_with fail
        refine (HM3.out _).mono ?_
        rintro e w7 ⟨rfl, hb⟩
        have HX17 := Lib.hid (HX16.out.kept hb)
        have HX27 := Lib.hid (HX26.out.kept hb)
        have HX37 := Lib.hid (HX36.out.kept hb)
        have HB7 := Lib.hid (bt HB6.out hb)
        clear hb p0 p1 p2 HM3 HX16 HX26 HX36 HB6
        by_cases m3 : May ⟨k3, n3, s3⟩
        · rw [decide_eq_true m3]
          have HMay3 := Lib.hid m3
          clear m3
          obtain ⟨⟨p0, p1, p2⟩, _⟩ := HX17.out
          obtain ⟨⟨q0, q1, q2⟩, _⟩ := HX27.out
          go_wp2_with fail
          refine (H12.out _).mono ?_
          rintro e w8 ⟨rfl, hb⟩
          have HX18 := Lib.hid (HX17.out.kept hb)
          have HX28 := Lib.hid (HX27.out.kept hb)
          have HX38 := Lib.hid (HX37.out.kept hb)
          have HB8 := Lib.hid (bt HB7.out hb)
          obtain ⟨IS, hIS⟩ : ∃ IS, IS = can ⟨k1, n1, s1⟩ ⟨k2, n2, s2⟩ := ⟨_, rfl⟩
          obtain ⟨X, hX⟩ : ∃ X, X = (IS && lt ⟨k1, n1, s1⟩ ⟨k2, n2, s2⟩) := ⟨_, rfl⟩
          rw [← hIS, ← hX]
          have HIS := Lib.hid hIS
          have HXd := Lib.hid hX
          clear hb p0 p1 p2 q0 q1 q2 H12 HX17 HX27 HX37 HB7 hIS hX
          obtain ⟨⟨p0, p1, p2⟩, _⟩ := HX18.out
          obtain ⟨⟨q0, q1, q2⟩, _⟩ := HX28.out
          go_wp2_with fail
          refine (H21.out _).mono ?_
          rintro e w9 ⟨rfl, hb⟩
          have HX19 := Lib.hid (HX18.out.kept hb)
          have HX29 := Lib.hid (HX28.out.kept hb)
          have HX39 := Lib.hid (HX38.out.kept hb)
          have HB9 := Lib.hid (bt HB8.out hb)
          obtain ⟨WAS, hWAS⟩ : ∃ WAS, WAS = can ⟨k2, n2, s2⟩ ⟨k1, n1, s1⟩ := ⟨_, rfl⟩
          obtain ⟨Y, hY⟩ : ∃ Y, Y = (WAS && lt ⟨k2, n2, s2⟩ ⟨k1, n1, s1⟩) := ⟨_, rfl⟩
          rw [← hWAS, ← hY]
          have HWAS := Lib.hid hWAS
          have HYd := Lib.hid hY
          clear hb p0 p1 p2 q0 q1 q2 H21 HX18 HX28 HX38 HB8 hWAS hY
          obtain ⟨⟨p0, p1, p2⟩, _⟩ := HX29.out
          obtain ⟨⟨q0, q1, q2⟩, _⟩ := HX39.out
          go_wp2_with fail
          refine (H23.out _).mono ?_
          rintro e w10 ⟨rfl, hb⟩
          have HX110 := Lib.hid (HX19.out.kept hb)
          have HX210 := Lib.hid (HX29.out.kept hb)
          have HX310 := Lib.hid (HX39.out.kept hb)
          have HB10 := Lib.hid (bt HB9.out hb)
          obtain ⟨Z, hZ⟩ : ∃ Z, Z = (can ⟨k2, n2, s2⟩ ⟨k3, n3, s3⟩ && lt ⟨k2, n2, s2⟩ ⟨k3, n3, s3⟩) := ⟨_, rfl⟩
          obtain ⟨C2, hC2⟩ : ∃ C2, C2 = can ⟨k2, n2, s2⟩ ⟨k3, n3, s3⟩ := ⟨_, rfl⟩
          rw [← hZ, ← hC2]
          have HZd := Lib.hid hZ
          clear hb p0 p1 p2 q0 q1 q2 H23 HX19 HX29 HX39 HB9 hZ hC2
          obtain ⟨⟨p0, p1, p2⟩, _⟩ := HX110.out
          obtain ⟨⟨q0, q1, q2⟩, _⟩ := HX310.out
          go_wp2_with fail
          refine (H13.out _).mono ?_
          rintro e w11 ⟨rfl, hb⟩
          have HX1 := Lib.hid (HX110.out.kept hb)
          have HX2 := Lib.hid (HX210.out.kept hb)
          have HB11 := Lib.hid (bt HB10.out hb)
          obtain ⟨T, hT⟩ : ∃ T, T = (can ⟨k1, n1, s1⟩ ⟨k3, n3, s3⟩ && lt ⟨k1, n1, s1⟩ ⟨k3, n3, s3⟩) := ⟨_, rfl⟩
          obtain ⟨C3, hC3⟩ : ∃ C3, C3 = can ⟨k1, n1, s1⟩ ⟨k3, n3, s3⟩ := ⟨_, rfl⟩
          rw [← hT, ← hC3]
          have HTd := Lib.hid hT
          clear hb p0 p1 p2 q0 q1 q2 H13 HX110 HX210 HX310 HB10 hT hC3
          obtain ⟨⟨p0, p1, p2⟩, _⟩ := HX1.out
          obtain ⟨⟨q0, q1, q2⟩, _⟩ := HX2.out
          by_cases hk : k1 = k2
          · have hi : IS = true := by rw [HIS.out]; exact decide_eq_true ⟨HMay1.out, HMay2.out, hk⟩
            have hw : WAS = true := by rw [HWAS.out]; exact decide_eq_true ⟨HMay2.out, HMay1.out, hk.symm⟩
            have hX := HXd.out
            have hY := HYd.out
            rw [hi, Bool.true_and] at hX
            rw [hw, Bool.true_and] at hY
            have hS := lt_tri (a := ⟨k1, n1, s1⟩) (b := ⟨k2, n2, s2⟩) hk HMay1.out HMay2.out
            rw [← hX, ← hY] at hS
            have hXY : X = true → Y = false := fun h => by rw [hY]; exact lt_asym hk (by rw [← hX]; exact h)
            have hXZ : X = true → Z = true → T = true := fun h g => by
              rw [HZd.out, Bool.and_eq_true] at g
              have hc := of_decide_eq_true g.1
              rw [HTd.out, Bool.and_eq_true]
              exact ⟨decide_eq_true ⟨HMay1.out, hc.2.1, hk.trans hc.2.2⟩, lt_trans hk hc.2.2 (by rw [← hX]; exact h) g.2⟩
            have hne := fun W => neq_v k1 n1 k2 n2 s1 s2 W
            rw [hS] at hne
            have hbk : (k1 == k2) = true := by simpa using hk
            subst hi hw
            clear hX hY hS HXd HYd HZd HTd HIS HWAS hk
            cases X
            · cases Y
              all_goals
                clear hXY hXZ
                go_wp2_with fail
                go_ret
                exact ⟨ret_bool (by first | rfl | simp), HB11.out⟩
            · obtain rfl := hXY rfl
              cases Z
              · clear hXY hXZ
                go_wp2_with fail
                go_ret
                exact ⟨ret_bool (by first | rfl | simp), HB11.out⟩
              · obtain rfl := hXZ rfl rfl
                clear hXY hXZ
                go_wp2_with fail
                go_ret
                exact ⟨ret_bool (by first | rfl | simp), HB11.out⟩
          · have hi : IS = false := by rw [HIS.out]; exact decide_eq_false (fun h => hk h.2.2)
            have hw : WAS = false := by rw [HWAS.out]; exact decide_eq_false (fun h => hk h.2.2.symm)
            have hX := HXd.out
            have hY := HYd.out
            rw [hi, Bool.false_and] at hX
            rw [hw, Bool.false_and] at hY
            have hbk : (k1 == k2) = false := by simpa using hk
            subst hi hw hX hY
            clear HXd HYd HZd HTd HIS HWAS hk
            go_wp2_with fail
            go_ret
            exact ⟨ret_bool (by first | rfl | simp), HB11.out⟩
        · rw [decide_eq_false m3]
          clear m3
          go_wp2_with fail
          go_ret
          exact ⟨ret_bool (by first | rfl | simp), HB7.out⟩
      · rw [decide_eq_false m2]
        clear m2
        go_wp2_with fail
        go_ret
        exact ⟨ret_bool (by first | rfl | simp), HB6.out⟩
    · rw [decide_eq_false m1]
      clear m1
      go_wp2_with fail
      go_ret
      exact ⟨ret_bool (by first | rfl | simp), HB5.out⟩
  · have hor : P = false ∨ (P = true ∧ Q = false) ∨ (P = true ∧ Q = true ∧ R = false) := by
      cases P <;> cases Q <;> cases R <;> simp at *
    clear hpqr
    rcases hor with rfl | ⟨rfl, rfl⟩ | ⟨rfl, rfl, rfl⟩
    all_goals
      go_wp2_with fail
      go_ret
      exact ⟨ret_bool (by first | rfl | simp), HB4.out⟩
end Go.Proofs.Ytkjfofljjgifdaa.Va
