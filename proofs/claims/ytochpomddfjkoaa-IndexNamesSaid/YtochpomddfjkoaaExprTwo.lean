/- What comes of two, by the document's answer; asked: both values may be. -/
import Derived.Test.YtochpomddfjkoaaExprTwos
import Derived.Test.YtochpomddfjkoaaExprArith
import Derived.Test.YtochpomddfjkoaaValueRefLess
namespace Go.Proofs.Ytochpomddfjkoaa.Ex
open Go.RowKit Go.Proofs.Ytochpomddfjkoaa.BM Go.Proofs.Ytochpomddfjkoaa.VaM Go.Proofs.Ytochpomddfjkoaa.Va Go.Proofs.Ytochpomddfjkoaa.ExM Go.Proofs.Ytochpomddfjkoaa.EvM

/-- What the walk needs of the three blocks. -/
structure Blk (w W : World) (k n : Int) (s : ByteArray) (j m : Int) (t : ByteArray) : Prop where
  x : Bx W w.heap.size (.int .i64 k) (.int .i64 n) (.string s)
  y : Bx W (w.heap.size + 1) (.int .i64 j) (.int .i64 m) (.string t)
  z : Bx W (w.heap.size + 2) (.int .i64 0) (.int .i64 0) (.string ⟨#[]⟩)
  b : Below w.heap.size w W

theorem Blk.kept {w W W' : World} {k n : Int} {s : ByteArray} {j m : Int} {t : ByteArray} (h : Blk w W k n s j m t) (hb : Below W.heap.size W W') : Blk w W' k n s j m t := ⟨h.x.kept hb, h.y.kept hb, h.z.kept hb, bt h.b hb⟩

theorem blk_new (w : World) (k n : Int) (s : ByteArray) (j m : Int) (t : ByteArray) : Blk w (((w.alloc (.cells #[.int .i64 k, .int .i64 n, .string s] 52)).alloc (.cells #[.int .i64 j, .int .i64 m, .string t] 52)).alloc (.cells #[.int .i64 0, .int .i64 0, .string ⟨#[]⟩] 52)) k n s j m t := by
  have hx := bx_new_t w 52 (.int .i64 k) (.int .i64 n) (.string s)
  have hb1 := (Below.refl w.heap.size w).alloc (Nat.le_refl _) (.cells #[.int .i64 k, .int .i64 n, .string s] 52)
  obtain ⟨u1, hu1⟩ : ∃ u, u = w.alloc (.cells #[.int .i64 k, .int .i64 n, .string s] 52) := ⟨_, rfl⟩
  have hs1 : u1.heap.size = w.heap.size + 1 := by rw [hu1]; simp
  rw [← hu1] at hx hb1 ⊢
  have hy := bx_new_t u1 52 (.int .i64 j) (.int .i64 m) (.string t)
  rw [hs1] at hy
  have hb2 := (Below.refl u1.heap.size u1).alloc (Nat.le_refl _) (.cells #[.int .i64 j, .int .i64 m, .string t] 52)
  obtain ⟨u2, hu2⟩ : ∃ u, u = u1.alloc (.cells #[.int .i64 j, .int .i64 m, .string t] 52) := ⟨_, rfl⟩
  have hs2 : u2.heap.size = w.heap.size + 2 := by rw [hu2]; simp [hs1]
  rw [← hu2] at hy hb2 ⊢
  have hz := bx_new_t u2 52 (.int .i64 0) (.int .i64 0) (.string ⟨#[]⟩)
  rw [hs2] at hz
  have hb3 := (Below.refl u2.heap.size u2).alloc (Nat.le_refl _) (.cells #[.int .i64 0, .int .i64 0, .string ⟨#[]⟩] 52)
  exact ⟨(hx.kept hb2).kept hb3, hy.kept hb3, hz, bt hb1 (bt hb2 hb3)⟩

set_option maxRecDepth 100000 in
set_option maxHeartbeats 8000000 in
theorem two_any (c : Int) (a b : V) (w : World) (ha : VaM.May a) (hb : VaM.May b) (hra : Rng a) (hrb : Rng b) :
    Calls Try.prog 52 #[.int .i64 c, .agg #[.int .i64 a.k, .int .i64 a.n, .string a.s], .agg #[.int .i64 b.k, .int .i64 b.n, .string b.s]] w (TwoV (two c a b) w) := by
  have hT := fun h => @two_k a b c h
  have hT6 := @two_6 a b
  have hT5b := @two_5b a b
  have hT5 := @two_5 a b
  have hT78n := @two_78n a b c
  have hT78 := @two_78 a b c
  have hTn := @two_n a b c
  have hTar := @two_ar a b c
  have hL := fun W => refLess_any a b W
  have hP := fun W => plus_any a.n b.n W hra hrb
  have hM := fun W => minus_any a.n b.n W hra hrb
  have hX := fun W => times_any a.n b.n W hra hrb
  have heq : ∀ W, (binOp .eql 52 (.agg #[.int .i64 a.k, .int .i64 a.n, .string a.s]) (.agg #[.int .i64 b.k, .int .i64 b.n, .string b.s])).run Try.prog W = .ok (.bool (decide (a = b))) W := fun W => by
    have h := eql_v a.k a.n b.k b.n a.s b.s W
    rw [show same a b = decide (a = b) from by rw [Bool.eq_iff_iff, same_iff, decide_eq_true_iff]] at h
    exact h
  have hbool : ∀ x : V, VaM.May x → x.k = 1 → x.n = 0 ∨ x.n = 1 := fun x h hk => by
    rcases h with ⟨h, _⟩ | ⟨_, h | ⟨_, h⟩ | ⟨h, _⟩⟩
    · omega
    · omega
    · exact h
    · omega
  have hna := hbool a ha
  have hnb := hbool b hb
  unfold LessV at hL
  obtain ⟨ls, hls⟩ : ∃ x, x = (can a b && lt a b) := ⟨_, rfl⟩
  obtain ⟨cn, hcn⟩ : ∃ x, x = can a b := ⟨_, rfl⟩
  simp only [← hls] at hL
  simp only [← hcn] at hL
  rw [← hls] at hT5
  obtain ⟨eq, heqq⟩ : ∃ x, x = decide (a = b) := ⟨_, rfl⟩
  rw [← heqq] at hT6
  simp only [← heqq] at heq
  clear hls hcn heqq hbool ha hb hra hrb
  obtain ⟨k, n, s⟩ := a
  obtain ⟨j, m, t⟩ := b
  simp only at hT hT6 hT5b hT5 hT78n hT78 hTn hTar hL hP hM hX heq hna hnb ⊢
  have HT := Lib.hid hT
  have HT6 := Lib.hid hT6
  have HT5b := Lib.hid hT5b
  have HT5 := Lib.hid hT5
  have HT78n := Lib.hid hT78n
  have HT78 := Lib.hid hT78
  have HTn := Lib.hid hTn
  have HTar := Lib.hid hTar
  have HL := Lib.hid hL
  have HP := Lib.hid hP
  have HM := Lib.hid hM
  have HXx := Lib.hid hX
  have HEq := Lib.hid heq
  have hk0 := blk_new w k n s j m t
  clear hT hT6 hT5b hT5 hT78n hT78 hTn hTar hL hP hM hX heq
  obtain ⟨⟨p0, p1, p2⟩, _⟩ := hk0.x
  obtain ⟨⟨y0, y1, y2⟩, _⟩ := hk0.y
  obtain ⟨⟨z0, z1, z2⟩, _⟩ := hk0.z
  obtain ⟨w3, hw3⟩ : ∃ w3, w3 = (((w.alloc (.cells #[.int .i64 k, .int .i64 n, .string s] 52)).alloc (.cells #[.int .i64 j, .int .i64 m, .string t] 52)).alloc (.cells #[.int .i64 0, .int .i64 0, .string ⟨#[]⟩] 52)) := ⟨_, rfl⟩
  rw [← hw3] at hk0
  have HK := Lib.hid hk0
  have HW := Lib.hid hw3
  clear hk0 hw3
  by_cases hk : k = j
  · subst hk
    have hkk : (k != k) = false := by simp
    clear HT
    by_cases h6 : c = 6
    · subst h6
      have HR := Lib.hid (HT6.out rfl)
      clear HT6 HT5b HT5 HT78n HT78 HTn HTar hna hnb
      have he := HEq.out
      go_enter Try.func52, Try.ntmps52
      go_wp2_with fail
      rw [← HW.out]
      clear HW p0 p1 p2 y0 y1 y2 z0 z1 z2
      refine (truth_any eq w3).mono ?_
      rintro e w5 ⟨rfl, hb5⟩
      have HK5 := Lib.hid (HK.out.kept hb5)
      clear hb5 HK
      obtain ⟨q, hq⟩ : ∃ q, q = (truth eq).n := ⟨_, rfl⟩
      rw [← hq]
      have HQ := Lib.hid hq
      clear hq he
      have hst := bx_store HK5.out.z (.int .i64 1) (.int .i64 q) (.string ⟨#[]⟩)
      obtain ⟨⟨g0, g1, g2⟩, _⟩ := hst
      have G0 := Lib.hid g0
      have G1 := Lib.hid g1
      have G2 := Lib.hid g2
      have HF := Lib.hid (stored3 HK5.out.b (show w.heap.size ≤ w.heap.size + 2 from by omega) (.int .i64 1) (.int .i64 q) (.string ⟨#[]⟩))
      obtain ⟨⟨z0, z1, z2⟩, z3, z4, z5⟩ := HK5.out.z
      clear g0 g1 g2
      go_wp2_with fail
      obtain ⟨W2, hW2⟩ : ∃ W2, W2 = ((w5.setCell ⟨w.heap.size + 2, 0, none⟩ (.int .i64 1)).setCell ⟨w.heap.size + 2, 1, none⟩ (.int .i64 q)).setCell ⟨w.heap.size + 2, 2, none⟩ (.string ⟨#[]⟩) := ⟨_, rfl⟩
      rw [← hW2] at HF G0 G1 G2 ⊢
      have g0 := G0.out
      have g1 := G1.out
      have g2 := G2.out
      clear hW2 z0 z1 z2 z3 z4 z5
      exact bodyPost_ret (v := .tuple #[.agg #[.int .i64 1, .int .i64 q, .string ⟨#[]⟩], .int .i64 0]) (by simp [results, Try.results52, go_sem, g0, g1, g2]) rfl ⟨ret_v (by rw [HR.out, HQ.out]; rfl), HF.out⟩
    · have g6 : (c == 6) = false := by simpa using h6
      clear HT6
      by_cases h5 : c = 5
      · subst h5
        by_cases h1 : k = 1
        · subst h1
          have HR := Lib.hid (HT5b.out rfl rfl)
          clear HT5b HT5 HT78n HT78 HTn HTar hna hnb
          go_enter Try.func52, Try.ntmps52
          go_wp2_with fail
          have hbb := HK.out.b
          rw [HW.out] at hbb
          exact bodyPost_ret (v := .tuple #[.agg #[.int .i64 0, .int .i64 0, .string ⟨#[]⟩], .int .i64 5]) (by simp [results, Try.results52, go_sem, z0, z1, z2]) rfl ⟨ret_v (by rw [HR.out]; rfl), hbb⟩
        · have g1 : (k == 1) = false := by simpa using h1
          have HR := Lib.hid (HT5.out rfl h1)
          clear HT5b HT5 HT78n HT78 HTn HTar hna hnb h1
          go_enter Try.func52, Try.ntmps52
          go_wp2_with fail
          rw [← HW.out]
          clear HW p0 p1 p2 y0 y1 y2 z0 z1 z2
          refine (HL.out w3).mono ?_
          rintro e w5 ⟨rfl, hb5⟩
          have HK5 := Lib.hid (HK.out.kept hb5)
          clear hb5 HK
          go_wp2_with fail
          refine (truth_any ls w5).mono ?_
          rintro e w6 ⟨rfl, hb5⟩
          have HK6 := Lib.hid (HK5.out.kept hb5)
          clear hb5 HK5
          obtain ⟨q, hq⟩ : ∃ q, q = (truth ls).n := ⟨_, rfl⟩
          rw [← hq]
          have HQ := Lib.hid hq
          clear hq
          have hst := bx_store HK6.out.z (.int .i64 1) (.int .i64 q) (.string ⟨#[]⟩)
          obtain ⟨⟨g0, g1, g2⟩, _⟩ := hst
          have G0 := Lib.hid g0
          have G1 := Lib.hid g1
          have G2 := Lib.hid g2
          have HF := Lib.hid (stored3 HK6.out.b (show w.heap.size ≤ w.heap.size + 2 from by omega) (.int .i64 1) (.int .i64 q) (.string ⟨#[]⟩))
          obtain ⟨⟨z0, z1, z2⟩, z3, z4, z5⟩ := HK6.out.z
          clear g0 g1 g2
          go_wp2_with fail
          obtain ⟨W2, hW2⟩ : ∃ W2, W2 = ((w6.setCell ⟨w.heap.size + 2, 0, none⟩ (.int .i64 1)).setCell ⟨w.heap.size + 2, 1, none⟩ (.int .i64 q)).setCell ⟨w.heap.size + 2, 2, none⟩ (.string ⟨#[]⟩) := ⟨_, rfl⟩
          rw [← hW2] at HF G0 G1 G2 ⊢
          have g0 := G0.out
          have g1 := G1.out
          have g2 := G2.out
          clear hW2 z0 z1 z2 z3 z4 z5
          exact bodyPost_ret (v := .tuple #[.agg #[.int .i64 1, .int .i64 q, .string ⟨#[]⟩], .int .i64 0]) (by simp [results, Try.results52, go_sem, g0, g1, g2]) rfl ⟨ret_v (by rw [HR.out, HQ.out]; rfl), HF.out⟩
      · have g5 : (c == 5) = false := by simpa using h5
        clear HT5b HT5
        by_cases h78 : c = 7 ∨ c = 8
        · by_cases h1 : k = 1
          · subst h1
            have HR := Lib.hid (HT78.out rfl h78 rfl)
            have hna := hna rfl
            have hnb := hnb rfl
            clear HT78n HT78 HTn HTar h5 h6 g5 g6
            rcases h78 with rfl | rfl <;> rcases hna with rfl | rfl <;> rcases hnb with rfl | rfl
            · go_enter Try.func52, Try.ntmps52
              go_wp2_with fail
              rw [← HW.out]
              clear HW p0 p1 p2 y0 y1 y2 z0 z1 z2
              refine (truth_any false w3).mono ?_
              rintro e w5 ⟨rfl, hb5⟩
              have HK5 := Lib.hid (HK.out.kept hb5)
              clear hb5 HK
              rw [show (truth false).n = 0 from rfl]
              have hst := bx_store HK5.out.z (.int .i64 1) (.int .i64 0) (.string ⟨#[]⟩)
              obtain ⟨⟨g0, g1, g2⟩, _⟩ := hst
              have G0 := Lib.hid g0
              have G1 := Lib.hid g1
              have G2 := Lib.hid g2
              have HF := Lib.hid (stored3 HK5.out.b (show w.heap.size ≤ w.heap.size + 2 from by omega) (.int .i64 1) (.int .i64 0) (.string ⟨#[]⟩))
              obtain ⟨⟨z0, z1, z2⟩, z3, z4, z5⟩ := HK5.out.z
              clear g0 g1 g2
              go_wp2_with fail
              obtain ⟨W2, hW2⟩ : ∃ W2, W2 = ((w5.setCell ⟨w.heap.size + 2, 0, none⟩ (.int .i64 1)).setCell ⟨w.heap.size + 2, 1, none⟩ (.int .i64 0)).setCell ⟨w.heap.size + 2, 2, none⟩ (.string ⟨#[]⟩) := ⟨_, rfl⟩
              rw [← hW2] at HF G0 G1 G2 ⊢
              have g0 := G0.out
              have g1 := G1.out
              have g2 := G2.out
              clear hW2 z0 z1 z2 z3 z4 z5
              exact bodyPost_ret (v := .tuple #[.agg #[.int .i64 1, .int .i64 0, .string ⟨#[]⟩], .int .i64 0]) (by simp [results, Try.results52, go_sem, g0, g1, g2]) rfl ⟨ret_v (by rw [HR.out]; rfl), HF.out⟩
            · go_enter Try.func52, Try.ntmps52
              go_wp2_with fail
              rw [← HW.out]
              clear HW p0 p1 p2 y0 y1 y2 z0 z1 z2
              refine (truth_any false w3).mono ?_
              rintro e w5 ⟨rfl, hb5⟩
              have HK5 := Lib.hid (HK.out.kept hb5)
              clear hb5 HK
              rw [show (truth false).n = 0 from rfl]
              have hst := bx_store HK5.out.z (.int .i64 1) (.int .i64 0) (.string ⟨#[]⟩)
              obtain ⟨⟨g0, g1, g2⟩, _⟩ := hst
              have G0 := Lib.hid g0
              have G1 := Lib.hid g1
              have G2 := Lib.hid g2
              have HF := Lib.hid (stored3 HK5.out.b (show w.heap.size ≤ w.heap.size + 2 from by omega) (.int .i64 1) (.int .i64 0) (.string ⟨#[]⟩))
              obtain ⟨⟨z0, z1, z2⟩, z3, z4, z5⟩ := HK5.out.z
              clear g0 g1 g2
              go_wp2_with fail
              obtain ⟨W2, hW2⟩ : ∃ W2, W2 = ((w5.setCell ⟨w.heap.size + 2, 0, none⟩ (.int .i64 1)).setCell ⟨w.heap.size + 2, 1, none⟩ (.int .i64 0)).setCell ⟨w.heap.size + 2, 2, none⟩ (.string ⟨#[]⟩) := ⟨_, rfl⟩
              rw [← hW2] at HF G0 G1 G2 ⊢
              have g0 := G0.out
              have g1 := G1.out
              have g2 := G2.out
              clear hW2 z0 z1 z2 z3 z4 z5
              exact bodyPost_ret (v := .tuple #[.agg #[.int .i64 1, .int .i64 0, .string ⟨#[]⟩], .int .i64 0]) (by simp [results, Try.results52, go_sem, g0, g1, g2]) rfl ⟨ret_v (by rw [HR.out]; rfl), HF.out⟩
            · go_enter Try.func52, Try.ntmps52
              go_wp2_with fail
              rw [← HW.out]
              clear HW p0 p1 p2 y0 y1 y2 z0 z1 z2
              refine (truth_any false w3).mono ?_
              rintro e w5 ⟨rfl, hb5⟩
              have HK5 := Lib.hid (HK.out.kept hb5)
              clear hb5 HK
              rw [show (truth false).n = 0 from rfl]
              have hst := bx_store HK5.out.z (.int .i64 1) (.int .i64 0) (.string ⟨#[]⟩)
              obtain ⟨⟨g0, g1, g2⟩, _⟩ := hst
              have G0 := Lib.hid g0
              have G1 := Lib.hid g1
              have G2 := Lib.hid g2
              have HF := Lib.hid (stored3 HK5.out.b (show w.heap.size ≤ w.heap.size + 2 from by omega) (.int .i64 1) (.int .i64 0) (.string ⟨#[]⟩))
              obtain ⟨⟨z0, z1, z2⟩, z3, z4, z5⟩ := HK5.out.z
              clear g0 g1 g2
              go_wp2_with fail
              obtain ⟨W2, hW2⟩ : ∃ W2, W2 = ((w5.setCell ⟨w.heap.size + 2, 0, none⟩ (.int .i64 1)).setCell ⟨w.heap.size + 2, 1, none⟩ (.int .i64 0)).setCell ⟨w.heap.size + 2, 2, none⟩ (.string ⟨#[]⟩) := ⟨_, rfl⟩
              rw [← hW2] at HF G0 G1 G2 ⊢
              have g0 := G0.out
              have g1 := G1.out
              have g2 := G2.out
              clear hW2 z0 z1 z2 z3 z4 z5
              exact bodyPost_ret (v := .tuple #[.agg #[.int .i64 1, .int .i64 0, .string ⟨#[]⟩], .int .i64 0]) (by simp [results, Try.results52, go_sem, g0, g1, g2]) rfl ⟨ret_v (by rw [HR.out]; rfl), HF.out⟩
            · go_enter Try.func52, Try.ntmps52
              go_wp2_with fail
              rw [← HW.out]
              clear HW p0 p1 p2 y0 y1 y2 z0 z1 z2
              refine (truth_any true w3).mono ?_
              rintro e w5 ⟨rfl, hb5⟩
              have HK5 := Lib.hid (HK.out.kept hb5)
              clear hb5 HK
              rw [show (truth true).n = 1 from rfl]
              have hst := bx_store HK5.out.z (.int .i64 1) (.int .i64 1) (.string ⟨#[]⟩)
              obtain ⟨⟨g0, g1, g2⟩, _⟩ := hst
              have G0 := Lib.hid g0
              have G1 := Lib.hid g1
              have G2 := Lib.hid g2
              have HF := Lib.hid (stored3 HK5.out.b (show w.heap.size ≤ w.heap.size + 2 from by omega) (.int .i64 1) (.int .i64 1) (.string ⟨#[]⟩))
              obtain ⟨⟨z0, z1, z2⟩, z3, z4, z5⟩ := HK5.out.z
              clear g0 g1 g2
              go_wp2_with fail
              obtain ⟨W2, hW2⟩ : ∃ W2, W2 = ((w5.setCell ⟨w.heap.size + 2, 0, none⟩ (.int .i64 1)).setCell ⟨w.heap.size + 2, 1, none⟩ (.int .i64 1)).setCell ⟨w.heap.size + 2, 2, none⟩ (.string ⟨#[]⟩) := ⟨_, rfl⟩
              rw [← hW2] at HF G0 G1 G2 ⊢
              have g0 := G0.out
              have g1 := G1.out
              have g2 := G2.out
              clear hW2 z0 z1 z2 z3 z4 z5
              exact bodyPost_ret (v := .tuple #[.agg #[.int .i64 1, .int .i64 1, .string ⟨#[]⟩], .int .i64 0]) (by simp [results, Try.results52, go_sem, g0, g1, g2]) rfl ⟨ret_v (by rw [HR.out]; rfl), HF.out⟩
            · go_enter Try.func52, Try.ntmps52
              go_wp2_with fail
              rw [← HW.out]
              clear HW p0 p1 p2 y0 y1 y2 z0 z1 z2
              refine (truth_any false w3).mono ?_
              rintro e w5 ⟨rfl, hb5⟩
              have HK5 := Lib.hid (HK.out.kept hb5)
              clear hb5 HK
              rw [show (truth false).n = 0 from rfl]
              have hst := bx_store HK5.out.z (.int .i64 1) (.int .i64 0) (.string ⟨#[]⟩)
              obtain ⟨⟨g0, g1, g2⟩, _⟩ := hst
              have G0 := Lib.hid g0
              have G1 := Lib.hid g1
              have G2 := Lib.hid g2
              have HF := Lib.hid (stored3 HK5.out.b (show w.heap.size ≤ w.heap.size + 2 from by omega) (.int .i64 1) (.int .i64 0) (.string ⟨#[]⟩))
              obtain ⟨⟨z0, z1, z2⟩, z3, z4, z5⟩ := HK5.out.z
              clear g0 g1 g2
              go_wp2_with fail
              obtain ⟨W2, hW2⟩ : ∃ W2, W2 = ((w5.setCell ⟨w.heap.size + 2, 0, none⟩ (.int .i64 1)).setCell ⟨w.heap.size + 2, 1, none⟩ (.int .i64 0)).setCell ⟨w.heap.size + 2, 2, none⟩ (.string ⟨#[]⟩) := ⟨_, rfl⟩
              rw [← hW2] at HF G0 G1 G2 ⊢
              have g0 := G0.out
              have g1 := G1.out
              have g2 := G2.out
              clear hW2 z0 z1 z2 z3 z4 z5
              exact bodyPost_ret (v := .tuple #[.agg #[.int .i64 1, .int .i64 0, .string ⟨#[]⟩], .int .i64 0]) (by simp [results, Try.results52, go_sem, g0, g1, g2]) rfl ⟨ret_v (by rw [HR.out]; rfl), HF.out⟩
            · go_enter Try.func52, Try.ntmps52
              go_wp2_with fail
              rw [← HW.out]
              clear HW p0 p1 p2 y0 y1 y2 z0 z1 z2
              refine (truth_any true w3).mono ?_
              rintro e w5 ⟨rfl, hb5⟩
              have HK5 := Lib.hid (HK.out.kept hb5)
              clear hb5 HK
              rw [show (truth true).n = 1 from rfl]
              have hst := bx_store HK5.out.z (.int .i64 1) (.int .i64 1) (.string ⟨#[]⟩)
              obtain ⟨⟨g0, g1, g2⟩, _⟩ := hst
              have G0 := Lib.hid g0
              have G1 := Lib.hid g1
              have G2 := Lib.hid g2
              have HF := Lib.hid (stored3 HK5.out.b (show w.heap.size ≤ w.heap.size + 2 from by omega) (.int .i64 1) (.int .i64 1) (.string ⟨#[]⟩))
              obtain ⟨⟨z0, z1, z2⟩, z3, z4, z5⟩ := HK5.out.z
              clear g0 g1 g2
              go_wp2_with fail
              obtain ⟨W2, hW2⟩ : ∃ W2, W2 = ((w5.setCell ⟨w.heap.size + 2, 0, none⟩ (.int .i64 1)).setCell ⟨w.heap.size + 2, 1, none⟩ (.int .i64 1)).setCell ⟨w.heap.size + 2, 2, none⟩ (.string ⟨#[]⟩) := ⟨_, rfl⟩
              rw [← hW2] at HF G0 G1 G2 ⊢
              have g0 := G0.out
              have g1 := G1.out
              have g2 := G2.out
              clear hW2 z0 z1 z2 z3 z4 z5
              exact bodyPost_ret (v := .tuple #[.agg #[.int .i64 1, .int .i64 1, .string ⟨#[]⟩], .int .i64 0]) (by simp [results, Try.results52, go_sem, g0, g1, g2]) rfl ⟨ret_v (by rw [HR.out]; rfl), HF.out⟩
            · go_enter Try.func52, Try.ntmps52
              go_wp2_with fail
              rw [← HW.out]
              clear HW p0 p1 p2 y0 y1 y2 z0 z1 z2
              refine (truth_any true w3).mono ?_
              rintro e w5 ⟨rfl, hb5⟩
              have HK5 := Lib.hid (HK.out.kept hb5)
              clear hb5 HK
              rw [show (truth true).n = 1 from rfl]
              have hst := bx_store HK5.out.z (.int .i64 1) (.int .i64 1) (.string ⟨#[]⟩)
              obtain ⟨⟨g0, g1, g2⟩, _⟩ := hst
              have G0 := Lib.hid g0
              have G1 := Lib.hid g1
              have G2 := Lib.hid g2
              have HF := Lib.hid (stored3 HK5.out.b (show w.heap.size ≤ w.heap.size + 2 from by omega) (.int .i64 1) (.int .i64 1) (.string ⟨#[]⟩))
              obtain ⟨⟨z0, z1, z2⟩, z3, z4, z5⟩ := HK5.out.z
              clear g0 g1 g2
              go_wp2_with fail
              obtain ⟨W2, hW2⟩ : ∃ W2, W2 = ((w5.setCell ⟨w.heap.size + 2, 0, none⟩ (.int .i64 1)).setCell ⟨w.heap.size + 2, 1, none⟩ (.int .i64 1)).setCell ⟨w.heap.size + 2, 2, none⟩ (.string ⟨#[]⟩) := ⟨_, rfl⟩
              rw [← hW2] at HF G0 G1 G2 ⊢
              have g0 := G0.out
              have g1 := G1.out
              have g2 := G2.out
              clear hW2 z0 z1 z2 z3 z4 z5
              exact bodyPost_ret (v := .tuple #[.agg #[.int .i64 1, .int .i64 1, .string ⟨#[]⟩], .int .i64 0]) (by simp [results, Try.results52, go_sem, g0, g1, g2]) rfl ⟨ret_v (by rw [HR.out]; rfl), HF.out⟩
            · go_enter Try.func52, Try.ntmps52
              go_wp2_with fail
              rw [← HW.out]
              clear HW p0 p1 p2 y0 y1 y2 z0 z1 z2
              refine (truth_any true w3).mono ?_
              rintro e w5 ⟨rfl, hb5⟩
              have HK5 := Lib.hid (HK.out.kept hb5)
              clear hb5 HK
              rw [show (truth true).n = 1 from rfl]
              have hst := bx_store HK5.out.z (.int .i64 1) (.int .i64 1) (.string ⟨#[]⟩)
              obtain ⟨⟨g0, g1, g2⟩, _⟩ := hst
              have G0 := Lib.hid g0
              have G1 := Lib.hid g1
              have G2 := Lib.hid g2
              have HF := Lib.hid (stored3 HK5.out.b (show w.heap.size ≤ w.heap.size + 2 from by omega) (.int .i64 1) (.int .i64 1) (.string ⟨#[]⟩))
              obtain ⟨⟨z0, z1, z2⟩, z3, z4, z5⟩ := HK5.out.z
              clear g0 g1 g2
              go_wp2_with fail
              obtain ⟨W2, hW2⟩ : ∃ W2, W2 = ((w5.setCell ⟨w.heap.size + 2, 0, none⟩ (.int .i64 1)).setCell ⟨w.heap.size + 2, 1, none⟩ (.int .i64 1)).setCell ⟨w.heap.size + 2, 2, none⟩ (.string ⟨#[]⟩) := ⟨_, rfl⟩
              rw [← hW2] at HF G0 G1 G2 ⊢
              have g0 := G0.out
              have g1 := G1.out
              have g2 := G2.out
              clear hW2 z0 z1 z2 z3 z4 z5
              exact bodyPost_ret (v := .tuple #[.agg #[.int .i64 1, .int .i64 1, .string ⟨#[]⟩], .int .i64 0]) (by simp [results, Try.results52, go_sem, g0, g1, g2]) rfl ⟨ret_v (by rw [HR.out]; rfl), HF.out⟩
          · have g1 : (k != 1) = true := by simpa using h1
            have HR := Lib.hid (HT78n.out rfl h78 h1)
            clear HT78n HT78 HTn HTar hna hnb h1 h5 h6 g5 g6
            rcases h78 with rfl | rfl
            all_goals
              skip
              go_enter Try.func52, Try.ntmps52
              go_wp2_with fail
              have hbb := HK.out.b
              rw [HW.out] at hbb
              exact bodyPost_ret (v := .tuple #[.agg #[.int .i64 0, .int .i64 0, .string ⟨#[]⟩], .int .i64 5]) (by simp [results, Try.results52, go_sem, z0, z1, z2]) rfl ⟨ret_v (by rw [HR.out]; rfl), hbb⟩
        · have h7 : c ≠ 7 := fun h => h78 (Or.inl h)
          have h8 : c ≠ 8 := fun h => h78 (Or.inr h)
          have g7 : (c == 7) = false := by simpa using h7
          have g8 : (c == 8) = false := by simpa using h8
          clear HT78n HT78 hna hnb h78
          by_cases h1 : k = 0
          · subst h1
            have HR := Lib.hid (HTar.out rfl h5 h6 h7 h8 rfl)
            clear HTar HTn
            by_cases h2 : c = 2
            · subst h2
              have har : arith 2 n m = n + m := rfl
              rw [har] at HR
              clear har
              go_enter Try.func52, Try.ntmps52
              go_wp2_with fail
              rw [← HW.out]
              clear HW p0 p1 p2 y0 y1 y2 z0 z1 z2
              refine (HP.out w3).mono ?_
              rintro e w5 ⟨r, rfl, hr, rfl⟩
              have HK5 := HK
              have HRr := Lib.hid hr
              clear hr
              by_cases hf : fits (n + m) = true
              · rw [hf]
                have HR2 := Lib.hid (HRr.out hf)
                rw [if_pos hf] at HR
                clear hf HRr
                have hst := bx_store HK5.out.z (.int .i64 0) (.int .i64 r) (.string ⟨#[]⟩)
                obtain ⟨⟨g0, g1, g2⟩, _⟩ := hst
                have G0 := Lib.hid g0
                have G1 := Lib.hid g1
                have G2 := Lib.hid g2
                have HF := Lib.hid (stored3 HK5.out.b (show w.heap.size ≤ w.heap.size + 2 from by omega) (.int .i64 0) (.int .i64 r) (.string ⟨#[]⟩))
                obtain ⟨⟨z0, z1, z2⟩, z3, z4, z5⟩ := HK5.out.z
                clear g0 g1 g2
                go_wp2_with fail
                obtain ⟨W2, hW2⟩ : ∃ W2, W2 = ((w3.setCell ⟨w.heap.size + 2, 0, none⟩ (.int .i64 0)).setCell ⟨w.heap.size + 2, 1, none⟩ (.int .i64 r)).setCell ⟨w.heap.size + 2, 2, none⟩ (.string ⟨#[]⟩) := ⟨_, rfl⟩
                rw [← hW2] at HF G0 G1 G2 ⊢
                have g0 := G0.out
                have g1 := G1.out
                have g2 := G2.out
                clear hW2 z0 z1 z2 z3 z4 z5
                exact bodyPost_ret (v := .tuple #[.agg #[.int .i64 0, .int .i64 r, .string ⟨#[]⟩], .int .i64 0]) (by simp [results, Try.results52, go_sem, g0, g1, g2]) rfl ⟨ret_v (by rw [HR.out, HR2.out]; rfl), HF.out⟩
              · rw [Bool.not_eq_true] at hf
                rw [hf]
                rw [if_neg (by rw [hf]; decide)] at HR
                clear hf HRr
                have hst := bx_store HK5.out.z (.int .i64 0) (.int .i64 0) (.string ⟨#[]⟩)
                obtain ⟨⟨g0, g1, g2⟩, _⟩ := hst
                have G0 := Lib.hid g0
                have G1 := Lib.hid g1
                have G2 := Lib.hid g2
                have HF := Lib.hid (stored3 HK5.out.b (show w.heap.size ≤ w.heap.size + 2 from by omega) (.int .i64 0) (.int .i64 0) (.string ⟨#[]⟩))
                obtain ⟨⟨z0, z1, z2⟩, z3, z4, z5⟩ := HK5.out.z
                clear g0 g1 g2
                go_wp2_with fail
                obtain ⟨W2, hW2⟩ : ∃ W2, W2 = ((w3.setCell ⟨w.heap.size + 2, 0, none⟩ (.int .i64 0)).setCell ⟨w.heap.size + 2, 1, none⟩ (.int .i64 0)).setCell ⟨w.heap.size + 2, 2, none⟩ (.string ⟨#[]⟩) := ⟨_, rfl⟩
                rw [← hW2] at HF G0 G1 G2 ⊢
                have g0 := G0.out
                have g1 := G1.out
                have g2 := G2.out
                clear hW2 z0 z1 z2 z3 z4 z5
                exact bodyPost_ret (v := .tuple #[.agg #[.int .i64 0, .int .i64 0, .string ⟨#[]⟩], .int .i64 6]) (by simp [results, Try.results52, go_sem, g0, g1, g2]) rfl ⟨ret_v (by rw [HR.out]; rfl), HF.out⟩
            · have g2 : (c == 2) = false := by simpa using h2
              by_cases h3 : c = 3
              · subst h3
                have har : arith 3 n m = n - m := rfl
                rw [har] at HR
                clear har
                go_enter Try.func52, Try.ntmps52
                go_wp2_with fail
                rw [← HW.out]
                clear HW p0 p1 p2 y0 y1 y2 z0 z1 z2
                refine (HM.out w3).mono ?_
                rintro e w5 ⟨r, rfl, hr, rfl⟩
                have HK5 := HK
                have HRr := Lib.hid hr
                clear hr
                by_cases hf : fits (n - m) = true
                · rw [hf]
                  have HR2 := Lib.hid (HRr.out hf)
                  rw [if_pos hf] at HR
                  clear hf HRr
                  have hst := bx_store HK5.out.z (.int .i64 0) (.int .i64 r) (.string ⟨#[]⟩)
                  obtain ⟨⟨g0, g1, g2⟩, _⟩ := hst
                  have G0 := Lib.hid g0
                  have G1 := Lib.hid g1
                  have G2 := Lib.hid g2
                  have HF := Lib.hid (stored3 HK5.out.b (show w.heap.size ≤ w.heap.size + 2 from by omega) (.int .i64 0) (.int .i64 r) (.string ⟨#[]⟩))
                  obtain ⟨⟨z0, z1, z2⟩, z3, z4, z5⟩ := HK5.out.z
                  clear g0 g1 g2
                  go_wp2_with fail
                  obtain ⟨W2, hW2⟩ : ∃ W2, W2 = ((w3.setCell ⟨w.heap.size + 2, 0, none⟩ (.int .i64 0)).setCell ⟨w.heap.size + 2, 1, none⟩ (.int .i64 r)).setCell ⟨w.heap.size + 2, 2, none⟩ (.string ⟨#[]⟩) := ⟨_, rfl⟩
                  rw [← hW2] at HF G0 G1 G2 ⊢
                  have g0 := G0.out
                  have g1 := G1.out
                  have g2 := G2.out
                  clear hW2 z0 z1 z2 z3 z4 z5
                  exact bodyPost_ret (v := .tuple #[.agg #[.int .i64 0, .int .i64 r, .string ⟨#[]⟩], .int .i64 0]) (by simp [results, Try.results52, go_sem, g0, g1, g2]) rfl ⟨ret_v (by rw [HR.out, HR2.out]; rfl), HF.out⟩
                · rw [Bool.not_eq_true] at hf
                  rw [hf]
                  rw [if_neg (by rw [hf]; decide)] at HR
                  clear hf HRr
                  have hst := bx_store HK5.out.z (.int .i64 0) (.int .i64 0) (.string ⟨#[]⟩)
                  obtain ⟨⟨g0, g1, g2⟩, _⟩ := hst
                  have G0 := Lib.hid g0
                  have G1 := Lib.hid g1
                  have G2 := Lib.hid g2
                  have HF := Lib.hid (stored3 HK5.out.b (show w.heap.size ≤ w.heap.size + 2 from by omega) (.int .i64 0) (.int .i64 0) (.string ⟨#[]⟩))
                  obtain ⟨⟨z0, z1, z2⟩, z3, z4, z5⟩ := HK5.out.z
                  clear g0 g1 g2
                  go_wp2_with fail
                  obtain ⟨W2, hW2⟩ : ∃ W2, W2 = ((w3.setCell ⟨w.heap.size + 2, 0, none⟩ (.int .i64 0)).setCell ⟨w.heap.size + 2, 1, none⟩ (.int .i64 0)).setCell ⟨w.heap.size + 2, 2, none⟩ (.string ⟨#[]⟩) := ⟨_, rfl⟩
                  rw [← hW2] at HF G0 G1 G2 ⊢
                  have g0 := G0.out
                  have g1 := G1.out
                  have g2 := G2.out
                  clear hW2 z0 z1 z2 z3 z4 z5
                  exact bodyPost_ret (v := .tuple #[.agg #[.int .i64 0, .int .i64 0, .string ⟨#[]⟩], .int .i64 6]) (by simp [results, Try.results52, go_sem, g0, g1, g2]) rfl ⟨ret_v (by rw [HR.out]; rfl), HF.out⟩
              · have g3 : (c == 3) = false := by simpa using h3
                have har : arith c n m = n * m := by rw [arith, if_neg h2, if_neg h3]
                rw [har] at HR
                clear har
                go_enter Try.func52, Try.ntmps52
                go_wp2_with fail
                rw [← HW.out]
                clear HW p0 p1 p2 y0 y1 y2 z0 z1 z2
                refine (HXx.out w3).mono ?_
                rintro e w5 ⟨r, rfl, hr, hb5⟩
                have HK5 := Lib.hid (HK.out.kept hb5)
                clear hb5 HK
                have HRr := Lib.hid hr
                clear hr
                by_cases hf : fits (n * m) = true
                · rw [hf]
                  have HR2 := Lib.hid (HRr.out hf)
                  rw [if_pos hf] at HR
                  clear hf HRr
                  have hst := bx_store HK5.out.z (.int .i64 0) (.int .i64 r) (.string ⟨#[]⟩)
                  obtain ⟨⟨g0, g1, g2⟩, _⟩ := hst
                  have G0 := Lib.hid g0
                  have G1 := Lib.hid g1
                  have G2 := Lib.hid g2
                  have HF := Lib.hid (stored3 HK5.out.b (show w.heap.size ≤ w.heap.size + 2 from by omega) (.int .i64 0) (.int .i64 r) (.string ⟨#[]⟩))
                  obtain ⟨⟨z0, z1, z2⟩, z3, z4, z5⟩ := HK5.out.z
                  clear g0 g1 g2
                  go_wp2_with fail
                  obtain ⟨W2, hW2⟩ : ∃ W2, W2 = ((w5.setCell ⟨w.heap.size + 2, 0, none⟩ (.int .i64 0)).setCell ⟨w.heap.size + 2, 1, none⟩ (.int .i64 r)).setCell ⟨w.heap.size + 2, 2, none⟩ (.string ⟨#[]⟩) := ⟨_, rfl⟩
                  rw [← hW2] at HF G0 G1 G2 ⊢
                  have g0 := G0.out
                  have g1 := G1.out
                  have g2 := G2.out
                  clear hW2 z0 z1 z2 z3 z4 z5
                  exact bodyPost_ret (v := .tuple #[.agg #[.int .i64 0, .int .i64 r, .string ⟨#[]⟩], .int .i64 0]) (by simp [results, Try.results52, go_sem, g0, g1, g2]) rfl ⟨ret_v (by rw [HR.out, HR2.out]; rfl), HF.out⟩
                · rw [Bool.not_eq_true] at hf
                  rw [hf]
                  rw [if_neg (by rw [hf]; decide)] at HR
                  clear hf HRr
                  have hst := bx_store HK5.out.z (.int .i64 0) (.int .i64 0) (.string ⟨#[]⟩)
                  obtain ⟨⟨g0, g1, g2⟩, _⟩ := hst
                  have G0 := Lib.hid g0
                  have G1 := Lib.hid g1
                  have G2 := Lib.hid g2
                  have HF := Lib.hid (stored3 HK5.out.b (show w.heap.size ≤ w.heap.size + 2 from by omega) (.int .i64 0) (.int .i64 0) (.string ⟨#[]⟩))
                  obtain ⟨⟨z0, z1, z2⟩, z3, z4, z5⟩ := HK5.out.z
                  clear g0 g1 g2
                  go_wp2_with fail
                  obtain ⟨W2, hW2⟩ : ∃ W2, W2 = ((w5.setCell ⟨w.heap.size + 2, 0, none⟩ (.int .i64 0)).setCell ⟨w.heap.size + 2, 1, none⟩ (.int .i64 0)).setCell ⟨w.heap.size + 2, 2, none⟩ (.string ⟨#[]⟩) := ⟨_, rfl⟩
                  rw [← hW2] at HF G0 G1 G2 ⊢
                  have g0 := G0.out
                  have g1 := G1.out
                  have g2 := G2.out
                  clear hW2 z0 z1 z2 z3 z4 z5
                  exact bodyPost_ret (v := .tuple #[.agg #[.int .i64 0, .int .i64 0, .string ⟨#[]⟩], .int .i64 6]) (by simp [results, Try.results52, go_sem, g0, g1, g2]) rfl ⟨ret_v (by rw [HR.out]; rfl), HF.out⟩
          · have g1 : (k != 0) = true := by simpa using h1
            have HR := Lib.hid (HTn.out rfl h5 h6 h7 h8 h1)
            clear HTn HTar h1
            go_enter Try.func52, Try.ntmps52
            go_wp2_with fail
            have hbb := HK.out.b
            rw [HW.out] at hbb
            exact bodyPost_ret (v := .tuple #[.agg #[.int .i64 0, .int .i64 0, .string ⟨#[]⟩], .int .i64 5]) (by simp [results, Try.results52, go_sem, z0, z1, z2]) rfl ⟨ret_v (by rw [HR.out]; rfl), hbb⟩
  · have hkk : (k != j) = true := by simpa using hk
    have HR := Lib.hid (HT.out hk)
    clear HT HT6 HT5b HT5 HT78n HT78 HTn HTar hna hnb hk
    go_enter Try.func52, Try.ntmps52
    go_wp2_with fail
    have hbb := HK.out.b
    rw [HW.out] at hbb
    exact bodyPost_ret (v := .tuple #[.agg #[.int .i64 0, .int .i64 0, .string ⟨#[]⟩], .int .i64 5]) (by simp [results, Try.results52, go_sem, z0, z1, z2]) rfl ⟨ret_v (by rw [HR.out]; rfl), hbb⟩
end Go.Proofs.Ytochpomddfjkoaa.Ex
