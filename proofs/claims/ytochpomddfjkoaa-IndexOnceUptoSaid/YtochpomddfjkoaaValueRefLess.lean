/- Less of the document's answers: what it answers of any two values; nothing is asked. -/
import Derived.Test.YtochpomddfjkoaaValueOrd
import Derived.Test.YtochpomddfjkoaaValueRefMay
import Derived.BigQuiet
import Derived.Deep.QuietTactic
namespace Go.Proofs.Ytochpomddfjkoaa.Va
open Go.RowKit Go.Proofs.Ytochpomddfjkoaa.BM Go.Proofs.Ytochpomddfjkoaa.LM Go.Proofs.Ytochpomddfjkoaa.VaM

def LessV (a b : V) (w : World) : Ending → World → Prop := fun e w' => e = .returned (.tuple #[.bool (can a b && lt a b), .bool (can a b)]) ∧ Below w.heap.size w w'

theorem less_v {a b : V} {c l : Bool} (hc : can a b = c) (hl : lt a b = l) : Value.tuple #[.bool (can a b && lt a b), .bool (can a b)] = .tuple #[.bool (c && l), .bool c] := by rw [hc, hl]

set_option maxRecDepth 100000 in
set_option maxHeartbeats 2000000 in
theorem refLess_any (a b : V) (w : World) :
    Calls Try.prog 61 #[.agg #[.int .i64 a.k, .int .i64 a.n, .string a.s], .agg #[.int .i64 b.k, .int .i64 b.n, .string b.s]] w (LessV a b w) := by
  obtain ⟨k, n, s⟩ := a
  obtain ⟨j, m, t⟩ := b
  have hb1 := (Below.refl w.heap.size w).alloc (Nat.le_refl _) (.cells #[.int .i64 k, .int .i64 n, .string s] 52)
  have hk := (Below.refl (w.alloc (.cells #[.int .i64 k, .int .i64 n, .string s] 52)).heap.size (w.alloc (.cells #[.int .i64 k, .int .i64 n, .string s] 52))).alloc (Nat.le_refl _) (.cells #[.int .i64 j, .int .i64 m, .string t] 52)
  have hx2 := bx_new (w.alloc (.cells #[.int .i64 k, .int .i64 n, .string s] 52)) (.int .i64 j) (.int .i64 m) (.string t)
  rw [show (w.alloc (.cells #[.int .i64 k, .int .i64 n, .string s] 52)).heap.size = w.heap.size + 1 from by simp] at hx2
  have hx1 := (bx_new w (.int .i64 k) (.int .i64 n) (.string s)).kept hk
  have HX1 := Lib.hid hx1
  have HX2 := Lib.hid hx2
  have HB := Lib.hid (bt hb1 hk)
  have HM1 := Lib.hid (refMay_any k n s)
  have HM2 := Lib.hid (refMay_any j m t)
  obtain ⟨⟨p0, p1, p2⟩, _⟩ := hx1
  clear hb1 hk hx2
  simp only
  go_enter Try.func61, Try.ntmps61
  go_wp2_with fail
  refine (HM1.out _).mono ?_
  rintro e w1 ⟨rfl, hb1⟩
  have HB1 := Lib.hid (bt HB.out hb1)
  have HX11 := Lib.hid (HX1.out.kept hb1)
  obtain ⟨⟨q0, q1, q2⟩, _⟩ := HX2.out.kept hb1
  have HX21 := Lib.hid (HX2.out.kept hb1)
  clear HB HX1 HX2 hb1 HM1 p0 p1 p2
  go_wp2_with fail
  refine (HM2.out _).mono ?_
  rintro e w2 ⟨rfl, hb2⟩
  have HB2 := Lib.hid (bt HB1.out hb2)
  have HX1 := Lib.hid (HX11.out.kept hb2)
  have HX2 := Lib.hid (HX21.out.kept hb2)
  clear HB1 HX11 HX21 hb2 HM2 q0 q1 q2
  obtain ⟨⟨p0, p1, p2⟩, _⟩ := HX1.out
  obtain ⟨⟨q0, q1, q2⟩, _⟩ := HX2.out
  by_cases hmn : May ⟨k, n, s⟩ ∧ May ⟨j, m, t⟩ ∧ k = j
  · obtain ⟨h1, h2, h3⟩ := hmn
    subst h3
    have HC := Lib.hid (show can ⟨k, n, s⟩ ⟨k, m, t⟩ = true from decide_eq_true ⟨h1, h2, rfl⟩)
    rw [decide_eq_true h1, decide_eq_true h2]
    have hz1 := may_size h1
    have hz2 := may_size h2
    simp only at hz1 hz2
    clear h1 h2
    by_cases k2 : k = 2
    · subst k2
      have HL := Lib.hid ((lt_s (a := ⟨2, n, s⟩) (b := ⟨2, m, t⟩) rfl).trans (bls_bl s t))
      obtain ⟨x, hx⟩ : ∃ x, x = bl s := ⟨_, rfl⟩
      obtain ⟨y, hy⟩ : ∃ y, y = bl t := ⟨_, rfl⟩
      have ixs := fun (i : Nat) h W => index_s s i h W
      have ixt := fun (i : Nat) h W => index_s t i h W
      rw [← hx, ← hy] at HL
      simp only [← hx] at ixs
      simp only [← hy] at ixt
      have lx := bl_len s
      have ly := bl_len t
      rw [← hx] at lx
      rw [← hy] at ly
      have hbx := bl_bytes s
      have hby := bl_bytes t
      rw [← hx] at hbx
      rw [← hy] at hby
      have HIs := Lib.hid ixs
      have HIt := Lib.hid ixt
      have HLx := Lib.hid lx
      have HLy := Lib.hid ly
      have Hbx := Lib.hid hbx
      have Hby := Lib.hid hby
      clear hx hy ixs ixt lx ly hbx hby
      go_wp2_with fail
      clear p0 p1 p2 q0 q1 q2
      go_loopw [8] (fun i wr => ∃ c : Nat, i = .int .i64 c ∧ c ≤ s.size ∧ c ≤ t.size ∧ x.take c = y.take c ∧ Below w2.heap.size w2 wr) (fun i _ => t.size - (intOf i).toNat)
      case atStart => exact ⟨0, rfl, Nat.zero_le _, Nat.zero_le _, rfl, Below.refl _ _⟩
      case round =>
        obtain ⟨c, rfl, hcs, hct, htk, hbel⟩ := hrel
        have HT := Lib.hid htk
        have HBl := Lib.hid hbel
        obtain ⟨⟨p0, p1, p2⟩, _⟩ := HX1.out.kept hbel
        obtain ⟨⟨q0, q1, q2⟩, _⟩ := HX2.out.kept hbel
        clear htk hbel
        by_cases h1 : c < t.size
        · by_cases h2 : c < s.size
          · have g1 := HIs.out c h2
            have g2 := HIt.out c h1
            by_cases he : x.getD c 0 = y.getD c 0
            · obtain ⟨v, hv⟩ : ∃ v, v = y.getD c 0 := ⟨_, rfl⟩
              have HTn := Lib.hid (show x.take (c + 1) = y.take (c + 1) from by rw [take_snocB x c (by rw [HLx.out]; exact h2), take_snocB y c (by rw [HLy.out]; exact h1), HT.out, he])
              rw [he, ← hv] at g1
              rw [← hv] at g2
              clear he hv
              go_wp2_with fail
              go_quiet (fail)
              go_wp2_with fail
              go_roundw
              case rel => exact ⟨c + 1, by go_num, by omega, by omega, HTn.out, below_drewN HBl.out _⟩
              case measure => simp [intOf]; omega
            · obtain ⟨u, hu⟩ : ∃ u, u = x.getD c 0 := ⟨_, rfl⟩
              obtain ⟨v, hv⟩ : ∃ v, v = y.getD c 0 := ⟨_, rfl⟩
              have HE := Lib.hid (bls_here HT.out (by rw [HLx.out]; exact h2) (by rw [HLy.out]; exact h1) he)
              rw [← hu, ← hv] at HE
              rw [← hu] at g1
              rw [← hv] at g2
              rw [← hu, ← hv] at he
              have he' : (u == v) = false := by rw [beq_eq_false_iff_ne]; exact he
              clear hu hv he
              go_wp2_with fail
              go_quiet (fail)
              go_wp2_with fail
              go_quiet (fail)
              go_wp2_with fail
              go_ret2
              exact ⟨ret_v (less_v HC.out (HL.out.trans HE.out)), bt HB2.out (below_drewN (below_drewN HBl.out _) _)⟩
          · have HE := Lib.hid (bls_short (y := y) HT.out (show c = x.length by rw [HLx.out]; omega) (by rw [HLy.out]; exact h1))
            go_wp2_with fail
            go_ret2
            exact ⟨ret_v (less_v HC.out (HL.out.trans HE.out)), bt HB2.out HBl.out⟩
        · have HE := Lib.hid (bls_end (x := x) HT.out (show c = y.length by rw [HLy.out]; omega))
          go_wp2_with fail
          go_ret2
          exact ⟨ret_v (less_v HC.out (HL.out.trans HE.out)), bt HB2.out HBl.out⟩
    · have HL := Lib.hid (lt_n (a := ⟨k, n, s⟩) (b := ⟨k, m, t⟩) k2)
      go_wp2_with fail
      go_ret2
      exact ⟨ret_v (less_v HC.out HL.out), HB2.out⟩
  · have HC := Lib.hid (show can ⟨k, n, s⟩ ⟨j, m, t⟩ = false from decide_eq_false hmn)
    by_cases h1 : May ⟨k, n, s⟩
    · rw [decide_eq_true h1]
      by_cases h2 : May ⟨j, m, t⟩
      · rw [decide_eq_true h2]
        have h3 : ¬ k = j := fun h => hmn ⟨h1, h2, h⟩
        clear hmn h1 h2
        go_wp2_with fail
        go_ret2
        exact ⟨ret_v (less_v HC.out rfl), HB2.out⟩
      · rw [decide_eq_false h2]
        clear hmn h1 h2
        go_wp2_with fail
        go_ret2
        exact ⟨ret_v (less_v HC.out rfl), HB2.out⟩
    · rw [decide_eq_false h1]
      clear hmn h1
      go_wp2_with fail
      go_ret2
      exact ⟨ret_v (less_v HC.out rfl), HB2.out⟩
end Go.Proofs.Ytochpomddfjkoaa.Va
