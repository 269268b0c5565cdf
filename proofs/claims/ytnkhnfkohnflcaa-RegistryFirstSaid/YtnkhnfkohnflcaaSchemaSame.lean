/- begins, Same and Fits: whether fields begin by others, two schemas are the same, one goes on with another; asked: the fields lie where the slices say. -/
import Derived.Test.YtnkhnfkohnflcaaSchemaMay
import Derived.Test.YtnkhnfkohnflcaaSchemaBeg
import Derived.BigQuiet
import Derived.Deep.QuietTactic
namespace Go.Proofs.Ytnkhnfkohnflcaa.Sc
open Go.RowKit Go.Proofs.Ytnkhnfkohnflcaa.BM Go.Proofs.Ytnkhnfkohnflcaa.VaM Go.Proofs.Ytnkhnfkohnflcaa.Va Go.Proofs.Ytnkhnfkohnflcaa.ScM

set_option maxRecDepth 100000 in
set_option maxHeartbeats 1000000 in
theorem Same_any (a b : Sc) (A : Option Addr) (c : Nat) (B : Option Addr) (d : Nat) (w : World) (h : SlF w A a.f c) (k : SlF w B b.f d) :
    Calls Try.prog 20 #[.agg #[.string a.s, .int .i64 a.v, .slice A a.f.length c], .agg #[.string b.s, .int .i64 b.v, .slice B b.f.length d]] w fun e w' => e = .returned (.bool (decide (a = b))) ∧ Below w.heap.size w w' := by
  have hbs := fun h1 h2 h3 => beg_same (a := a) (b := b) h1 h2 h3
  have hs1 : a.s ≠ b.s → a ≠ b := fun h e => h (by rw [e])
  have hs2 : a.v ≠ b.v → a ≠ b := fun h e => h (by rw [e])
  have hs3 : a.f.length ≠ b.f.length → a ≠ b := fun h e => h (by rw [e])
  have hbg := fun W (hW : Below w.heap.size w W) => begins_any A a.f c B b.f d W (h.kept hW) (k.kept hW)
  obtain ⟨E, hE⟩ : ∃ E, E = decide (a = b) := ⟨_, rfl⟩
  rw [← hE]
  have hl := slF_len h
  have hm := slF_len k
  have HBs := Lib.hid hbs
  have H1 := Lib.hid hs1
  have H2 := Lib.hid hs2
  have H3 := Lib.hid hs3
  have HE := Lib.hid hE
  clear hs1 hs2 hs3 hE h k hbs
  obtain ⟨s1, v1, l1⟩ := a
  obtain ⟨s2, v2, l2⟩ := b
  simp only at HBs H1 H2 H3 hl hm hbg ⊢
  obtain ⟨n, hn⟩ : ∃ n, n = l1.length := ⟨_, rfl⟩
  obtain ⟨r, hr⟩ : ∃ r, r = l2.length := ⟨_, rfl⟩
  rw [← hn, ← hr] at HBs H3 ⊢
  simp only [← hn, ← hr] at hbg
  rw [← hn] at hl
  rw [← hr] at hm
  have HBg := Lib.hid hbg
  clear hbg hn hr
  have hb1 := (Below.refl w.heap.size w).alloc (Nat.le_refl _) (.cells #[.string s1, .int .i64 v1, .slice A n c] 25)
  have hk := (Below.refl (w.alloc (.cells #[.string s1, .int .i64 v1, .slice A n c] 25)).heap.size (w.alloc (.cells #[.string s1, .int .i64 v1, .slice A n c] 25))).alloc (Nat.le_refl _) (.cells #[.string s2, .int .i64 v2, .slice B r d] 25)
  have hx2 := bx_new_t (w.alloc (.cells #[.string s1, .int .i64 v1, .slice A n c] 25)) 25 (.string s2) (.int .i64 v2) (.slice B r d)
  rw [show (w.alloc (.cells #[.string s1, .int .i64 v1, .slice A n c] 25)).heap.size = w.heap.size + 1 from by simp] at hx2
  obtain ⟨⟨p0, p1, p2⟩, _⟩ := (bx_new_t w 25 (.string s1) (.int .i64 v1) (.slice A n c)).kept hk
  obtain ⟨⟨q0, q1, q2⟩, _⟩ := hx2
  have HB := Lib.hid (bt hb1 hk)
  clear hb1 hk
  by_cases g1 : s1 = s2
  · subst g1
    have ee : (s1.toList == s1.toList) = true := by simp
    by_cases g2 : v1 = v2
    · subst g2
      by_cases g3 : n = r
      · subst g3
        have HEq := Lib.hid (show decide (Beg l1 l2) = E from by rw [HE.out, decide_eq_decide]; exact HBs.out rfl rfl rfl)
        go_enter Try.func20, Try.ntmps20
        go_wp2_with fail
        refine (HBg.out _ HB.out).mono ?_
        rintro e w1 ⟨rfl, hb⟩
        rw [HEq.out]
        have HB1 := Lib.hid (bt HB.out hb)
        clear hb p0 p1 p2 q0 q1 q2
        go_wp2_with fail
        go_ret
        exact ⟨rfl, HB1.out⟩
      · have g3' : ((n : Int) == r) = false := by rw [beq_eq_false_iff_ne]; omega
        have HEq := Lib.hid (show false = E from by rw [HE.out, decide_eq_false (H3.out g3)])
        go_enter Try.func20, Try.ntmps20
        go_wp2_with fail
        go_ret
        exact ⟨ret_v (x := .bool false) (by rw [HEq.out]), HB.out⟩
    · have g2' : (v1 == v2) = false := by rw [beq_eq_false_iff_ne]; exact g2
      have HEq := Lib.hid (show false = E from by rw [HE.out, decide_eq_false (H2.out g2)])
      clear g2
      go_enter Try.func20, Try.ntmps20
      go_wp2_with fail
      go_ret
      exact ⟨ret_v (x := .bool false) (by rw [HEq.out]), HB.out⟩
  · have g1' := str_ne g1
    have HEq := Lib.hid (show false = E from by rw [HE.out, decide_eq_false (H1.out g1)])
    clear g1
    go_enter Try.func20, Try.ntmps20
    go_wp2_with fail
    go_ret
    exact ⟨ret_v (x := .bool false) (by rw [HEq.out]), HB.out⟩
end Go.Proofs.Ytnkhnfkohnflcaa.Sc
