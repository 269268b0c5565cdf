/- The walk of SchemaFits: what fits has one version more, and all fields, in order; the schemas' parts lie where they say. -/
import Derived.Test.YtjbpacciaeifaaaSchemaAwake
import Derived.Test.YtjbpacciaeifaaaSchemaFits
import Derived.Test.YtjbpacciaeifaaaOpenSchema
namespace Go.Proofs.Ytjbpacciaeifaaa.Sc
open Go.RowKit Go.Proofs.Ytjbpacciaeifaaa.BM Go.Proofs.Ytjbpacciaeifaaa.LM Go.Proofs.Ytjbpacciaeifaaa.VaM Go.Proofs.Ytjbpacciaeifaaa.Va Go.Proofs.Ytjbpacciaeifaaa.ScM

theorem fit_self (a : Sc) : ¬ Fit a a := fun h => by have := h.2.2.2.1; omega
theorem fit_back {a b : Sc} (h : Fit a b) : ¬ Fit b a := fun k => by have := h.2.2.2.1; have := k.2.2.2.1; omega
theorem fit_on {a b c : Sc} (h : Fit a b) (k : Fit b c) : Fit a ⟨c.s, b.v, c.f⟩ := by
  obtain ⟨h1, h2, h3, h4, h5, h6⟩ := h
  obtain ⟨k1, k2, k3, k4, k5, k6⟩ := k
  refine ⟨h1, ⟨k2.1, k1.2.1, k1.2.2.1, k2.2.2.2.1, k2.2.2.2.2⟩, h3.trans k3, h4, by simp only; omega, ?_⟩
  simp only
  have e : c.f.take a.f.length = (c.f.take b.f.length).take a.f.length := by rw [List.take_take, Nat.min_eq_left h5]
  rw [e, k6, h6]

/-- Three schemas that came in, as the walk meets them. -/
structure Three (w : World) (s1 s2 s3 : ByteArray) (v1 v2 v3 : Int) (a1 a2 a3 : Option Addr) (n1 n2 n3 c1 c2 c3 : Nat) (l1 l2 l3 : List F) : Prop where
  e1 : l1.length = n1
  e2 : l2.length = n2
  e3 : l3.length = n3
  h1 : SlF w a1 l1 c1
  h2 : SlF w a2 l2 c2
  h3 : SlF w a3 l3 c3
  f1 : Fine ⟨s1, v1, l1⟩
  f2 : Fine ⟨s2, v2, l2⟩
  f3 : Fine ⟨s3, v3, l3⟩

set_option maxRecDepth 100000 in
set_option maxHeartbeats 4000000 in
theorem fits_walk' (s1 s2 s3 : ByteArray) (v1 v2 v3 : Int) (a1 a2 a3 : Option Addr) (n1 n2 n3 c1 c2 c3 : Nat) (l1 l2 l3 : List F) (w : World) (h : Three w s1 s2 s3 v1 v2 v3 a1 a2 a3 n1 n2 n3 c1 c2 c3 l1 l2 l3) :
    Calls Try.prog 5 #[.agg #[.string s1, .int .i64 v1, .slice a1 n1 c1], .agg #[.string s2, .int .i64 v2, .slice a2 n2 c2], .agg #[.string s3, .int .i64 v3, .slice a3 n3 c3]] w fun e w' => e = .returned (.bool true) ∧ Below w.heap.size w w' := by
  have hF1 := fun W (hW : Below w.heap.size w W) => Few_any ⟨s1, v1, l1⟩ a1 c1 W (h.h1.kept hW) h.f1.1
  have hF2 := fun W (hW : Below w.heap.size w W) => Few_any ⟨s2, v2, l2⟩ a2 c2 W (h.h2.kept hW) h.f2.1
  have hF3 := fun W (hW : Below w.heap.size w W) => Few_any ⟨s3, v3, l3⟩ a3 c3 W (h.h3.kept hW) h.f3.1
  have hTaa := fun W (hW : Below w.heap.size w W) => Fits_any ⟨s1, v1, l1⟩ ⟨s1, v1, l1⟩ a1 c1 a1 c1 W (h.h1.kept hW) (h.h1.kept hW) h.f1 h.f1
  have hTab := fun W (hW : Below w.heap.size w W) => Fits_any ⟨s1, v1, l1⟩ ⟨s2, v2, l2⟩ a1 c1 a2 c2 W (h.h1.kept hW) (h.h2.kept hW) h.f1 h.f2
  have hTba := fun W (hW : Below w.heap.size w W) => Fits_any ⟨s2, v2, l2⟩ ⟨s1, v1, l1⟩ a2 c2 a1 c1 W (h.h2.kept hW) (h.h1.kept hW) h.f2 h.f1
  have hTbc := fun W (hW : Below w.heap.size w W) => Fits_any ⟨s2, v2, l2⟩ ⟨s3, v3, l3⟩ a2 c2 a3 c3 W (h.h2.kept hW) (h.h3.kept hW) h.f2 h.f3
  have hTac := fun W (hW : Below w.heap.size w W) => Fits_any ⟨s1, v1, l1⟩ ⟨s3, v2, l3⟩ a1 c1 a3 c3 W (h.h1.kept hW) (h.h3.kept hW) h.f1 ⟨h.f3.1, h.f2.2.1, h.f2.2.2⟩
  simp only [h.e1, h.e2, h.e3, decide_eq_false (fit_self _)] at hF1 hF2 hF3 hTaa hTab hTba hTbc hTac
  have hl1 := slF_len h.h1
  have hl2 := slF_len h.h2
  rw [h.e1] at hl1
  rw [h.e2] at hl2
  have HF1 := Lib.hid hF1
  have HF2 := Lib.hid hF2
  have HF3 := Lib.hid hF3
  have HTaa := Lib.hid hTaa
  have HTab := Lib.hid hTab
  have HTba := Lib.hid hTba
  have HTbc := Lib.hid hTbc
  have HTac := Lib.hid hTac
  have HH := Lib.hid h
  have hb1 := (Below.refl w.heap.size w).alloc (Nat.le_refl _) (.cells #[.string s1, .int .i64 v1, .slice a1 n1 c1] 24)
  obtain ⟨u1, hu1⟩ : ∃ u, u = w.alloc (.cells #[.string s1, .int .i64 v1, .slice a1 n1 c1] 24) := ⟨_, rfl⟩
  have hs1 : u1.heap.size = w.heap.size + 1 := by rw [hu1]; simp
  have hx1 := bx_new_t w 24 (.string s1) (.int .i64 v1) (.slice a1 n1 c1)
  rw [← hu1] at hb1 hx1
  have hb2 := (Below.refl u1.heap.size u1).alloc (Nat.le_refl _) (.cells #[.string s2, .int .i64 v2, .slice a2 n2 c2] 24)
  have hx2 := bx_new_t u1 24 (.string s2) (.int .i64 v2) (.slice a2 n2 c2)
  obtain ⟨u2, hu2⟩ : ∃ u, u = u1.alloc (.cells #[.string s2, .int .i64 v2, .slice a2 n2 c2] 24) := ⟨_, rfl⟩
  have hs2 : u2.heap.size = w.heap.size + 2 := by rw [hu2]; simp [hs1]
  rw [← hu2] at hb2 hx2
  have hb3 := (Below.refl u2.heap.size u2).alloc (Nat.le_refl _) (.cells #[.string s3, .int .i64 v3, .slice a3 n3 c3] 24)
  have hx3 := bx_new_t u2 24 (.string s3) (.int .i64 v3) (.slice a3 n3 c3)
  have hx1' := (hx1.kept hb2).kept hb3
  have hx2' := hx2.kept hb3
  have hb := bt hb1 (bt hb2 hb3)
  rw [hs1] at hx2'
  rw [hs2] at hx3
  rw [hu2, hu1] at hx1' hx2' hx3 hb
  have HX1 := Lib.hid hx1'
  have HX2 := Lib.hid hx2'
  have HX3 := Lib.hid hx3
  have HB := Lib.hid hb
  clear hb1 hb2 hb3 hx1 hx2 hx3 hx1' hx2' hb hu1 hu2 hs1 hs2 hF1 hF2 hF3 hTaa hTab hTba hTbc hTac h u1 u2
  go_enter Try.func5, Try.ntmps5
  go_wp2_with fail
  refine (awake_any _).mono ?_
  rintro e w1 ⟨rfl, hb⟩
  have HB1 := Lib.hid (bt HB.out hb)
  have HY1 := Lib.hid (HX1.out.kept hb)
  have HY2 := Lib.hid (HX2.out.kept hb)
  have HY3 := Lib.hid (HX3.out.kept hb)
  clear hb HB HX1 HX2 HX3
  obtain ⟨⟨p0, p1, p2⟩, _⟩ := HY1.out
  go_wp2_with fail
  refine (HF1.out _ HB1.out).mono ?_
  rintro e w2 ⟨rfl, hb⟩
  have HB2 := Lib.hid (bt HB1.out hb)
  have HX1 := Lib.hid (HY1.out.kept hb)
  have HX2 := Lib.hid (HY2.out.kept hb)
  have HX3 := Lib.hid (HY3.out.kept hb)
  obtain ⟨P, hP⟩ : ∃ P, P = decide (Few ⟨s1, v1, l1⟩) := ⟨_, rfl⟩
  rw [← hP]
  clear hb HB1 HY1 HY2 HY3 p0 p1 p2 hP HF1
  obtain ⟨⟨p0, p1, p2⟩, _⟩ := HX2.out
  go_wp2_with fail
  refine (HF2.out _ HB2.out).mono ?_
  rintro e w3 ⟨rfl, hb⟩
  have HB3 := Lib.hid (bt HB2.out hb)
  have HY1 := Lib.hid (HX1.out.kept hb)
  have HY2 := Lib.hid (HX2.out.kept hb)
  have HY3 := Lib.hid (HX3.out.kept hb)
  obtain ⟨Q, hQ⟩ : ∃ P, P = decide (Few ⟨s2, v2, l2⟩) := ⟨_, rfl⟩
  rw [← hQ]
  clear hb HB2 HX1 HX2 HX3 p0 p1 p2 hQ HF2
  obtain ⟨⟨p0, p1, p2⟩, _⟩ := HY3.out
  go_wp2_with fail
  refine (HF3.out _ HB3.out).mono ?_
  rintro e w4 ⟨rfl, hb⟩
  have HB4 := Lib.hid (bt HB3.out hb)
  have HX1 := Lib.hid (HY1.out.kept hb)
  have HX2 := Lib.hid (HY2.out.kept hb)
  have HX3 := Lib.hid (HY3.out.kept hb)
  obtain ⟨R, hR⟩ : ∃ P, P = decide (Few ⟨s3, v3, l3⟩) := ⟨_, rfl⟩
  rw [← hR]
  clear hb HB3 HY1 HY2 HY3 p0 p1 p2 hR HF3
  cases P
  · go_wp2_with fail
    go_ret
    exact ⟨ret_bool (by first | rfl | simp), HB4.out⟩
  · by_cases hqr : Q = true ∧ R = true
    · obtain ⟨rfl, rfl⟩ := hqr
      obtain ⟨⟨p0, p1, p2⟩, _⟩ := HX1.out
      go_wp2_with fail
      refine (HTaa.out _ HB4.out).mono ?_
      rintro e w5 ⟨rfl, hb⟩
      have HB5 := Lib.hid (bt HB4.out hb)
      have HY1 := Lib.hid (HX1.out.kept hb)
      have HY2 := Lib.hid (HX2.out.kept hb)
      have HY3 := Lib.hid (HX3.out.kept hb)
      clear hb HB4 HX1 HX2 HX3 p0 p1 p2 HTaa
      obtain ⟨⟨p0, p1, p2⟩, _⟩ := HY1.out
      obtain ⟨⟨q0, q1, q2⟩, _⟩ := HY2.out
      go_wp2_with fail
      refine (HTab.out _ HB5.out).mono ?_
      rintro e w6 ⟨rfl, hb⟩
      have HB6 := Lib.hid (bt HB5.out hb)
      have HX1 := Lib.hid (HY1.out.kept hb)
      have HX2 := Lib.hid (HY2.out.kept hb)
      have HX3 := Lib.hid (HY3.out.kept hb)
      clear hb HB5 HY1 HY2 HY3 p0 p1 p2 q0 q1 q2 HTab
      by_cases hab : Fit ⟨s1, v1, l1⟩ ⟨s2, v2, l2⟩
      · rw [decide_eq_true hab]
        have HAB := Lib.hid hab
        have hve : v2 = v1 + 1 := hab.2.2.2.1
        have hse : s1 = s2 := hab.2.2.1
        have hv0 : 1 ≤ v1 := hab.1.2.1
        have hv9 : v1 ≤ 1000 := hab.1.2.2.1
        have hln : n1 ≤ n2 := by have := hab.2.2.2.2.1; simp only [HH.out.e1, HH.out.e2] at this; exact this
        have hbeg := (beg_iff (l := l2) (m := l1) hab.2.2.2.2.1).1 ⟨hab.2.2.2.2.1, hab.2.2.2.2.2⟩
        rw [HH.out.e1] at hbeg
        have HBeg := Lib.hid hbeg
        simp only [decide_eq_false (fit_back hab)] at HTba
        subst hve
        subst hse
        have ee : (s1.toList != s1.toList) = false := by simp
        have ee2 : (v1 + 1 != v1 + 1) = false := by simp
        have hd1 : decide ((n2 : Int) < (n1 : Int)) = false := by rw [decide_eq_false_iff_not]; omega
        obtain ⟨⟨p0, p1, p2⟩, _⟩ := HX1.out
        obtain ⟨⟨q0, q1, q2⟩, _⟩ := HX2.out
        clear hab hbeg
        go_wp2_with fail
        refine (HTba.out _ HB6.out).mono ?_
        rintro e w7 ⟨rfl, hb⟩
        have HB7 := Lib.hid (bt HB6.out hb)
        have HY1 := Lib.hid (HX1.out.kept hb)
        have HY2 := Lib.hid (HX2.out.kept hb)
        have HY3 := Lib.hid (HX3.out.kept hb)
        clear hb HB6 HX1 HX2 HX3 p0 p1 p2 q0 q1 q2 HTba
        go_wp2_with fail
        go_loopw [11] (fun i wr => ∃ j : Nat, i = .int .i64 j ∧ j ≤ n1 ∧ Below w7.heap.size w7 wr) (fun i _ => n1 - (intOf i).toNat)
        case atStart => exact ⟨0, rfl, Nat.zero_le _, Below.refl _ _⟩
        case round =>
          obtain ⟨j, rfl, hj, hbel⟩ := hrel
          have HBl := Lib.hid hbel
          obtain ⟨⟨p0, p1, p2⟩, _⟩ := HY1.out.kept hbel
          obtain ⟨⟨q0, q1, q2⟩, _⟩ := HY2.out.kept hbel
          clear hbel
          by_cases hjn : j < n1
          · obtain ⟨b1, r1, hix1, hc1, _⟩ := HH.out.h1.at j (by rw [HH.out.e1]; omega)
            obtain ⟨b2, r2, hix2, hc2, _⟩ := HH.out.h2.at j (by rw [HH.out.e2]; omega)
            have hsm := HBeg.out j hjn
            rw [hsm] at hc2
            obtain ⟨⟨t1, k1⟩, hf1⟩ : ∃ f, f = l1.getD j d0 := ⟨_, rfl⟩
            rw [← hf1] at hc1 hc2
            obtain ⟨y0, y1⟩ := hc2 wr (bt HB7.out HBl.out)
            obtain ⟨z0, z1⟩ := hc1 wr (bt HB7.out HBl.out)
            simp only at y0 y1 z0 z1
            have hi1 := fun W => hix1 W n1 c1 hjn
            have hi2 := fun W => hix2 W n2 c2 (by omega)
            have hne := fun W => neq_f t1 t1 k1 k1 W
            simp only [decide_true, Bool.not_true] at hne
            clear hc1 hc2 hix1 hix2 hf1 hsm
            go_wp2_with fail
            go_quiet (fail)
            go_wp2_with fail
            go_roundw
            case rel => exact ⟨j + 1, by go_num, by omega, below_drewN HBl.out _⟩
            case measure => simp [intOf]; omega
          · obtain rfl : j = n1 := by omega
            obtain ⟨⟨r0, r1, r2⟩, _⟩ := HY3.out.kept HBl.out
            go_wp2_with fail
            refine (HTbc.out _ (bt HB7.out HBl.out)).mono ?_
            rintro e w8 ⟨rfl, hb⟩
            have HB8 := Lib.hid (bt (bt HB7.out HBl.out) hb)
            have HX1 := Lib.hid (HY1.out.kept (bt HBl.out hb))
            have HX2 := Lib.hid (HY2.out.kept (bt HBl.out hb))
            have HX3 := Lib.hid (HY3.out.kept (bt HBl.out hb))
            clear hb HB7 HBl HY1 HY2 HY3 p0 p1 p2 q0 q1 q2 r0 r1 r2 HTbc
            by_cases hbc : Fit ⟨s1, v1 + 1, l2⟩ ⟨s3, v3, l3⟩
            · rw [decide_eq_true hbc]
              have hac := fit_on HAB.out hbc
              simp only at hac
              simp only [decide_eq_true hac] at HTac
              have HY3 := Lib.hid (bx_set1 HX3.out (.int .i64 (v1 + 1)))
              have HB9 := Lib.hid (HB8.out.setCell (p := ⟨w.heap.size + 2, 1, none⟩) (by simp only; omega) (.int .i64 (v1 + 1)))
              have HY1 := Lib.hid (HX1.out.off (p := ⟨w.heap.size + 2, 1, none⟩) (by simp only; omega) (.int .i64 (v1 + 1)))
              obtain ⟨⟨q0, q1, q2⟩, _⟩ := HX2.out
              obtain ⟨⟨r0, r1, r2⟩, r3, r4, r5⟩ := HX3.out
              obtain ⟨⟨p0, p1, p2⟩, _⟩ := HY1.out
              obtain ⟨⟨t0, t1, t2⟩, _⟩ := HY3.out
              clear hbc hac
              go_wp2_with fail
              refine (HTac.out _ HB9.out).mono ?_
              rintro e w9 ⟨rfl, hb⟩
              have HB10 := Lib.hid (bt HB9.out hb)
              clear hb p0 p1 p2 q0 q1 q2 r0 r1 r2 r3 r4 r5 t0 t1 t2
              go_wp2_with fail
              go_ret
              exact ⟨ret_bool (by first | rfl | simp), HB10.out⟩
            · rw [decide_eq_false hbc]
              clear hbc
              go_wp2_with fail
              go_ret
              exact ⟨ret_bool (by first | rfl | simp), HB8.out⟩
      · rw [decide_eq_false hab]
        clear hab
        go_wp2_with fail
        go_ret
        exact ⟨ret_bool (by first | rfl | simp), HB6.out⟩
    · have hw : Q = false ∨ (Q = true ∧ R = false) := by cases Q <;> cases R <;> simp_all
      clear hqr
      rcases hw with rfl | ⟨rfl, rfl⟩
      all_goals
        obtain ⟨⟨p0, p1, p2⟩, _⟩ := HX1.out
        go_wp2_with fail
        refine (HTaa.out _ HB4.out).mono ?_
        rintro e w5 ⟨rfl, hb⟩
        have HB5 := Lib.hid (bt HB4.out hb)
        clear hb p0 p1 p2
        go_wp2_with fail
        go_ret
        exact ⟨ret_bool (by first | rfl | simp), HB5.out⟩

theorem fits_walk (s1 : ByteArray) (v1 : Int) (a1 : Option Addr) (n1 c1 : Nat) (s2 : ByteArray) (v2 : Int) (a2 : Option Addr) (n2 c2 : Nat) (s3 : ByteArray) (v3 : Int) (a3 : Option Addr) (n3 c3 : Nat) (w : World)
    (h1 : Op.ArgS w s1 v1 a1 n1 c1) (h2 : Op.ArgS w s2 v2 a2 n2 c2) (h3 : Op.ArgS w s3 v3 a3 n3 c3) :
    Calls Try.prog 5 #[.agg #[.string s1, .int .i64 v1, .slice a1 n1 c1], .agg #[.string s2, .int .i64 v2, .slice a2 n2 c2], .agg #[.string s3, .int .i64 v3, .slice a3 n3 c3]] w fun e w' => e = .returned (.bool true) ∧ Below w.heap.size w w' := by
  obtain ⟨l1, e1, g1, f1⟩ := h1
  obtain ⟨l2, e2, g2, f2⟩ := h2
  obtain ⟨l3, e3, g3, f3⟩ := h3
  exact fits_walk' s1 s2 s3 v1 v2 v3 a1 a2 a3 n1 n2 n3 c1 c2 c3 l1 l2 l3 w ⟨e1, e2, e3, g1, g2, g3, f1, f2, f3⟩
end Go.Proofs.Ytjbpacciaeifaaa.Sc
