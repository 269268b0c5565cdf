/- The walk of SchemaSame: a schema is the same as itself; with another version, or a field more, it is not; what is put of two that may be is the same just if they are; the schemas' parts lie where they say. -/
import Derived.Test.YtjbpacciaeifaaaSchemaAwake
import Derived.Test.YtjbpacciaeifaaaSchemaSame
import Derived.Test.YtjbpacciaeifaaaOpenSchema
namespace Go.Proofs.Ytjbpacciaeifaaa.Sc
open Go.RowKit Go.Proofs.Ytjbpacciaeifaaa.BM Go.Proofs.Ytjbpacciaeifaaa.LM Go.Proofs.Ytjbpacciaeifaaa.VaM Go.Proofs.Ytjbpacciaeifaaa.Va Go.Proofs.Ytjbpacciaeifaaa.ScM

/-- Two schemas and a field that came in, as the walk meets them. -/
structure Two (w : World) (s1 s2 fs : ByteArray) (v1 v2 : Int) (a1 a2 : Option Addr) (n1 n2 c1 c2 : Nat) (l1 l2 : List F) : Prop where
  e1 : l1.length = n1
  e2 : l2.length = n2
  h1 : SlF w a1 l1 c1
  h2 : SlF w a2 l2 c2
  f1 : Fine ⟨s1, v1, l1⟩
  f2 : Fine ⟨s2, v2, l2⟩
  f3 : fs.size ≤ maxLen

set_option maxRecDepth 100000 in
set_option maxHeartbeats 8000000 in
theorem same_walk' (s1 s2 fs : ByteArray) (v1 v2 fk : Int) (a1 a2 : Option Addr) (n1 n2 c1 c2 : Nat) (l1 l2 : List F) (w : World) (h : Two w s1 s2 fs v1 v2 a1 a2 n1 n2 c1 c2 l1 l2) :
    Calls Try.prog 7 #[.agg #[.string s1, .int .i64 v1, .slice a1 n1 c1], .agg #[.string s2, .int .i64 v2, .slice a2 n2 c2], .agg #[.string fs, .int .i64 fk]] w fun e w' => e = .returned (.bool true) ∧ Below w.heap.size w w' := by
  have hF1 := fun W (hW : Below w.heap.size w W) => Few_any ⟨s1, v1, l1⟩ a1 c1 W (h.h1.kept hW) h.f1.1
  have hF2 := fun W (hW : Below w.heap.size w W) => Few_any ⟨s2, v2, l2⟩ a2 c2 W (h.h2.kept hW) h.f2.1
  have hP1 := fun W (hW : Below w.heap.size w W) => Put_any ⟨s1, v1, l1⟩ a1 c1 W (h.h1.kept hW) h.f1
  have hP2 := fun W (hW : Below w.heap.size w W) => Put_any ⟨s2, v2, l2⟩ a2 c2 W (h.h2.kept hW) h.f2
  have hvc : wrap64 (v1 + 1) ≠ v1 := by
    have h1 := h.f1.2.1
    have h2 := h.f1.2.2
    simp only at h1 h2
    unfold wrap64
    omega
  have hnc : (⟨s1, v1, l1⟩ : Sc) ≠ ⟨s1, wrap64 (v1 + 1), l1⟩ := fun e => hvc (congrArg Sc.v e).symm
  have hSab := fun W (hW : Below w.heap.size w W) => Same_any ⟨s1, v1, l1⟩ ⟨s2, v2, l2⟩ a1 c1 a2 c2 W (h.h1.kept hW) (h.h2.kept hW)
  have hSba := fun W (hW : Below w.heap.size w W) => Same_any ⟨s2, v2, l2⟩ ⟨s1, v1, l1⟩ a2 c2 a1 c1 W (h.h2.kept hW) (h.h1.kept hW)
  have hSaa := fun W (hW : Below w.heap.size w W) => Same_any ⟨s1, v1, l1⟩ ⟨s1, v1, l1⟩ a1 c1 a1 c1 W (h.h1.kept hW) (h.h1.kept hW)
  have hSac := fun W (hW : Below w.heap.size w W) => Same_any ⟨s1, v1, l1⟩ ⟨s1, wrap64 (v1 + 1), l1⟩ a1 c1 a1 c1 W (h.h1.kept hW) (h.h1.kept hW)
  have hcomm : decide ((⟨s2, v2, l2⟩ : Sc) = ⟨s1, v1, l1⟩) = decide ((⟨s1, v1, l1⟩ : Sc) = ⟨s2, v2, l2⟩) := by rw [decide_eq_decide]; exact eq_comm
  simp only [h.e1, h.e2, decide_true, decide_eq_false hnc, hcomm] at hF1 hF2 hP1 hP2 hSab hSba hSaa hSac
  obtain ⟨vc, hvcd⟩ : ∃ x, x = wrap64 (v1 + 1) := ⟨_, rfl⟩
  simp only [← hvcd] at hSac
  obtain ⟨E, hE⟩ : ∃ E, E = decide ((⟨s1, v1, l1⟩ : Sc) = ⟨s2, v2, l2⟩) := ⟨_, rfl⟩
  simp only [← hE] at hSab hSba
  have HE := Lib.hid hE
  have hn1 := slF_len h.h1
  rw [h.e1] at hn1
  have HVc := Lib.hid hvcd
  have HF1 := Lib.hid hF1
  have HF2 := Lib.hid hF2
  have HP1 := Lib.hid hP1
  have HP2 := Lib.hid hP2
  have HSab := Lib.hid hSab
  have HSba := Lib.hid hSba
  have HSaa := Lib.hid hSaa
  have HSac := Lib.hid hSac
  have HS1 := Lib.hid h.h1
  have HL1 := Lib.hid h.e1
  have HSzf := Lib.hid h.f3
  have hb1 := (Below.refl w.heap.size w).alloc (Nat.le_refl _) (.cells #[.string s1, .int .i64 v1, .slice a1 n1 c1] 24)
  obtain ⟨u1, hu1⟩ : ∃ u, u = w.alloc (.cells #[.string s1, .int .i64 v1, .slice a1 n1 c1] 24) := ⟨_, rfl⟩
  have hs1 : u1.heap.size = w.heap.size + 1 := by rw [hu1]; simp
  have hx1 := bx_new_t w 24 (.string s1) (.int .i64 v1) (.slice a1 n1 c1)
  rw [← hu1] at hb1 hx1
  have hb2 := (Below.refl u1.heap.size u1).alloc (Nat.le_refl _) (.cells #[.string s2, .int .i64 v2, .slice a2 n2 c2] 24)
  have hx2 := bx_new_t u1 24 (.string s2) (.int .i64 v2) (.slice a2 n2 c2)
  obtain ⟨u2, hu2⟩ : ∃ u, u = u1.alloc (.cells #[.string s2, .int .i64 v2, .slice a2 n2 c2] 24) := ⟨_, rfl⟩
  have hs2 : u2.heap.size = w.heap.size + 2 := by rw [hu2]; simp [hs1]
  rw [← hu2] at hb2 hx2
  have hb3 := (Below.refl u2.heap.size u2).alloc (Nat.le_refl _) (.cells #[.string fs, .int .i64 fk] 37)
  have hx3 := bx2_new u2 37 (.string fs) (.int .i64 fk)
  have hx1' := (hx1.kept hb2).kept hb3
  have hx2' := hx2.kept hb3
  have hb := bt hb1 (bt hb2 hb3)
  rw [hs1] at hx2'
  rw [hs2] at hx3
  rw [hu2, hu1] at hx1' hx2' hx3 hb
  have HX1 := Lib.hid hx1'
  have HX2 := Lib.hid hx2'
  have HX3 := Lib.hid hx3
  have HB := Lib.hid hb
  clear hb1 hb2 hb3 hx1 hx2 hx3 hx1' hx2' hb hu1 hu2 hs1 hs2 hF1 hF2 hP1 hP2 hSab hSba hSaa hSac hcomm hnc hvc hvcd hE h u1 u2
  go_enter Try.func7, Try.ntmps7
  go_wp2_with fail
  refine (awake_any _).mono ?_
  rintro e w1 ⟨rfl, hb⟩
  have HB1 := Lib.hid (bt HB.out hb)
  have HY1 := Lib.hid (HX1.out.kept hb)
  have HY2 := Lib.hid (HX2.out.kept hb)
  have HY3 := Lib.hid (HX3.out.kept hb)
  clear hb HB HX1 HX2 HX3
  obtain ⟨⟨p0, p1, p2⟩, _⟩ := HY1.out
  go_wp2_with fail
  refine (HF1.out _ HB1.out).mono ?_
  rintro e w2 ⟨rfl, hb⟩
  have HB2 := Lib.hid (bt HB1.out hb)
  have HX1 := Lib.hid (HY1.out.kept hb)
  have HX2 := Lib.hid (HY2.out.kept hb)
  have HX3 := Lib.hid (HY3.out.kept hb)
  obtain ⟨P, hP⟩ : ∃ P, P = decide (Few ⟨s1, v1, l1⟩) := ⟨_, rfl⟩
  rw [← hP]
  have HPf := Lib.hid hP
  clear hb HB1 HY1 HY2 HY3 p0 p1 p2 hP HF1
  obtain ⟨⟨p0, p1, p2⟩, _⟩ := HX2.out
  go_wp2_with fail
  refine (HF2.out _ HB2.out).mono ?_
  rintro e w0 ⟨rfl, hb⟩
  have HB0 := Lib.hid (bt HB2.out hb)
  have HY1 := Lib.hid (HX1.out.kept hb)
  have HY2 := Lib.hid (HX2.out.kept hb)
  have HY3 := Lib.hid (HX3.out.kept hb)
  obtain ⟨Q, hQ⟩ : ∃ P, P = decide (Few ⟨s2, v2, l2⟩) := ⟨_, rfl⟩
  rw [← hQ]
  clear hb HB2 HX1 HX2 HX3 p0 p1 p2 hQ HF2
  by_cases hpq : P = true ∧ Q = true
  · obtain ⟨rfl, rfl⟩ := hpq
    have hn10 : n1 ≤ 10 := by
      have h1 := (decide_eq_true_iff.1 HPf.out.symm).2.1
      simp only [HL1.out] at h1
      exact h1
    have hat := (Below.refl w0.heap.size w0).alloc (Nat.le_refl _) (.cells #[.string s1, .int .i64 vc, .slice a1 n1 c1] 24)
    have hau := (Below.refl (w0.alloc (.cells #[.string s1, .int .i64 vc, .slice a1 n1 c1] 24)).heap.size (w0.alloc (.cells #[.string s1, .int .i64 vc, .slice a1 n1 c1] 24))).alloc (Nat.le_refl _) (.cells #[.string s1, .int .i64 v1, .slice a1 n1 c1] 24)
    have hux := bx_new_t (w0.alloc (.cells #[.string s1, .int .i64 vc, .slice a1 n1 c1] 24)) 24 (.string s1) (.int .i64 v1) (.slice a1 n1 c1)
    rw [show (w0.alloc (.cells #[.string s1, .int .i64 vc, .slice a1 n1 c1] 24)).heap.size = w0.heap.size + 1 from by simp] at hux
    have HD := Lib.hid hux
    have HC := Lib.hid ((bx_new_t w0 24 (.string s1) (.int .i64 vc) (.slice a1 n1 c1)).kept hau)
    have HA := Lib.hid (bt hat hau)
    obtain ⟨⟨p0, p1, p2⟩, _⟩ := HY1.out
    have hxl := HY3.out.lt
    have hxl1 := HY1.out.lt
    have hxl2 := HY2.out.lt
    clear hat hau hux
    go_wp2_with fail
    rw [← HVc.out]
    obtain ⟨w00, hw00⟩ : ∃ w00, w00 = (w0.alloc (.cells #[.string s1, .int .i64 vc, .slice a1 n1 c1] 24)).alloc (.cells #[.string s1, .int .i64 v1, .slice a1 n1 c1] 24) := ⟨_, rfl⟩
    rw [← hw00] at HD HC HA ⊢
    clear hw00 p0 p1 p2
    refine RegB.GS_start (fun x => Below w0.heap.size w0 x) (by kernel_rfl) (by repeat (first | exact Reg.frameless_bodyPost | refine Reg.frameless_then ?_ | refine Reg.frameless_inBlock ?_)) (fun W hW => bt HA.out hW) (fun W hW => ?_)
    have HW := Lib.hid (bt HA.out hW)
    have HBW := Lib.hid (bt HB0.out HW.out)
    have HSW := Lib.hid (HS1.out.kept HBW.out)
    have HCW := Lib.hid (HC.out.kept hW)
    have HDW := Lib.hid (HD.out.kept hW)
    have HXW := Lib.hid (HY1.out.kept HW.out)
    have HYW := Lib.hid (HY2.out.kept HW.out)
    have hult := HDW.out.lt
    have x0 : ∀ x : RegB.At (fun x => Below w0.heap.size w0 x), x.world.cell? ⟨w.heap.size, 2, none⟩ = some (.slice a1 n1 c1) := fun x => (HY1.out.kept x.ok).1.2.2
    have x1 : ∀ x : RegB.At (fun x => Below w0.heap.size w0 x), x.world.cell? ⟨w.heap.size + 2, 0, none⟩ = some (.string fs) := fun x => (HY3.out.kept x.ok).1.1
    have x2 : ∀ x : RegB.At (fun x => Below w0.heap.size w0 x), x.world.cell? ⟨w.heap.size + 2, 1, none⟩ = some (.int .i64 fk) := fun x => (HY3.out.kept x.ok).1.2
    haveI : Nonempty (RegB.At (fun x => Below w0.heap.size w0 x)) := ⟨⟨W, HW.out⟩⟩
    have hwb := HB0.out.size
    clear hW HD HC HA
    refine RegB.GS_step (i := 0) rfl (by kernel_rfl) (by rfl) (fun K hK => ?_); go_big_quiet_op; refine hK _ ?_; clear hK K
    refine RegB.GS_step (i := 1) rfl (by kernel_rfl) (by rfl) (fun K hK => ?_); go_big_quiet_op; refine hK _ ?_; clear hK K
    refine RegB.GS_step (i := 3) rfl (by kernel_rfl) (by rfl) (fun K hK => ?_); go_big_quiet_op; refine hK _ ?_; clear hK K
    refine RegB.GS_fork (i := 2) (j := 4) rfl rfl (by kernel_rfl) (by rfl) (by rfl) (fun K hK => ?_) (fun K hK => ?_)
    focus
      refine op_append_a (.const (.slice none 0 0)) (.tmp 40) rfl W.heap.size (.slice none 0 0) 0 [] rfl (World.ownsRow_nil _ _ _ _) a1 n1 c1 l1 rfl HL1.out HSW.out.1 HSW.out.2.2.1 (by omega) (Nat.le_refl _) ?_
      intro u1 v1' hown1 hg1
      simp only [Nat.zero_add, List.nil_append] at hown1
      obtain ⟨Ap, cp, hu1⟩ := own_is hown1
      have hB1 : Below W.heap.size W v1' := (Below.refl _ _).grown hg1 (Nat.le_refl _) (fun q hq => by cases hq)
      refine hK _ _ (bt HW.out hB1) ?_
      clear hK K
      have ha2 := (Below.refl v1'.heap.size v1').alloc (Nat.le_refl _) (.cells #[.string fs, .int .i64 fk] 37)
      have HB2 := Lib.hid (bt hB1 ha2)
      have HO2 := Lib.hid (RegA.own_below hown1 ha2)
      have HOne := Lib.hid (isF_new v1' fs fk)
      subst hu1
      simp only [Act.put, List.setIfInBounds_toArray, List.set_cons_zero, List.set_cons_succ]
      refine RegB.GS_event (i := 4) rfl (by kernel_rfl) (by rfl) (fun K hK => ?_)
      go_simp
      refine hK _ _ (bt HW.out HB2.out) ?_
      clear hK K
      obtain ⟨bb, hbb⟩ : ∃ b, b = v1'.heap.size := ⟨_, rfl⟩
      obtain ⟨v2', hv2⟩ : ∃ v2, v2 = v1'.alloc (.cells #[.string fs, .int .i64 fk] 37) := ⟨_, rfl⟩
      rw [← hv2] at HB2 HO2 HOne ⊢
      rw [← hbb] at HOne ⊢
      clear hv2 hbb hown1 hg1 hB1 ha2
    rotate_left
    focus
      go_simp
      have ha1 := (Below.refl W.heap.size W).alloc (Nat.le_refl _) (.cells #[.string fs, .int .i64 fk] 37)
      refine hK _ _ (bt HW.out ha1) ?_
      clear hK K
      have hone := isF_new W fs fk
      have hsf := HSW.out.kept ha1
      refine RegB.GS_event (i := 2) rfl (by kernel_rfl) (by rfl) (fun K hK => ?_)
      refine op_append_a (.const (.slice none 0 0)) (.tmp 40) rfl W.heap.size (.slice none 0 0) 0 [] rfl (World.ownsRow_nil _ _ _ _) a1 n1 c1 l1 rfl HL1.out hsf.1 hsf.2.2.1 (by omega) ha1.size ?_
      intro u1 v2' hown1 hg1
      simp only [Nat.zero_add, List.nil_append] at hown1
      obtain ⟨Ap, cp, hu1⟩ := own_is hown1
      have HB2 := Lib.hid (ha1.grown hg1 ha1.size (fun q hq => by cases hq))
      refine hK _ _ (bt HW.out HB2.out) ?_
      clear hK K
      have HO2 := Lib.hid hown1
      have HOne := Lib.hid (isF_grown hone hg1 (fun b hb => by cases hb))
      subst hu1
      simp only [Act.put, List.setIfInBounds_toArray, List.set_cons_zero, List.set_cons_succ]
      obtain ⟨bb, hbb⟩ : ∃ b, b = W.heap.size := ⟨_, rfl⟩
      rw [← hbb] at HOne ⊢
      clear ha1 hone hsf hown1 hg1 hbb
    all_goals
      have hszv := HB2.out.size
      refine RegB.GS_event (i := 5) rfl (by kernel_rfl) (by rfl) (fun K hK => ?_)
      refine op_append_f (.tmp 41) (.tmp 43) rfl W.heap.size (.slice Ap n1 cp) n1 l1 rfl HO2.out bb 0 1 1 [⟨fs, fk⟩] rfl rfl HOne.out (by omega) hszv ?_
      intro u4 v4 hown4 hg4
      obtain ⟨Aq, cq, hu4⟩ := own_is hown4
      have HB4 := Lib.hid (HB2.out.grown hg4 hszv (fun q hq => (HO2.out.lt q hq).1))
      refine hK _ _ (bt HW.out HB4.out) ?_
      clear hK K
      subst hu4
      obtain ⟨_, _, he4, hn4, hsl4, hfar4⟩ := own_slF hown4 (fun f hf => by
        rcases List.mem_append.1 hf with h | h
        · exact HS1.out.2.2.2.2 f h
        · obtain rfl := List.mem_singleton.1 h
          exact HSzf.out)
      injection he4 with e1 e2 e3
      subst e1
      subst e3
      have HS4 := Lib.hid hsl4
      have HF4 := Lib.hid (fun a ha => (hfar4 a ha).1)
      have hu4 := HDW.out.kept HB4.out
      have HC4 := Lib.hid (HCW.out.kept HB4.out)
      have HX4 := Lib.hid (HXW.out.kept HB4.out)
      have HY4 := Lib.hid (HYW.out.kept HB4.out)
      have hBw4 := bt HBW.out HB4.out
      clear hown4 hg4 hsl4 hfar4 e2 hn4 HO2 HOne hszv HB2
      simp only [Act.put, List.setIfInBounds_toArray, List.set_cons_zero, List.set_cons_succ]
      refine RegB.GS_step (i := 6) rfl (by kernel_rfl) (by rfl) (fun K hK => ?_); go_big_quiet_op; refine hK _ ?_; clear hK K
      have HB5 := Lib.hid (hBw4.setCell (p := ⟨w0.heap.size + 1, 2, none⟩) (by simp only; omega) (.slice Aq (n1 + 1) cq))
      have HD5 := Lib.hid (bx_set2 hu4 (.slice Aq (n1 + 1) cq))
      have HC5 := Lib.hid (HC4.out.off (p := ⟨w0.heap.size + 1, 2, none⟩) (by simp only; omega) (.slice Aq (n1 + 1) cq))
      have HX5 := Lib.hid (HX4.out.off (p := ⟨w0.heap.size + 1, 2, none⟩) (by simp only; omega) (.slice Aq (n1 + 1) cq))
      have HY5 := Lib.hid (HY4.out.off (p := ⟨w0.heap.size + 1, 2, none⟩) (by simp only; omega) (.slice Aq (n1 + 1) cq))
      have HS5 := Lib.hid (slF_grown HS4.out (grown_set v4 (w0.heap.size + 1) 2 (.slice Aq (n1 + 1) cq)) (fun a ha => by have := HF4.out a ha; omega))
      have hS5 := (bt HW.out HB4.out).setCell (p := ⟨w0.heap.size + 1, 2, none⟩) (by simp only; omega) (.slice Aq (n1 + 1) cq)
      obtain ⟨⟨_, _, y2⟩, _, _, y5⟩ := hu4
      refine RegB.GS_event (i := 7) rfl (by kernel_rfl) (by rfl) (fun K hK => ?_)
      go_simp
      refine hK _ _ hS5 ?_
      clear hK K
      refine RegB.GS_done (by kernel_rfl) ?_
      obtain ⟨v5, hv5⟩ : ∃ v5, v5 = v4.setCell ⟨w0.heap.size + 1, 2, none⟩ (.slice Aq (n1 + 1) cq) := ⟨_, rfl⟩
      rw [← hv5] at HB5 HD5 HC5 HX5 HY5 HS5 ⊢
      clear hv5 y2 y5 hS5 HS4 HF4 HC4 HX4 HY4 HB4 hBw4 x0 x1 x2
      have hlu : (l1 ++ [(⟨fs, fk⟩ : F)]).length = n1 + 1 := by rw [List.length_append, HL1.out]; rfl
      have hnd : (⟨s1, v1, l1⟩ : Sc) ≠ ⟨s1, v1, l1 ++ [⟨fs, fk⟩]⟩ := fun e => by
        have h := congrArg (fun z : Sc => z.f.length) e
        simp only [hlu, HL1.out] at h
        omega
      have hSad := fun W2 (hW2 : Below v5.heap.size v5 W2) => Same_any ⟨s1, v1, l1⟩ ⟨s1, v1, l1 ++ [⟨fs, fk⟩]⟩ a1 c1 Aq cq W2 (HS1.out.kept (bt HB5.out hW2)) (HS5.out.kept hW2)
      simp only [decide_eq_false hnd, hlu, HL1.out] at hSad
      have HSad := Lib.hid hSad
      clear hlu hnd hSad HS5
      obtain ⟨⟨p0, p1, p2⟩, _⟩ := HX5.out
      go_wp2_with fail
      refine (HP1.out _ HB5.out).mono ?_
      rintro e w6 ⟨A1, d1, rfl, hx1, _, hb6⟩
      have HB6 := Lib.hid hb6
      have HT1 := Lib.hid hx1
      clear hb6 hx1 p0 p1 p2
      obtain ⟨L1, hL1⟩ : ∃ L, L = (pv ⟨s1, v1, l1⟩).length := ⟨_, rfl⟩
      rw [← hL1]
      obtain ⟨⟨q0, q1, q2⟩, _⟩ := HY5.out.kept HB6.out
      have HLa := Lib.hid hL1
      clear hL1
      go_wp2_with fail
      refine (HP2.out _ (bt HB5.out HB6.out)).mono ?_
      rintro e w7 ⟨A2, d2, rfl, hx2, _, hb7⟩
      have HT2 := Lib.hid hx2
      have HT17 := Lib.hid (HT1.out.kept hb7)
      have HB7 := Lib.hid (bt HB6.out hb7)
      clear hb7 hx2 HB6 q0 q1 q2 HT1
      obtain ⟨L2, hL2⟩ : ∃ L, L = (pv ⟨s2, v2, l2⟩).length := ⟨_, rfl⟩
      rw [← hL2]
      have HLb := Lib.hid hL2
      clear hL2
      obtain ⟨⟨p0, p1, p2⟩, _⟩ := HX5.out.kept HB7.out
      obtain ⟨⟨q0, q1, q2⟩, _⟩ := HY5.out.kept HB7.out
      go_wp2_with fail
      refine (HSab.out _ (bt HB5.out HB7.out)).mono ?_
      rintro e w8 ⟨rfl, hb⟩
      have HB8 := Lib.hid (bt HB7.out hb)
      have HT18 := Lib.hid (HT17.out.kept hb)
      have HT28 := Lib.hid (HT2.out.kept hb)
      clear hb HB7 HT17 HT2 p0 p1 p2 q0 q1 q2
      obtain ⟨⟨p0, p1, p2⟩, _⟩ := HX5.out.kept HB8.out
      go_wp2_with fail
      refine (HSaa.out _ (bt HB5.out HB8.out)).mono ?_
      rintro e w9 ⟨rfl, hb⟩
      have HB9 := Lib.hid (bt HB8.out hb)
      have HT19 := Lib.hid (HT18.out.kept hb)
      have HT29 := Lib.hid (HT28.out.kept hb)
      clear hb HB8 HT18 HT28 p0 p1 p2
      obtain ⟨⟨p0, p1, p2⟩, _⟩ := HX5.out.kept HB9.out
      obtain ⟨⟨q0, q1, q2⟩, _⟩ := HC5.out.kept HB9.out
      go_wp2_with fail
      refine (HSac.out _ (bt HB5.out HB9.out)).mono ?_
      rintro e w10 ⟨rfl, hb⟩
      have HB10 := Lib.hid (bt HB9.out hb)
      have HT1x := Lib.hid (HT19.out.kept hb)
      have HT2x := Lib.hid (HT29.out.kept hb)
      clear hb HB9 HT19 HT29 p0 p1 p2 q0 q1 q2
      obtain ⟨⟨p0, p1, p2⟩, _⟩ := HX5.out.kept HB10.out
      obtain ⟨⟨q0, q1, q2⟩, _⟩ := HD5.out.kept HB10.out
      go_wp2_with fail
      refine (HSad.out _ HB10.out).mono ?_
      rintro e w11 ⟨rfl, hb⟩
      have HB11 := Lib.hid (bt HB10.out hb)
      have HT1y := Lib.hid (HT1x.out.kept hb)
      have HT2y := Lib.hid (HT2x.out.kept hb)
      clear hb HB10 HT1x HT2x p0 p1 p2 q0 q1 q2
      obtain ⟨⟨p0, p1, p2⟩, _⟩ := HX5.out.kept HB11.out
      obtain ⟨⟨q0, q1, q2⟩, _⟩ := HY5.out.kept HB11.out
      go_wp2_with fail
      refine (HSba.out _ (bt HB5.out HB11.out)).mono ?_
      rintro e w12 ⟨rfl, hb⟩
      have HB12 := Lib.hid (bt HB5.out (bt HB11.out hb))
      have hcx := conv_any (HT1y.out.kept hb).1 d1 9 Try.underlying9
      have hcy := conv_any (HT2y.out.kept hb).1 d2 9 Try.underlying9
      rw [← HLa.out] at hcx
      rw [← HLb.out] at hcy
      clear hb HB11 HT1y HT2y p0 p1 p2 q0 q1 q2
      by_cases m1 : May ⟨s1, v1, l1⟩
      · by_cases m2 : May ⟨s2, v2, l2⟩
        · rw [decide_eq_true m1, decide_eq_true m2]
          cases E
          · have hab := decide_eq_false_iff_not.1 HE.out.symm
            have hne : strOfNums (pv ⟨s1, v1, l1⟩) ≠ strOfNums (pv ⟨s2, v2, l2⟩) := fun e => by
              have h := str_inj (pv_bytes _) (pv_bytes _) e
              rw [pv, if_pos m1, pv, if_pos m2] at h
              exact hab (pS_inj m1 m2 h)
            obtain ⟨S, hS⟩ : ∃ S, S = strOfNums (pv ⟨s1, v1, l1⟩) := ⟨_, rfl⟩
            obtain ⟨T, hT⟩ : ∃ S, S = strOfNums (pv ⟨s2, v2, l2⟩) := ⟨_, rfl⟩
            rw [← hS] at hcx hne
            rw [← hT] at hcy hne
            have hee := str_ne hne
            clear hab hS hT m1 m2 hne HE
            go_wp2_with fail
            go_ret
            exact ⟨ret_bool (by first | rfl | simp), HB12.out⟩
          · have hab := decide_eq_true_iff.1 HE.out.symm
            rw [← hab] at hcy
            obtain ⟨S, hS⟩ : ∃ S, S = strOfNums (pv ⟨s1, v1, l1⟩) := ⟨_, rfl⟩
            rw [← hS] at hcx hcy
            have hee : (S.toList == S.toList) = true := by simp
            clear hab hS m1 m2 HE
            go_wp2_with fail
            go_ret
            exact ⟨ret_bool (by first | rfl | simp), HB12.out⟩
        · rw [decide_eq_true m1, decide_eq_false m2]
          clear m1 m2 hcx hcy HE
          cases E
          all_goals
            go_wp2_with fail
            go_ret
            exact ⟨ret_bool (by first | rfl | simp), HB12.out⟩
      · rw [decide_eq_false m1]
        obtain ⟨M2, hM2⟩ : ∃ M, M = decide (May ⟨s2, v2, l2⟩) := ⟨_, rfl⟩
        rw [← hM2]
        clear m1 hM2 hcx hcy HE
        cases E
        all_goals
          go_wp2_with fail
          go_ret
          exact ⟨ret_bool (by first | rfl | simp), HB12.out⟩
  · have hw : P = false ∨ (P = true ∧ Q = false) := by cases P <;> cases Q <;> simp_all
    clear hpq
    rcases hw with rfl | ⟨rfl, rfl⟩
    all_goals
      go_wp2_with fail
      go_ret
      exact ⟨ret_bool (by first | rfl | simp), HB0.out⟩

theorem same_walk (s1 : ByteArray) (v1 : Int) (a1 : Option Addr) (n1 c1 : Nat) (s2 : ByteArray) (v2 : Int) (a2 : Option Addr) (n2 c2 : Nat) (fs : ByteArray) (fk : Int) (w : World)
    (h1 : Op.ArgS w s1 v1 a1 n1 c1) (h2 : Op.ArgS w s2 v2 a2 n2 c2) (h3 : fs.size ≤ maxLen) :
    Calls Try.prog 7 #[.agg #[.string s1, .int .i64 v1, .slice a1 n1 c1], .agg #[.string s2, .int .i64 v2, .slice a2 n2 c2], .agg #[.string fs, .int .i64 fk]] w fun e w' => e = .returned (.bool true) ∧ Below w.heap.size w w' := by
  obtain ⟨l1, e1, g1, f1⟩ := h1
  obtain ⟨l2, e2, g2, f2⟩ := h2
  exact same_walk' s1 s2 fs v1 v2 fk a1 a2 n1 n2 c1 c2 l1 l2 w ⟨e1, e2, g1, g2, f1, f2, h3⟩
end Go.Proofs.Ytjbpacciaeifaaa.Sc
