/- The walk of EventNone: of a schema, or an event, that may not be, of another name, and with a value more, no event is valid; the parts lie where they say. -/
import Derived.Test.YtbakhodijhacoaaEventAwake
import Derived.Test.YtbakhodijhacoaaEventFew
import Derived.Test.YtbakhodijhacoaaOpenEvent
import Derived.Test.YtbakhodijhacoaaOpenSchema
import Derived.Test.YtbakhodijhacoaaOpenValue
import Derived.Test.YtbakhodijhacoaaValueEq
namespace Go.Proofs.Ytbakhodijhacoaa.Ev
open Go.RowKit Go.Proofs.Ytbakhodijhacoaa.BM Go.Proofs.Ytbakhodijhacoaa.LM Go.Proofs.Ytbakhodijhacoaa.EvM
open Go.Proofs.Ytbakhodijhacoaa.VaM (V Rng e0)
open Go.Proofs.Ytbakhodijhacoaa.Va (SlV slV_len bx_new_t bx_set2 Bx ret_v slV_grown own_slV op_append_v one_new rng_of encV KV)
open Go.Proofs.Ytbakhodijhacoaa.RG (own_is)
open Go.Proofs.Ytbakhodijhacoaa.Sc (SlF slF_len grown_set)
open Go.Proofs.Ytbakhodijhacoaa.ScM (Sc)

theorem valid_more {s : Sc} {e : Ev} (x : V) (h : valid s e = 0) : valid s ⟨e.s, e.t, e.v ++ [x]⟩ ≠ 0 := by
  intro h2
  have hl : ∀ {u : Ev}, valid s u = 0 → s.f.length = u.v.length := fun {u} k => by
    by_cases k1 : ScM.May s ∧ May u
    · by_cases k2 : s.s = u.s
      · by_cases k3 : s.f.length = u.v.length
        · exact k3
        · rw [valid_l k1 k2 k3] at k
          cases k
      · rw [valid_3 k1 k2] at k
        cases k
    · rw [valid_1 k1] at k
      cases k
  have h3 := hl h
  have h4 := hl h2
  simp only [List.length_append, List.length_cons, List.length_nil] at h4
  omega

/-- One value in a block of its own stays there. -/
theorem oneg_grown {w w' : World} {r : Option Nat} {A : Option Addr} {l : List V} {c : Nat} (h : RG.SlG KV (fun _ => True) w A l c) (hg : w.grownBy w' r) (hr : ∀ a k, A = some a → r = some k → k ≠ a.block) : RG.SlG KV (fun _ => True) w' A l c := by
  obtain ⟨⟨vs, h1, h2⟩, h3⟩ := h
  refine ⟨⟨vs, fun hx => ?_, RG.Elems.map (w := w) (w' := w') (p := fun _ => True) (q := fun _ => True) (fun _ _ h => h) h2⟩, h3⟩
  obtain ⟨g, o, e, hc⟩ := h1 hx
  exact ⟨g, o, e, fun j u hj => hg.cell (hc j u hj) (fun e' => hr _ g e e'.symm rfl)⟩

/-- A schema, an event and a value that came in, as the walk meets them. -/
structure Trio (w : World) (s1 se sv : ByteArray) (v1 te kk nn : Int) (a1 ae : Option Addr) (n1 ne c1 ce : Nat) (l1 : List ScM.F) (m : List V) : Prop where
  e1 : l1.length = n1
  e3 : m.length = ne
  h1 : SlF w a1 l1 c1
  h3 : SlV w ae m ce
  f1 : Sc.Fine ⟨s1, v1, l1⟩
  f3 : Fine ⟨se, te, m⟩
  f4 : sv.size ≤ maxLen ∧ Rng ⟨kk, nn, sv⟩

set_option maxRecDepth 100000 in
set_option maxHeartbeats 8000000 in
theorem none_walk' (s1 se sv : ByteArray) (v1 te kk nn : Int) (a1 ae : Option Addr) (n1 ne c1 ce : Nat) (l1 : List ScM.F) (m : List V) (w : World) (h : Trio w s1 se sv v1 te kk nn a1 ae n1 ne c1 ce l1 m) :
    Calls Try.prog 8 #[.agg #[.string s1, .int .i64 v1, .slice a1 n1 c1], .agg #[.string se, .int .i64 te, .slice ae ne ce], .agg #[.int .i64 kk, .int .i64 nn, .string sv]] w fun e w' => e = .returned (.bool true) ∧ Below w.heap.size w w' := by
  have hF := fun W (hW : Below w.heap.size w W) => Few_any ⟨se, te, m⟩ ae ce W (h.h3.kept hW) h.f3.1
  have hV1 := fun W (hW : Below w.heap.size w W) => Valid_any ⟨s1, v1, l1⟩ ⟨se, te, m⟩ a1 c1 ae ce W (h.h1.kept hW) (h.h3.kept hW) h.f1 h.f3
  have hV2 := fun (A : Option Addr) (c : Nat) (W : World) (hW : Below w.heap.size w W) (hA : SlV W A (m ++ [⟨kk, nn, sv⟩]) c) => Valid_any ⟨s1, v1, l1⟩ ⟨se, te, m ++ [⟨kk, nn, sv⟩]⟩ a1 c1 A c W (h.h1.kept hW) hA h.f1 h.f3
  have hM1 := fun W (hW : Below w.heap.size w W) => Sc.May_any ⟨s1, v1, l1⟩ a1 c1 W (h.h1.kept hW) h.f1
  have hM2 := fun W (hW : Below w.heap.size w W) => May_any ⟨se, te, m⟩ ae ce W (h.h3.kept hW) h.f3
  have hlm : (m ++ [(⟨kk, nn, sv⟩ : V)]).length = ne + 1 := by rw [List.length_append, h.e3]; rfl
  have hfg : valid ⟨s1, v1, l1⟩ ⟨se, te, m⟩ = 0 → valid ⟨s1, v1, l1⟩ ⟨se, te, m ++ [⟨kk, nn, sv⟩]⟩ ≠ 0 := fun k => valid_more (e := ⟨se, te, m⟩) ⟨kk, nn, sv⟩ k
  have hw1 := fun k => @valid_1 ⟨s1, v1, l1⟩ ⟨se, te, m⟩ k
  have hw3 := fun k k2 => @valid_3 ⟨s1, v1, l1⟩ ⟨se, te, m⟩ k k2
  obtain ⟨E, hE⟩ : ∃ E, E = valid ⟨s1, v1, l1⟩ ⟨se, te, m⟩ := ⟨_, rfl⟩
  obtain ⟨G, hG⟩ : ∃ E, E = valid ⟨s1, v1, l1⟩ ⟨se, te, m ++ [⟨kk, nn, sv⟩]⟩ := ⟨_, rfl⟩
  obtain ⟨P, hP⟩ : ∃ P, P = decide (Few ⟨se, te, m⟩) := ⟨_, rfl⟩
  obtain ⟨I, hI⟩ : ∃ P, P = decide (ScM.May ⟨s1, v1, l1⟩) := ⟨_, rfl⟩
  obtain ⟨J, hJ⟩ : ∃ P, P = decide (May ⟨se, te, m⟩) := ⟨_, rfl⟩
  have hIJ : (I = true ∧ J = true) ↔ (ScM.May ⟨s1, v1, l1⟩ ∧ May ⟨se, te, m⟩) := by rw [hI, hJ, decide_eq_true_iff, decide_eq_true_iff]
  simp only [h.e1, h.e3, hlm, ← hE, ← hG, ← hP, ← hI, ← hJ] at hF hV1 hV2 hM1 hM2
  rw [← hE, ← hG] at hfg
  rw [← hE, ← hIJ] at hw1 hw3
  have hb1 := slF_len h.h1
  have hb3 := slV_len h.h3
  rw [h.e1] at hb1
  rw [h.e3] at hb3
  have hsz1 := h.f1.1
  have hszv := h.f4.1
  unfold maxLen at hsz1 hszv
  simp only at hsz1
  have HF := Lib.hid hF
  have HV1 := Lib.hid hV1
  have HV2 := Lib.hid hV2
  have HM1 := Lib.hid hM1
  have HM2 := Lib.hid hM2
  have HFg := Lib.hid hfg
  have HW1 := Lib.hid hw1
  have HW3 := Lib.hid hw3
  have HP := Lib.hid hP
  have HL3 := Lib.hid h.e3
  have HS3 := Lib.hid h.h3
  have HF4 := Lib.hid h.f4
  have ha1 := (Below.refl w.heap.size w).alloc (Nat.le_refl _) (.cells #[.string s1, .int .i64 v1, .slice a1 n1 c1] 24)
  obtain ⟨u1, hu1⟩ : ∃ u, u = w.alloc (.cells #[.string s1, .int .i64 v1, .slice a1 n1 c1] 24) := ⟨_, rfl⟩
  have hs1 : u1.heap.size = w.heap.size + 1 := by rw [hu1]; simp
  have hx1 := bx_new_t w 24 (.string s1) (.int .i64 v1) (.slice a1 n1 c1)
  rw [← hu1] at ha1 hx1
  have ha2 := (Below.refl u1.heap.size u1).alloc (Nat.le_refl _) (.cells #[.string se, .int .i64 te, .slice ae ne ce] 27)
  have hx2 := bx_new_t u1 27 (.string se) (.int .i64 te) (.slice ae ne ce)
  obtain ⟨u2, hu2⟩ : ∃ u, u = u1.alloc (.cells #[.string se, .int .i64 te, .slice ae ne ce] 27) := ⟨_, rfl⟩
  have hs2 : u2.heap.size = w.heap.size + 2 := by rw [hu2]; simp [hs1]
  rw [← hu2] at ha2 hx2
  have ha3 := (Below.refl u2.heap.size u2).alloc (Nat.le_refl _) (.cells #[.int .i64 kk, .int .i64 nn, .string sv] 44)
  have hx3 := bx_new_t u2 44 (.int .i64 kk) (.int .i64 nn) (.string sv)
  have hx1' := (hx1.kept ha2).kept ha3
  have hx2' := hx2.kept ha3
  have hb := bt ha1 (bt ha2 ha3)
  rw [hs1] at hx2'
  rw [hs2] at hx3
  rw [hu2, hu1] at hx1' hx2' hx3 hb
  have HX1 := Lib.hid hx1'
  have HX2 := Lib.hid hx2'
  have HX3 := Lib.hid hx3
  have HB := Lib.hid hb
  clear ha1 ha2 ha3 hx1 hx2 hx3 hx1' hx2' hb hu1 hu2 hs1 hs2 hF hV1 hV2 hM1 hM2 hlm hfg hw1 hw3 hE hG hP hI hJ hIJ h u1 u2
  go_enter Try.func8, Try.ntmps8
  go_wp2_with fail
  refine (awake_any _).mono ?_
  rintro e w1 ⟨rfl, hb⟩
  have HB1 := Lib.hid (bt HB.out hb)
  have HY1 := Lib.hid (HX1.out.kept hb)
  have HY2 := Lib.hid (HX2.out.kept hb)
  have HY3 := Lib.hid (HX3.out.kept hb)
  clear hb HB HX1 HX2 HX3
  obtain ⟨⟨p0, p1, p2⟩, _⟩ := HY2.out
  go_wp2_with fail
  refine (HF.out _ HB1.out).mono ?_
  rintro e w0 ⟨rfl, hb⟩
  have HB0 := Lib.hid (bt HB1.out hb)
  have HX1 := Lib.hid (HY1.out.kept hb)
  have HX2 := Lib.hid (HY2.out.kept hb)
  have HX3 := Lib.hid (HY3.out.kept hb)
  clear hb HB1 HY1 HY2 HY3 p0 p1 p2 HF
  by_cases hpq : P = true ∧ n1 ≤ 10 ∧ s1.size ≤ 60 ∧ sv.size ≤ 100
  · obtain ⟨rfl, hq1, hq2, hq3⟩ := hpq
    have hn10 : ne ≤ 10 := by
      have h1 := (decide_eq_true_iff.1 HP.out.symm).2.1
      simp only [HL3.out] at h1
      exact h1
    have hd1 : decide ((10 : Int) < (n1 : Int)) = false := by rw [decide_eq_false_iff_not]; omega
    have hd2 : decide ((60 : Int) < (s1.size : Int)) = false := by rw [decide_eq_false_iff_not]; omega
    have hd3 : decide ((100 : Int) < (sv.size : Int)) = false := by rw [decide_eq_false_iff_not]; omega
    have hat := (Below.refl w0.heap.size w0).alloc (Nat.le_refl _) (.cells #[.string se, .int .i64 te, .slice ae ne ce] 27)
    have HD := Lib.hid (bx_new_t w0 27 (.string se) (.int .i64 te) (.slice ae ne ce))
    have HA := Lib.hid hat
    obtain ⟨⟨p0, p1, p2⟩, _⟩ := HX1.out
    obtain ⟨⟨q0, q1, q2⟩, _⟩ := HX2.out
    obtain ⟨⟨r0, r1, r2⟩, _⟩ := HX3.out
    have hxl1 := HX1.out.lt
    have hxl2 := HX2.out.lt
    have hxl3 := HX3.out.lt
    clear hat
    go_wp2_with fail
    obtain ⟨w00, hw00⟩ : ∃ w00, w00 = w0.alloc (.cells #[.string se, .int .i64 te, .slice ae ne ce] 27) := ⟨_, rfl⟩
    rw [← hw00] at HD HA ⊢
    clear hw00 p0 p1 p2 q0 q1 q2 r0 r1 r2
    refine RegB.GS_start (fun x => Below w0.heap.size w0 x) (by kernel_rfl) (by repeat (first | exact Reg.frameless_bodyPost | refine Reg.frameless_then ?_ | refine Reg.frameless_inBlock ?_)) (fun W hW => bt HA.out hW) (fun W hW => ?_)
    have HW := Lib.hid (bt HA.out hW)
    have HBW := Lib.hid (bt HB0.out HW.out)
    have HSW := Lib.hid (HS3.out.kept HBW.out)
    have HDW := Lib.hid (HD.out.kept hW)
    have HXW := Lib.hid (HX1.out.kept HW.out)
    have HYW := Lib.hid (HX2.out.kept HW.out)
    have hult := HDW.out.lt
    have x0 : ∀ x : RegB.At (fun x => Below w0.heap.size w0 x), x.world.cell? ⟨w.heap.size + 1, 2, none⟩ = some (.slice ae ne ce) := fun x => (HX2.out.kept x.ok).1.2.2
    have x1 : ∀ x : RegB.At (fun x => Below w0.heap.size w0 x), x.world.cell? ⟨w.heap.size + 2, 0, none⟩ = some (.int .i64 kk) := fun x => (HX3.out.kept x.ok).1.1
    have x2 : ∀ x : RegB.At (fun x => Below w0.heap.size w0 x), x.world.cell? ⟨w.heap.size + 2, 1, none⟩ = some (.int .i64 nn) := fun x => (HX3.out.kept x.ok).1.2.1
    have x3 : ∀ x : RegB.At (fun x => Below w0.heap.size w0 x), x.world.cell? ⟨w.heap.size + 2, 2, none⟩ = some (.string sv) := fun x => (HX3.out.kept x.ok).1.2.2
    haveI : Nonempty (RegB.At (fun x => Below w0.heap.size w0 x)) := ⟨⟨W, HW.out⟩⟩
    have hwb := HB0.out.size
    clear hW HD HA
    refine RegB.GS_step (i := 0) rfl (by kernel_rfl) (by rfl) (fun K hK => ?_); go_big_quiet_op; refine hK _ ?_; clear hK K
    refine RegB.GS_step (i := 1) rfl (by kernel_rfl) (by rfl) (fun K hK => ?_); go_big_quiet_op; refine hK _ ?_; clear hK K
    refine RegB.GS_step (i := 3) rfl (by kernel_rfl) (by rfl) (fun K hK => ?_); go_big_quiet_op; refine hK _ ?_; clear hK K
    refine RegB.GS_fork (i := 2) (j := 4) rfl rfl (by kernel_rfl) (by rfl) (by rfl) (fun K hK => ?_) (fun K hK => ?_)
    focus
      refine op_append_v (.const (.slice none 0 0)) (.tmp 42) rfl W.heap.size (.slice none 0 0) 0 [] rfl (World.ownsRow_nil _ _ _ _) ae ne ce m rfl HL3.out HSW.out.1 (by omega) (Nat.le_refl _) ?_
      intro u1 v1' hown1 hg1
      simp only [Nat.zero_add, List.nil_append] at hown1
      obtain ⟨Ap, cp, hu1⟩ := own_is hown1
      have hB1 : Below W.heap.size W v1' := (Below.refl _ _).grown hg1 (Nat.le_refl _) (fun q hq => by cases hq)
      refine hK _ _ (bt HW.out hB1) ?_
      clear hK K
      have ha2 := (Below.refl v1'.heap.size v1').alloc (Nat.le_refl _) (.cells #[.int .i64 kk, .int .i64 nn, .string sv] 44)
      have HB2 := Lib.hid (bt hB1 ha2)
      have HO2 := Lib.hid (RegA.own_below hown1 ha2)
      have HOne := Lib.hid (one_new v1' ⟨kk, nn, sv⟩)
      subst hu1
      simp only [Act.put, List.setIfInBounds_toArray, List.set_cons_zero, List.set_cons_succ]
      refine RegB.GS_event (i := 4) rfl (by kernel_rfl) (by rfl) (fun K hK => ?_)
      go_simp
      refine hK _ _ (bt HW.out HB2.out) ?_
      clear hK K
      simp only at HOne
      obtain ⟨bb, hbb⟩ : ∃ b, b = v1'.heap.size := ⟨_, rfl⟩
      obtain ⟨v2', hv2⟩ : ∃ v2, v2 = v1'.alloc (.cells #[.int .i64 kk, .int .i64 nn, .string sv] 44) := ⟨_, rfl⟩
      rw [← hv2] at HB2 HO2 HOne ⊢
      rw [← hbb] at HOne ⊢
      clear hv2 hbb hown1 hg1 hB1 ha2
    rotate_left
    focus
      go_simp
      have ha1 := (Below.refl W.heap.size W).alloc (Nat.le_refl _) (.cells #[.int .i64 kk, .int .i64 nn, .string sv] 44)
      refine hK _ _ (bt HW.out ha1) ?_
      clear hK K
      have hone := one_new W ⟨kk, nn, sv⟩
      have hsf := HSW.out.kept ha1
      refine RegB.GS_event (i := 2) rfl (by kernel_rfl) (by rfl) (fun K hK => ?_)
      refine op_append_v (.const (.slice none 0 0)) (.tmp 42) rfl W.heap.size (.slice none 0 0) 0 [] rfl (World.ownsRow_nil _ _ _ _) ae ne ce m rfl HL3.out hsf.1 (by omega) ha1.size ?_
      intro u1 v2' hown1 hg1
      simp only [Nat.zero_add, List.nil_append] at hown1
      obtain ⟨Ap, cp, hu1⟩ := own_is hown1
      have HB2 := Lib.hid (ha1.grown hg1 ha1.size (fun q hq => by cases hq))
      refine hK _ _ (bt HW.out HB2.out) ?_
      clear hK K
      have HO2 := Lib.hid hown1
      have HOne := Lib.hid (oneg_grown hone hg1 (fun a k _ hk => by cases hk))
      subst hu1
      simp only [Act.put, List.setIfInBounds_toArray, List.set_cons_zero, List.set_cons_succ]
      obtain ⟨bb, hbb⟩ : ∃ b, b = W.heap.size := ⟨_, rfl⟩
      rw [← hbb] at HOne ⊢
      clear ha1 hone hsf hown1 hg1 hbb
    all_goals
      have hszv2 := HB2.out.size
      refine RegB.GS_event (i := 5) rfl (by kernel_rfl) (by rfl) (fun K hK => ?_)
      refine op_append_v (.tmp 43) (.tmp 45) rfl W.heap.size (.slice Ap ne cp) ne m rfl HO2.out (some ⟨bb, 0, none⟩) 1 1 [⟨kk, nn, sv⟩] rfl rfl HOne.out (by omega) hszv2 ?_
      intro u4 v4 hown4 hg4
      obtain ⟨Aq, cq, hu4⟩ := own_is hown4
      have HB4 := Lib.hid (HB2.out.grown hg4 hszv2 (fun q hq => (HO2.out.lt q hq).1))
      refine hK _ _ (bt HW.out HB4.out) ?_
      clear hK K
      subst hu4
      obtain ⟨_, _, he4, hn4, hsl4, hfar4⟩ := own_slV hown4 (fun f hf => by
        rcases List.mem_append.1 hf with h | h
        · exact HS3.out.2 f h
        · obtain rfl := List.mem_singleton.1 h
          exact HF4.out)
      injection he4 with e1 e2 e3
      subst e1
      subst e3
      have HS4 := Lib.hid hsl4
      have HR4 := Lib.hid (fun a ha => (hfar4 a ha).1)
      have hu4 := HDW.out.kept HB4.out
      have HX4 := Lib.hid (HXW.out.kept HB4.out)
      have HY4 := Lib.hid (HYW.out.kept HB4.out)
      have hBw4 := bt HBW.out HB4.out
      clear hown4 hg4 hsl4 hfar4 e2 hn4 HO2 HOne hszv2 HB2
      simp only [Act.put, List.setIfInBounds_toArray, List.set_cons_zero, List.set_cons_succ]
      refine RegB.GS_step (i := 6) rfl (by kernel_rfl) (by rfl) (fun K hK => ?_); go_big_quiet_op; refine hK _ ?_; clear hK K
      have HB5 := Lib.hid (hBw4.setCell (p := ⟨w0.heap.size, 2, none⟩) hwb (.slice Aq (ne + 1) cq))
      have HD5 := Lib.hid (bx_set2 hu4 (.slice Aq (ne + 1) cq))
      have HX5 := Lib.hid (HX4.out.off (p := ⟨w0.heap.size, 2, none⟩) (by simp only; omega) (.slice Aq (ne + 1) cq))
      have HY5 := Lib.hid (HY4.out.off (p := ⟨w0.heap.size, 2, none⟩) (by simp only; omega) (.slice Aq (ne + 1) cq))
      have HS5 := Lib.hid (slV_grown HS4.out (grown_set v4 w0.heap.size 2 (.slice Aq (ne + 1) cq)) (fun a ha => by have := HR4.out a ha; omega))
      have hS5 := (bt HW.out HB4.out).setCell (p := ⟨w0.heap.size, 2, none⟩) (Nat.le_refl _) (.slice Aq (ne + 1) cq)
      obtain ⟨⟨_, _, y2⟩, _, _, y5⟩ := hu4
      refine RegB.GS_event (i := 7) rfl (by kernel_rfl) (by rfl) (fun K hK => ?_)
      go_simp
      refine hK _ _ hS5 ?_
      clear hK K
      refine RegB.GS_done (by kernel_rfl) ?_
      obtain ⟨v5, hv5⟩ : ∃ v5, v5 = v4.setCell ⟨w0.heap.size, 2, none⟩ (.slice Aq (ne + 1) cq) := ⟨_, rfl⟩
      rw [← hv5] at HB5 HD5 HX5 HY5 HS5 ⊢
      clear hv5 y2 y5 hS5 HS4 HR4 HX4 HY4 HB4 hBw4 x0 x1 x2 x3
      obtain ⟨⟨p0, p1, p2⟩, _⟩ := HX5.out
      obtain ⟨⟨q0, q1, q2⟩, _⟩ := HY5.out
      go_wp2_with fail
      refine (HV1.out _ HB5.out).mono ?_
      rintro e w6 ⟨rfl, hb6⟩
      have HB6 := Lib.hid (bt HB5.out hb6)
      have HS6 := Lib.hid (HS5.out.kept hb6)
      have HX6 := Lib.hid (HX5.out.kept hb6)
      have HY6 := Lib.hid (HY5.out.kept hb6)
      have HD6 := Lib.hid (HD5.out.kept hb6)
      clear hb6 p0 p1 p2 q0 q1 q2 HS5 HX5 HY5 HD5 HB5
      obtain ⟨⟨p0, p1, p2⟩, _⟩ := HX6.out
      obtain ⟨⟨q0, q1, q2⟩, _⟩ := HD6.out
      go_wp2_with fail
      refine (HV2.out _ _ _ HB6.out HS6.out).mono ?_
      rintro e w7 ⟨rfl, hb7⟩
      have HB7 := Lib.hid (bt HB6.out hb7)
      have HX7 := Lib.hid (HX6.out.kept hb7)
      have HY7 := Lib.hid (HY6.out.kept hb7)
      clear hb7 p0 p1 p2 q0 q1 q2 HS6 HX6 HY6 HD6 HB6
      obtain ⟨⟨p0, p1, p2⟩, _⟩ := HX7.out
      go_wp2_with fail
      refine (HM1.out _ HB7.out).mono ?_
      rintro e w8 ⟨rfl, hb8⟩
      have HB8 := Lib.hid (bt HB7.out hb8)
      have HX8 := Lib.hid (HX7.out.kept hb8)
      have HY8 := Lib.hid (HY7.out.kept hb8)
      clear hb8 p0 p1 p2 HX7 HY7 HB7
      cases I
      · have he1 := HW1.out (fun h => by cases h.1)
        subst he1
        go_wp2_with fail
        go_ret
        exact ⟨ret_bool (by first | rfl | simp), HB8.out⟩
      · obtain ⟨⟨q0, q1, q2⟩, _⟩ := HY8.out
        go_wp2_with fail
        refine (HM2.out _ HB8.out).mono ?_
        rintro e w9 ⟨rfl, hb9⟩
        have HB9 := Lib.hid (bt HB8.out hb9)
        have HX9 := Lib.hid (HX8.out.kept hb9)
        have HY9 := Lib.hid (HY8.out.kept hb9)
        clear hb9 q0 q1 q2 HX8 HY8 HB8
        cases J
        · have he1 := HW1.out (fun h => by cases h.2)
          subst he1
          go_wp2_with fail
          go_ret
          exact ⟨ret_bool (by first | rfl | simp), HB9.out⟩
        · obtain ⟨⟨p0, p1, p2⟩, _⟩ := HX9.out
          obtain ⟨⟨q0, q1, q2⟩, _⟩ := HY9.out
          by_cases g1 : s1 = se
          · subst g1
            have ee : (s1.toList == s1.toList) = true := by simp
            by_cases g2 : E = 0
            · have HG3 := Lib.hid (show ¬ (G = 0) from HFg.out g2)
              subst g2
              go_wp2_with fail
              go_ret
              exact ⟨ret_bool (by simpa using HG3.out), HB9.out⟩
            · go_wp2_with fail
              go_ret
              exact ⟨ret_bool (by first | rfl | simp), HB9.out⟩
          · have ee := str_ne g1
            have he3 := HW3.out (by simp) g1
            subst he3
            clear g1
            go_wp2_with fail
            go_ret
            exact ⟨ret_bool (by first | rfl | simp), HB9.out⟩
  · have hw : P = false ∨ (P = true ∧ 10 < n1) ∨ (P = true ∧ n1 ≤ 10 ∧ 60 < s1.size) ∨ (P = true ∧ n1 ≤ 10 ∧ s1.size ≤ 60 ∧ 100 < sv.size) := by
      cases P
      · exact Or.inl rfl
      · right
        simp only [true_and] at hpq ⊢
        omega
    clear hpq
    obtain ⟨⟨p0, p1, p2⟩, _⟩ := HX1.out
    obtain ⟨⟨r0, r1, r2⟩, _⟩ := HX3.out
    rcases hw with rfl | ⟨rfl, h1⟩ | ⟨rfl, h1, h2⟩ | ⟨rfl, h1, h2, h3⟩
    · go_wp2_with fail
      go_ret
      exact ⟨ret_bool (by first | rfl | simp), HB0.out⟩
    · have hd1 : decide ((10 : Int) < (n1 : Int)) = true := by rw [decide_eq_true_iff]; omega
      go_wp2_with fail
      go_ret
      exact ⟨ret_bool (by first | rfl | simp), HB0.out⟩
    · have hd1 : decide ((10 : Int) < (n1 : Int)) = false := by rw [decide_eq_false_iff_not]; omega
      have hd2 : decide ((60 : Int) < (s1.size : Int)) = true := by rw [decide_eq_true_iff]; omega
      go_wp2_with fail
      go_ret
      exact ⟨ret_bool (by first | rfl | simp), HB0.out⟩
    · have hd1 : decide ((10 : Int) < (n1 : Int)) = false := by rw [decide_eq_false_iff_not]; omega
      have hd2 : decide ((60 : Int) < (s1.size : Int)) = false := by rw [decide_eq_false_iff_not]; omega
      have hd3 : decide ((100 : Int) < (sv.size : Int)) = true := by rw [decide_eq_true_iff]; omega
      go_wp2_with fail
      go_ret
      exact ⟨ret_bool (by first | rfl | simp), HB0.out⟩

theorem none_walk (s1 : ByteArray) (v1 : Int) (a1 : Option Addr) (n1 c1 : Nat) (se : ByteArray) (te : Int) (ae : Option Addr) (ne ce : Nat) (kk nn : Int) (sv : ByteArray) (w : World)
    (h1 : Op.ArgS w s1 v1 a1 n1 c1) (h3 : Op.ArgE w se te ae ne ce) (h4 : (Lit.int .i64 kk).wf = true ∧ (Lit.int .i64 nn).wf = true ∧ sv.size ≤ maxLen) :
    Calls Try.prog 8 #[.agg #[.string s1, .int .i64 v1, .slice a1 n1 c1], .agg #[.string se, .int .i64 te, .slice ae ne ce], .agg #[.int .i64 kk, .int .i64 nn, .string sv]] w fun e w' => e = .returned (.bool true) ∧ Below w.heap.size w w' := by
  obtain ⟨l1, e1, g1, f1⟩ := h1
  obtain ⟨m, e3, g3, f3⟩ := h3
  exact none_walk' s1 se sv v1 te kk nn a1 ae n1 ne c1 ce l1 m w ⟨e1, e3, g1, g3, f1, f3, h4.2.2, rng_of h4.2.1⟩
end Go.Proofs.Ytbakhodijhacoaa.Ev
