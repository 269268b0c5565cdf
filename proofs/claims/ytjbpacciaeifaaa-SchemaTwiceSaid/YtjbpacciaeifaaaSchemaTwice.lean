/- The walk of SchemaTwice: no schema that may be has two fields of one name; without its last field it may be still; the schema's parts lie where they say. -/
import Derived.Test.YtjbpacciaeifaaaSchemaAwake
import Derived.Test.YtjbpacciaeifaaaOpenSchema
namespace Go.Proofs.Ytjbpacciaeifaaa.Sc
open Go.RowKit Go.Proofs.Ytjbpacciaeifaaa.BM Go.Proofs.Ytjbpacciaeifaaa.LM Go.Proofs.Ytjbpacciaeifaaa.VaM Go.Proofs.Ytjbpacciaeifaaa.Va Go.Proofs.Ytjbpacciaeifaaa.ScM

theorem may_take {s : ByteArray} {v : Int} {l : List F} (h : May ⟨s, v, l⟩) (k : Nat) : May ⟨s, v, l.take k⟩ := by
  obtain ⟨h1, h2, h3, h4, h5⟩ := h
  simp only at h2 h3 h4 h5
  refine ⟨h1, h2, h3, by simp only [List.length_take]; omega, fun i hi => ?_⟩
  simp only [List.length_take] at hi ⊢
  have h6 := h5 i (by omega)
  have e : l = l.take k ++ l.drop k := (List.take_append_drop k l).symm
  rw [e] at h6
  exact (gdAt_app (by rw [List.length_take]; omega)).1 h6

theorem may_twice {s : ByteArray} {v : Int} {l : List F} {f : F} (hf : f ∈ l) : ¬ May ⟨s, v, l ++ [f]⟩ := by
  rintro ⟨_, _, _, _, h5⟩
  have h6 := (h5 l.length (by simp)).2
  simp only at h6
  have e : (l ++ [f]).getD l.length d0 = f := by simp [List.getD_eq_getElem?_getD]
  rw [e, List.take_left] at h6
  exact h6 ⟨f, hf, rfl⟩

set_option maxRecDepth 100000 in
set_option maxHeartbeats 1000000 in
theorem twice_no (s : ByteArray) (v : Int) (a : Option Addr) (n cap : Nat) (l : List F) (w : World) (hlen : l.length = n) (hS : SlF w a l cap) (hfine : Fine ⟨s, v, l⟩) (hno : ¬ (Few ⟨s, v, l⟩ ∧ May ⟨s, v, l⟩ ∧ n ≠ 0)) :
    Calls Try.prog 8 #[.agg #[.string s, .int .i64 v, .slice a n cap]] w fun e w' => e = .returned (.bool true) ∧ Below w.heap.size w w' := by
  have hl := slF_len hS
  have hF := fun W (hW : Below w.heap.size w W) => Few_any ⟨s, v, l⟩ a cap W (hS.kept hW) hfine.1
  have hM := fun W (hW : Below w.heap.size w W) => May_any ⟨s, v, l⟩ a cap W (hS.kept hW) hfine
  simp only [hlen] at hF hM
  rw [hlen] at hl
  have HF := Lib.hid hF
  have HM := Lib.hid hM
  have HNo := Lib.hid hno
  have HX := Lib.hid (bx_new_t w 24 (.string s) (.int .i64 v) (.slice a n cap))
  have HB := Lib.hid ((Below.refl w.heap.size w).alloc (Nat.le_refl _) (.cells #[.string s, .int .i64 v, .slice a n cap] 24))
  clear hF hM hS hfine hlen hno
  go_enter Try.func8, Try.ntmps8
  go_wp2_with fail
  refine (awake_any _).mono ?_
  rintro e w1 ⟨rfl, hb⟩
  have HX1 := Lib.hid (HX.out.kept hb)
  have HB1 := Lib.hid (bt HB.out hb)
  clear hb HX HB
  obtain ⟨⟨p0, p1, p2⟩, _⟩ := HX1.out
  go_wp2_with fail
  refine (HF.out _ HB1.out).mono ?_
  rintro e w2 ⟨rfl, hb⟩
  have HX2 := Lib.hid (HX1.out.kept hb)
  have HB2 := Lib.hid (bt HB1.out hb)
  clear hb HX1 HB1 p0 p1 p2 HF
  by_cases hfw : Few ⟨s, v, l⟩
  · rw [decide_eq_true hfw]
    have HFw := Lib.hid hfw
    clear hfw
    obtain ⟨⟨p0, p1, p2⟩, _⟩ := HX2.out
    go_wp2_with fail
    refine (HM.out _ HB2.out).mono ?_
    rintro e w3 ⟨rfl, hb⟩
    clear p0 p1 p2
    obtain ⟨⟨p0, p1, p2⟩, _⟩ := HX2.out.kept hb
    have HB3 := Lib.hid (bt HB2.out hb)
    clear hb HX2 HB2 HM
    by_cases hm : May ⟨s, v, l⟩
    · rw [decide_eq_true hm]
      obtain rfl : n = 0 := Classical.byContradiction fun h => HNo.out ⟨HFw.out, hm, h⟩
      clear hm
      go_wp2_with fail
      go_ret
      exact ⟨ret_bool (by first | rfl | simp), HB3.out⟩
    · rw [decide_eq_false hm]
      clear hm
      go_wp2_with fail
      go_ret
      exact ⟨ret_bool (by first | rfl | simp), HB3.out⟩
  · rw [decide_eq_false hfw]
    clear hfw
    go_wp2_with fail
    go_ret
    exact ⟨ret_bool (by first | rfl | simp), HB2.out⟩

set_option maxRecDepth 100000 in
set_option maxHeartbeats 4000000 in
theorem twice_yes (s : ByteArray) (v : Int) (a : Option Addr) (n cap : Nat) (l : List F) (w : World) (hlen : l.length = n) (hS : SlF w a l cap) (hfine : Fine ⟨s, v, l⟩) (hfew : Few ⟨s, v, l⟩) (hmay : May ⟨s, v, l⟩) (hn0 : 0 < n) :
    Calls Try.prog 8 #[.agg #[.string s, .int .i64 v, .slice a n cap]] w fun e w' => e = .returned (.bool true) ∧ Below w.heap.size w w' := by
  have hl6 := hmay.2.2.2.1
  have hv1 := hmay.2.1
  have hv2 := hmay.2.2.1
  simp only [hlen] at hl6 hv1 hv2
  have hcapn := hS.2.1
  rw [hlen] at hcapn
  have hF := fun W (hW : Below w.heap.size w W) => Few_any ⟨s, v, l⟩ a cap W (hS.kept hW) hfine.1
  have hM := fun W (hW : Below w.heap.size w W) => May_any ⟨s, v, l⟩ a cap W (hS.kept hW) hfine
  have hMt := fun W (hW : Below w.heap.size w W) => May_any ⟨s, v, l.take (n - 1)⟩ a cap W ((hS.kept hW).take _) ⟨hfine.1, hfine.2.1, hfine.2.2⟩
  have hlt : (l.take (n - 1)).length = n - 1 := by rw [List.length_take]; omega
  simp only [decide_eq_true hfew] at hF
  simp only [decide_eq_true hmay] at hM
  simp only [decide_eq_true (may_take hmay (n - 1))] at hMt
  simp only [hlen] at hF hM
  simp only [hlt] at hMt
  have HMt := Lib.hid hMt
  have HF := Lib.hid hF
  have HM := Lib.hid hM
  have hcut := fun W => cut_f W a n cap (n - 1) (by omega)
  rw [show ((n - 1 : Nat) : Int) = (n : Int) - 1 from by omega] at hcut
  obtain ⟨n1, hn1⟩ : ∃ m, m = n - 1 := ⟨_, rfl⟩
  simp only [← hn1] at hcut HMt
  obtain ⟨b, q, hix, hcf, hszf⟩ := hS.at 0 (by omega)
  have hi0 : ∀ W, (Instr.indexAt 22 (.slice a n cap) (.int .i64 0)).run Try.prog W = .ok (.pointer (some ⟨b, q, none⟩)) W := fun W => hix W n cap hn0
  obtain ⟨⟨fs, fk⟩, hf⟩ : ∃ f, f = l.getD 0 d0 := ⟨_, rfl⟩
  rw [← hf] at hcf hszf
  have hmem : (⟨fs, fk⟩ : F) ∈ l := by rw [hf]; exact getD_mem (by omega)
  have HTw := Lib.hid (may_twice (s := s) (v := v) hmem)
  have HCf := Lib.hid hcf
  have HS := Lib.hid hS
  have HLen := Lib.hid hlen
  have HMay := Lib.hid hmay
  have HFine := Lib.hid hfine
  have HSzf := Lib.hid hszf
  have HX := Lib.hid (bx_new_t w 24 (.string s) (.int .i64 v) (.slice a n cap))
  have HB := Lib.hid ((Below.refl w.heap.size w).alloc (Nat.le_refl _) (.cells #[.string s, .int .i64 v, .slice a n cap] 24))
  clear hF hM hMt hlt hS hfine hlen hfew hmay hn1 hix hcf hszf hf hmem
  go_enter Try.func8, Try.ntmps8
  go_wp2_with fail
  refine (awake_any _).mono ?_
  rintro e w1 ⟨rfl, hb⟩
  have HX1 := Lib.hid (HX.out.kept hb)
  have HB1 := Lib.hid (bt HB.out hb)
  clear hb HX HB
  obtain ⟨⟨p0, p1, p2⟩, _⟩ := HX1.out
  go_wp2_with fail
  refine (HF.out _ HB1.out).mono ?_
  rintro e w2 ⟨rfl, hb⟩
  have HX2 := Lib.hid (HX1.out.kept hb)
  have HB2 := Lib.hid (bt HB1.out hb)
  clear hb HX1 HB1 p0 p1 p2 HF
  obtain ⟨⟨p0, p1, p2⟩, _⟩ := HX2.out
  go_wp2_with fail
  refine (HM.out _ HB2.out).mono ?_
  rintro e w0 ⟨rfl, hb⟩
  have HX0 := Lib.hid (HX2.out.kept hb)
  have HB0 := Lib.hid (bt HB2.out hb)
  clear hb HX2 HB2 p0 p1 p2 HM
  obtain ⟨⟨p0, p1, p2⟩, _⟩ := HX0.out
  have hxl := HX0.out.lt
  have hnz : ((n : Int) == 0) = false := by rw [beq_eq_false_iff_ne]; omega
  have hat := (Below.refl w0.heap.size w0).alloc (Nat.le_refl _) (.cells #[.string s, .int .i64 v, .slice a n1 cap] 24)
  have hau := (Below.refl (w0.alloc (.cells #[.string s, .int .i64 v, .slice a n1 cap] 24)).heap.size (w0.alloc (.cells #[.string s, .int .i64 v, .slice a n1 cap] 24))).alloc (Nat.le_refl _) (.cells #[.string s, .int .i64 v, .slice a n cap] 24)
  have hux := bx_new_t (w0.alloc (.cells #[.string s, .int .i64 v, .slice a n1 cap] 24)) 24 (.string s) (.int .i64 v) (.slice a n cap)
  rw [show (w0.alloc (.cells #[.string s, .int .i64 v, .slice a n1 cap] 24)).heap.size = w0.heap.size + 1 from by simp] at hux
  have HU := Lib.hid hux
  have HT := Lib.hid ((bx_new_t w0 24 (.string s) (.int .i64 v) (.slice a n1 cap)).kept hau)
  have HA := Lib.hid (bt hat hau)
  clear hat hau hux
  go_wp2_with fail
  obtain ⟨w00, hw00⟩ : ∃ w00, w00 = (w0.alloc (.cells #[.string s, .int .i64 v, .slice a n1 cap] 24)).alloc (.cells #[.string s, .int .i64 v, .slice a n cap] 24) := ⟨_, rfl⟩
  rw [← hw00] at HU HT HA ⊢
  clear hw00 p0 p1 p2
  refine RegB.GS_start (fun x => Below w0.heap.size w0 x) (by kernel_rfl) (by repeat (first | exact Reg.frameless_bodyPost | refine Reg.frameless_then ?_ | refine Reg.frameless_inBlock ?_)) (fun W hW => bt HA.out hW) (fun W hW => ?_)
  have HW := Lib.hid (bt HA.out hW)
  have HBW := Lib.hid (bt HB0.out HW.out)
  have HSW := Lib.hid (HS.out.kept HBW.out)
  have HTW := Lib.hid (HT.out.kept hW)
  have HUW := Lib.hid (HU.out.kept hW)
  have HXW := Lib.hid (HX0.out.kept HW.out)
  have hult := HUW.out.lt
  have x0 : ∀ x : RegB.At (fun x => Below w0.heap.size w0 x), x.world.cell? ⟨w.heap.size, 2, none⟩ = some (.slice a n cap) := fun x => (HX0.out.kept x.ok).1.2.2
  have x1 : ∀ x : RegB.At (fun x => Below w0.heap.size w0 x), x.world.cell? ⟨b, q, none⟩ = some (.string fs) := fun x => (HCf.out x.world (bt HB0.out x.ok)).1
  have x2 : ∀ x : RegB.At (fun x => Below w0.heap.size w0 x), x.world.cell? ⟨b, q + 1, none⟩ = some (.int .i64 fk) := fun x => (HCf.out x.world (bt HB0.out x.ok)).2
  haveI : Nonempty (RegB.At (fun x => Below w0.heap.size w0 x)) := ⟨⟨W, HW.out⟩⟩
  have hwb := HB0.out.size
  clear hW HU HT HA
  refine RegB.GS_step (i := 0) rfl (by kernel_rfl) (by rfl) (fun K hK => ?_); go_big_quiet_op; refine hK _ ?_; clear hK K
  refine RegB.GS_step (i := 1) rfl (by kernel_rfl) (by rfl) (fun K hK => ?_); go_big_quiet_op; refine hK _ ?_; clear hK K
  refine RegB.GS_step (i := 3) rfl (by kernel_rfl) (by rfl) (fun K hK => ?_); go_big_quiet_op; refine hK _ ?_; clear hK K
  refine RegB.GS_step (i := 4) rfl (by kernel_rfl) (by rfl) (fun K hK => ?_); go_big_quiet_op; refine hK _ ?_; clear hK K
  refine RegB.GS_step (i := 5) rfl (by kernel_rfl) (by rfl) (fun K hK => ?_); go_big_quiet_op; refine hK _ ?_; clear hK K
  refine RegB.GS_step (i := 6) rfl (by kernel_rfl) (by rfl) (fun K hK => ?_); go_big_quiet_op; refine hK _ ?_; clear hK K
  refine RegB.GS_fork (i := 2) (j := 7) rfl rfl (by kernel_rfl) (by rfl) (by rfl) (fun K hK => ?_) (fun K hK => ?_)
  focus
    refine op_append_a (.const (.slice none 0 0)) (.tmp 40) rfl W.heap.size (.slice none 0 0) 0 [] rfl (World.ownsRow_nil _ _ _ _) a n cap l rfl HLen.out HSW.out.1 HSW.out.2.2.1 (by omega) (Nat.le_refl _) ?_
    intro u1 v1 hown1 hg1
    simp only [Nat.zero_add, List.nil_append] at hown1
    obtain ⟨Ap, cp, hu1⟩ := own_is hown1
    have hB1 : Below W.heap.size W v1 := (Below.refl _ _).grown hg1 (Nat.le_refl _) (fun q hq => by cases hq)
    refine hK _ _ (bt HW.out hB1) ?_
    clear hK K
    have ha2 := (Below.refl v1.heap.size v1).alloc (Nat.le_refl _) (.cells #[.string fs, .int .i64 fk] 37)
    have HB2 := Lib.hid (bt hB1 ha2)
    have HO2 := Lib.hid (RegA.own_below hown1 ha2)
    have HOne := Lib.hid (isF_new v1 fs fk)
    subst hu1
    simp only [Act.put, List.setIfInBounds_toArray, List.set_cons_zero, List.set_cons_succ]
    refine RegB.GS_event (i := 7) rfl (by kernel_rfl) (by rfl) (fun K hK => ?_)
    go_simp
    refine hK _ _ (bt HW.out HB2.out) ?_
    clear hK K
    obtain ⟨bb, hbb⟩ : ∃ b, b = v1.heap.size := ⟨_, rfl⟩
    obtain ⟨v2, hv2⟩ : ∃ v2, v2 = v1.alloc (.cells #[.string fs, .int .i64 fk] 37) := ⟨_, rfl⟩
    rw [← hv2] at HB2 HO2 HOne ⊢
    rw [← hbb] at HOne ⊢
    clear hv2 hbb hown1 hg1 hB1 ha2
  rotate_left
  focus
    go_simp
    have ha1 := (Below.refl W.heap.size W).alloc (Nat.le_refl _) (.cells #[.string fs, .int .i64 fk] 37)
    refine hK _ _ (bt HW.out ha1) ?_
    clear hK K
    have hone := isF_new W fs fk
    have hsf := HSW.out.kept ha1
    refine RegB.GS_event (i := 2) rfl (by kernel_rfl) (by rfl) (fun K hK => ?_)
    refine op_append_a (.const (.slice none 0 0)) (.tmp 40) rfl W.heap.size (.slice none 0 0) 0 [] rfl (World.ownsRow_nil _ _ _ _) a n cap l rfl HLen.out hsf.1 hsf.2.2.1 (by omega) ha1.size ?_
    intro u1 v2 hown1 hg1
    simp only [Nat.zero_add, List.nil_append] at hown1
    obtain ⟨Ap, cp, hu1⟩ := own_is hown1
    have HB2 := Lib.hid (ha1.grown hg1 ha1.size (fun q hq => by cases hq))
    refine hK _ _ (bt HW.out HB2.out) ?_
    clear hK K
    have HO2 := Lib.hid hown1
    have HOne := Lib.hid (isF_grown hone hg1 (fun b hb => by cases hb))
    subst hu1
    simp only [Act.put, List.setIfInBounds_toArray, List.set_cons_zero, List.set_cons_succ]
    obtain ⟨bb, hbb⟩ : ∃ b, b = W.heap.size := ⟨_, rfl⟩
    rw [← hbb] at HOne ⊢
    clear ha1 hone hsf hown1 hg1 hbb
  all_goals
    have hszv := HB2.out.size
    refine RegB.GS_event (i := 8) rfl (by kernel_rfl) (by rfl) (fun K hK => ?_)
    refine op_append_f (.tmp 41) (.tmp 46) rfl W.heap.size (.slice Ap n cp) n l rfl HO2.out bb 0 1 1 [⟨fs, fk⟩] rfl rfl HOne.out (by omega) hszv ?_
    intro u4 v4 hown4 hg4
    obtain ⟨Aq, cq, hu4⟩ := own_is hown4
    have HB4 := Lib.hid (HB2.out.grown hg4 hszv (fun q hq => (HO2.out.lt q hq).1))
    refine hK _ _ (bt HW.out HB4.out) ?_
    clear hK K
    subst hu4
    obtain ⟨_, _, he4, hn4, hsl4, hfar4⟩ := own_slF hown4 (fun f hf => by
      rcases List.mem_append.1 hf with h | h
      · exact HS.out.2.2.2.2 f h
      · obtain rfl := List.mem_singleton.1 h
        exact HSzf.out)
    injection he4 with e1 e2 e3
    subst e1
    subst e3
    have HS4 := Lib.hid hsl4
    have HF4 := Lib.hid (fun a ha => (hfar4 a ha).1)
    have hu4 := HUW.out.kept HB4.out
    have HT4 := Lib.hid (HTW.out.kept HB4.out)
    have HX4 := Lib.hid (HXW.out.kept HB4.out)
    have hBw4 := bt HBW.out HB4.out
    have hlt4 := Nat.lt_of_lt_of_le hult HB4.out.size
    clear hown4 hg4 hsl4 hfar4 e2 hn4 HO2 HOne hszv HB2
    simp only [Act.put, List.setIfInBounds_toArray, List.set_cons_zero, List.set_cons_succ]
    refine RegB.GS_step (i := 9) rfl (by kernel_rfl) (by rfl) (fun K hK => ?_); go_big_quiet_op; refine hK _ ?_; clear hK K
    have HB5 := Lib.hid (hBw4.setCell (p := ⟨w0.heap.size + 1, 2, none⟩) (by simp only; omega) (.slice Aq (n + 1) cq))
    have HU5 := Lib.hid (bx_set2 hu4 (.slice Aq (n + 1) cq))
    have HT5 := Lib.hid (HT4.out.off (p := ⟨w0.heap.size + 1, 2, none⟩) (by simp only; omega) (.slice Aq (n + 1) cq))
    have HX5 := Lib.hid (HX4.out.off (p := ⟨w0.heap.size + 1, 2, none⟩) (by simp only; omega) (.slice Aq (n + 1) cq))
    have HS5 := Lib.hid (slF_grown HS4.out (grown_set v4 (w0.heap.size + 1) 2 (.slice Aq (n + 1) cq)) (fun a ha => by have := HF4.out a ha; omega))
    have hS5 := (bt HW.out HB4.out).setCell (p := ⟨w0.heap.size + 1, 2, none⟩) (by simp only; omega) (.slice Aq (n + 1) cq)
    obtain ⟨⟨_, _, y2⟩, _, _, y5⟩ := hu4
    refine RegB.GS_event (i := 10) rfl (by kernel_rfl) (by rfl) (fun K hK => ?_)
    go_simp
    refine hK _ _ hS5 ?_
    clear hK K
    refine RegB.GS_done (by kernel_rfl) ?_
    obtain ⟨v5, hv5⟩ : ∃ v5, v5 = v4.setCell ⟨w0.heap.size + 1, 2, none⟩ (.slice Aq (n + 1) cq) := ⟨_, rfl⟩
    rw [← hv5] at HB5 HU5 HT5 HX5 HS5 ⊢
    clear hv5 y2 y5 hS5 HS4 HF4 HT4 HX4 HB4 hBw4 hlt4 x0 x1 x2
    have hMu := fun W2 (hW2 : Below v5.heap.size v5 W2) => May_any ⟨s, v, l ++ [⟨fs, fk⟩]⟩ Aq cq W2 (HS5.out.kept hW2) ⟨HFine.out.1, HFine.out.2.1, HFine.out.2.2⟩
    have hlu : (l ++ [(⟨fs, fk⟩ : F)]).length = n + 1 := by rw [List.length_append, HLen.out]; rfl
    simp only [hlu, decide_eq_false HTw.out] at hMu
    have HMu := Lib.hid hMu
    clear hMu hlu
    go_wp2_with fail
    go_loopw [7] (fun i wr => ∃ j : Nat, i = .int .i64 j ∧ j ≤ n ∧ Below v5.heap.size v5 wr) (fun i _ => n - (intOf i).toNat)
    case atStart => exact ⟨0, rfl, Nat.zero_le _, Below.refl _ _⟩
    case round =>
      obtain ⟨j, rfl, hj, hbel⟩ := hrel
      have HBl := Lib.hid hbel
      obtain ⟨⟨g0, g1, g2⟩, _⟩ := HX5.out.kept hbel
      clear hbel
      by_cases hjn : j < n
      · obtain ⟨bj, qj, hixj, hcj, hszj⟩ := HS.out.at j (by rw [HLen.out]; exact hjn)
        have hok := HMay.out.fok (getD_mem (l := l) (i := j) (by rw [HLen.out]; exact hjn))
        obtain ⟨⟨gs, gk⟩, hg⟩ : ∃ f, f = l.getD j d0 := ⟨_, rfl⟩
        rw [← hg] at hcj hszj hok
        obtain ⟨c0, _⟩ := hcj wr (bt HB5.out HBl.out)
        obtain ⟨hnm, hk0, hk4⟩ := hok
        simp only at c0 hszj hk0 hk4
        have hnj := fun W2 => Name_any gs W2 hszj
        rw [decide_eq_true hnm] at hnj
        have HNj := Lib.hid hnj
        have hij := fun W2 => hixj W2 n cap hjn
        have HCj := Lib.hid hcj
        have hd1 : decide (gk < 0) = false := by rw [decide_eq_false_iff_not]; omega
        have hd2 : decide ((3 : Int) < gk) = false := by rw [decide_eq_false_iff_not]; omega
        clear hg hcj hixj hnm hnj hszj
        go_wp2_with fail
        refine (HNj.out _).mono ?_
        rintro e w6 ⟨rfl, hb6⟩
        have HB6 := Lib.hid (bt HBl.out hb6)
        clear g0 g1 g2 c0 hb6
        obtain ⟨⟨g0, g1, g2⟩, _⟩ := HX5.out.kept HB6.out
        obtain ⟨_, c1⟩ := HCj.out w6 (bt HB5.out HB6.out)
        simp only at c1
        go_wp2_with fail
        go_roundw
        case rel => exact ⟨j + 1, by go_num, by omega, HB6.out⟩
        case measure => simp [intOf]; omega
      · obtain rfl : j = n := by omega
        obtain ⟨⟨t0, t1, t2⟩, _⟩ := HT5.out.kept HBl.out
        go_wp2_with fail
        refine (HMt.out _ (bt HB5.out HBl.out)).mono ?_
        rintro e w6 ⟨rfl, hb6⟩
        have HB6 := Lib.hid (bt HBl.out hb6)
        clear g0 g1 g2 t0 t1 t2 hb6
        obtain ⟨⟨t0, t1, t2⟩, _⟩ := HU5.out.kept HB6.out
        go_wp2_with fail
        refine (HMu.out _ HB6.out).mono ?_
        rintro e w7 ⟨rfl, hb7⟩
        have HB7 := Lib.hid (bt HB6.out hb7)
        clear t0 t1 t2 hb7
        obtain ⟨⟨g0, g1, g2⟩, _⟩ := HX5.out.kept HB7.out
        go_wp2_with fail
        go_ret
        exact ⟨ret_bool (by first | rfl | simp), bt HB5.out HB7.out⟩

theorem twice_walk (s : ByteArray) (v : Int) (a : Option Addr) (len cap : Nat) (w : World) (hs : Op.ArgS w s v a len cap) :
    Calls Try.prog 8 #[.agg #[.string s, .int .i64 v, .slice a len cap]] w fun e w' => e = .returned (.bool true) ∧ Below w.heap.size w w' := by
  obtain ⟨l, hlen, hS, hfine⟩ := hs
  by_cases h : Few ⟨s, v, l⟩ ∧ May ⟨s, v, l⟩ ∧ len ≠ 0
  · exact twice_yes s v a len cap l w hlen hS hfine h.1 h.2.1 (by omega)
  · exact twice_no s v a len cap l w hlen hS hfine h
end Go.Proofs.Ytjbpacciaeifaaa.Sc
