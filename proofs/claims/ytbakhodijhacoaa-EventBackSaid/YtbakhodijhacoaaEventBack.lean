/- The walk of EventBack: what is put is got, whatever stands behind; what is got may be, and is put as the same bytes; the event's parts lie where they say. -/
import Derived.Test.YtbakhodijhacoaaEventAwake
import Derived.Test.YtbakhodijhacoaaEventFew
import Derived.Test.YtbakhodijhacoaaEventSame
import Derived.Test.YtbakhodijhacoaaOpenEvent
namespace Go.Proofs.Ytbakhodijhacoaa.Ev
open Go.RowKit Go.Proofs.Ytbakhodijhacoaa.BM Go.Proofs.Ytbakhodijhacoaa.LM Go.Proofs.Ytbakhodijhacoaa.EvM
open Go.Proofs.Ytbakhodijhacoaa.VaM (V e0)
open Go.Proofs.Ytbakhodijhacoaa.Va (SlV slV_len bx_new_t Bx ret_v)
open Go.Proofs.Ytbakhodijhacoaa.ScM (nm_size)

theorem fine_may {g : Ev} (h : May g) : Fine g := by
  have h1 := (nm_size h.1).2
  have h2 := h.2.1
  have h3 := h.2.2.1
  exact ⟨by unfold maxLen; omega, by omega, by omega⟩

set_option maxRecDepth 100000 in
set_option maxHeartbeats 4000000 in
theorem back_walk (s : ByteArray) (v : Int) (a : Option Addr) (n cap : Nat) (x : Option Addr) (len xcap : Nat) (zs : List Int) (w : World) (hs : Op.ArgE w s v a n cap) (hz : RowU8 w x len xcap zs) :
    Calls Try.prog 4 #[.agg #[.string s, .int .i64 v, .slice a n cap], .slice x len xcap] w fun e w' => e = .returned (.bool true) ∧ Below w.heap.size w w' := by
  obtain ⟨l, hlen, hS, hfine⟩ := hs
  obtain ⟨xs, hxlen, hxs⟩ := row_slB hz
  have hlc := hxs.2.1
  rw [hxlen] at hlc
  have hlm : len ≤ 9223372036854775807 := by
    have h2 := hxs.2.2.2
    unfold maxLen at h2
    omega
  have hF := fun W (hW : Below w.heap.size w W) => Few_any ⟨s, v, l⟩ a cap W (hS.kept hW) hfine.1
  have hM := fun W (hW : Below w.heap.size w W) => May_any ⟨s, v, l⟩ a cap W (hS.kept hW) hfine
  have hP := fun W (hW : Below w.heap.size w W) => Put_any ⟨s, v, l⟩ a cap W (hS.kept hW) hfine
  have hG := fun W (hW : Below w.heap.size w W) => Get_any x xs xcap W (hxs.kept hW)
  have hSm := fun W (B : Option Addr) (d : Nat) (hW : Below w.heap.size w W) (hB : SlV W B l d) => Same_any ⟨s, v, l⟩ ⟨s, v, l⟩ B d a cap W hB (hS.kept hW)
  simp only [decide_true] at hSm
  simp only [hlen] at hF hM hP hSm
  rw [hxlen] at hG
  have hnl := slV_len hS
  rw [hlen] at hnl
  have hrng : Rngs l := fun x hx => (hS.2 x hx).2
  have hpl := pv_len (e := ⟨s, v, l⟩) hrng
  have HRng := Lib.hid hrng
  have HF := Lib.hid hF
  have HM := Lib.hid hM
  have HP := Lib.hid hP
  have HG := Lib.hid hG
  have HSm := Lib.hid hSm
  have HXs := Lib.hid hxs
  have HLen := Lib.hid hxlen
  have HNl := Lib.hid hlen
  have HX := Lib.hid (bx_new_t w 27 (.string s) (.int .i64 v) (.slice a n cap))
  have HB := Lib.hid ((Below.refl w.heap.size w).alloc (Nat.le_refl _) (.cells #[.string s, .int .i64 v, .slice a n cap] 27))
  clear hF hM hP hG hSm hS hfine hlen hxs hxlen hz hrng
  go_enter Try.func4, Try.ntmps4
  go_wp2_with fail
  refine (awake_any _).mono ?_
  rintro e w1 ⟨rfl, hb⟩
  have HX1 := Lib.hid (HX.out.kept hb)
  have HB1 := Lib.hid (bt HB.out hb)
  clear hb HX HB
  obtain ⟨⟨p0, p1, p2⟩, _⟩ := HX1.out
  go_wp2_with fail
  refine (HF.out _ HB1.out).mono ?_
  rintro e w2 ⟨rfl, hb⟩
  obtain ⟨P, hP⟩ : ∃ P, P = decide (Few ⟨s, v, l⟩) := ⟨_, rfl⟩
  rw [← hP]
  have HX2 := Lib.hid (HX1.out.kept hb)
  have HB2 := Lib.hid (bt HB1.out hb)
  clear hb p0 p1 p2 hP HF HX1 HB1
  by_cases hpq : P = true ∧ len ≤ 400
  · obtain ⟨rfl, hl400⟩ := hpq
    have hd0 : decide ((400 : Int) < (len : Int)) = false := by rw [decide_eq_false_iff_not]; omega
    obtain ⟨⟨p0, p1, p2⟩, _⟩ := HX2.out
    go_wp2_with fail
    refine (HP.out _ HB2.out).mono ?_
    rintro e w3 ⟨A, c, rfl, h3, _, hb⟩
    obtain ⟨L, hL⟩ : ∃ L, L = (pv ⟨s, v, l⟩).length := ⟨_, rfl⟩
    rw [← hL] at hpl ⊢
    have HL := Lib.hid hL
    have HS3 := Lib.hid h3
    have HX3 := Lib.hid (HX2.out.kept hb)
    have HB3 := Lib.hid (bt HB2.out hb)
    clear hb p0 p1 p2 hL h3 HP HX2 HB2
    obtain ⟨⟨p0, p1, p2⟩, _⟩ := HX3.out
    go_wp2_with fail
    refine (HM.out _ HB3.out).mono ?_
    rintro e w4 ⟨rfl, hb⟩
    have HS4 := Lib.hid (HS3.out.kept hb)
    have HX4 := Lib.hid (HX3.out.kept hb)
    have HB4 := Lib.hid (bt HB3.out hb)
    clear hb p0 p1 p2 HM HX3 HB3 HS3
    by_cases hm : May ⟨s, v, l⟩
    · rw [decide_eq_true hm]
      have hpv : pv ⟨s, v, l⟩ = pE ⟨s, v, l⟩ := by rw [pv, if_pos hm]
      have HMay := Lib.hid hm
      have HPv := Lib.hid hpv
      clear hm hpv
      go_wp2_with (at_builtin; refine wp_append_b rfl (.const (.slice none 0 0)) (.tmp 43) rfl w4.heap.size (.slice none 0 0) 0 [] rfl (World.ownsRow_nil _ _ _ _) A L c (pv ⟨s, v, l⟩) rfl HL.out.symm HS4.out.1 HS4.out.2.2.1 (by omega) (Nat.le_refl _) ?_; intro v5 w5 hown5 hgrow5; refine pause ?_)
      simp only [Nat.zero_add, List.nil_append] at hown5
      have hb5 : Below w4.heap.size w4 w5 := (Below.refl _ _).grown hgrow5 (Nat.le_refl _) (fun _ h => by cases h)
      have HO5 := Lib.hid hown5
      have HB5 := Lib.hid hb5
      have hsz5 := hb5.size
      have hxs5 := HXs.out.kept (bt HB4.out hb5)
      have HX5 := Lib.hid hxs5
      clear hown5 hgrow5 hb5 hxs5
      unfold Pause
      go_wp2_with (at_builtin; refine wp_append_b rfl (.tmp 44) (.tmp 45) rfl w4.heap.size v5 L (pv ⟨s, v, l⟩) rfl HO5.out x len xcap xs rfl HLen.out HX5.out.1 HX5.out.2.2.1 (by omega) hsz5 ?_; intro v6 w6 hown6 hgrow6; refine pause ?_)
      have hb6 : Below w4.heap.size w4 w6 := HB5.out.grown hgrow6 hsz5 (fun q hq => (HO5.out.lt q hq).1)
      obtain ⟨A6, c6, rfl, hl6, h6, _⟩ := own_slB hown6 (fun y hy => by
        rcases List.mem_append.1 hy with h | h
        · exact pv_bytes _ y h
        · exact HXs.out.1.1 y h)
      have hget := Get_any A6 _ c6 w6 h6
      unfold Gots at hget
      have hga : gotE (gE (pv ⟨s, v, l⟩ ++ xs)) = (⟨s, v, l⟩, L, true) := by
        rw [HPv.out, gE_app HMay.out HRng.out HXs.out.1.1, HL.out, HPv.out]
        rfl
      rw [hga, ← hl6] at hget
      simp only [got3, HNl.out] at hget
      rw [← hl6]
      have HGet := Lib.hid hget
      have HB6 := Lib.hid hb6
      have HX6 := Lib.hid (HX4.out.kept hb6)
      clear hget hga hb6 h6 hl6 hown6 hgrow6 hsz5 HX5 HO5 HB5
      unfold Pause
      go_wp2_with fail
      refine HGet.out.mono ?_
      rintro e w7 ⟨A7, c7, rfl, hs7, _, hb⟩
      have ha8 := (Below.refl w7.heap.size w7).alloc (Nat.le_refl _) (.cells #[.string s, .int .i64 v, .slice A7 n c7] 27)
      have HB8 := Lib.hid (bt HB4.out (bt HB6.out (bt hb ha8)))
      obtain ⟨⟨p0, p1, p2⟩, _⟩ := HX6.out.kept (bt hb ha8)
      obtain ⟨⟨q0, q1, q2⟩, _⟩ := bx_new_t w7 27 (.string s) (.int .i64 v) (.slice A7 n c7)
      have HSm8 := Lib.hid (HSm.out _ A7 c7 HB8.out (hs7.kept ha8))
      have hnn : ((L : Int) != L) = false := by simp
      clear hb ha8 hs7 HX4 HB4 HS4 HB6 HX6 HGet HSm
      go_wp2_with fail
      refine HSm8.out.mono ?_
      rintro e w8 ⟨rfl, hb⟩
      have HBq := Lib.hid (bt HB8.out hb)
      have HBb := Lib.hid hb
      clear hb p0 p1 p2 q0 q1 q2 HB8 HSm8
      have HG9 := Lib.hid (HG.out _ HBq.out)
      have HXs9 := Lib.hid (HXs.out.kept HBq.out)
      clear HG HXs HBb
      go_wp2_with fail
      refine HG9.out.mono ?_
      rintro e w9 ⟨A9, c9, rfl, hs9, _, hb⟩
      cases hg : gE xs with
      | none =>
        have HB10 := Lib.hid (bt HBq.out (bt hb ((Below.refl w9.heap.size w9).alloc (Nat.le_refl _) (.cells #[.string ⟨#[]⟩, .int .i64 0, .slice A9 0 c9] 27))))
        obtain ⟨⟨q0, q1, q2⟩, _⟩ := bx_new_t w9 27 (.string ⟨#[]⟩) (.int .i64 0) (.slice A9 0 c9)
        have he : (ByteArray.mk #[]).toList = [] := by rw [ByteArray.toList_eq]
        simp only [gotE, got3, e0, List.length_nil]
        clear hb hg hs9
        go_wp2_with fail
        go_ret
        exact ⟨ret_bool (by first | rfl | simp), HB10.out⟩
      | some p =>
        obtain ⟨⟨gs, gv, gl⟩, m⟩ := p
        obtain ⟨hmay, _, hm, hput⟩ := gE_some HXs9.out.1.1 hg
        rw [HLen.out] at hm
        rw [hg] at hs9
        simp only [gotE] at hs9
        have hP2 := fun W (hW : Below w9.heap.size w9 W) => Put_any ⟨gs, gv, gl⟩ A9 c9 W (hs9.kept hW) (fine_may hmay)
        have hgl := slV_len hs9
        obtain ⟨ng, hng⟩ : ∃ k, k = gl.length := ⟨_, rfl⟩
        simp only [← hng] at hP2
        rw [← hng] at hgl
        simp only [gotE, got3, ← hng]
        have hpv : pv ⟨gs, gv, gl⟩ = xs.take m := by rw [pv, if_pos hmay, hput]
        have hlm2 : (pv ⟨gs, gv, gl⟩).length = m := by rw [hpv, List.length_take, HLen.out]; omega
        have ha10 := (Below.refl w9.heap.size w9).alloc (Nat.le_refl _) (.cells #[.string gs, .int .i64 gv, .slice A9 ng c9] 27)
        have HB10 := Lib.hid (bt HBq.out (bt hb ha10))
        have HXs10 := Lib.hid (HXs9.out.kept (bt hb ha10))
        have HY10 := Lib.hid (bx_new_t w9 27 (.string gs) (.int .i64 gv) (.slice A9 ng c9))
        have HP2 := Lib.hid (hP2 _ ha10)
        have HPv2 := Lib.hid hpv
        have HLm2 := Lib.hid hlm2
        have HMay2 := Lib.hid hmay
        obtain ⟨⟨q0, q1, q2⟩, _⟩ := HY10.out
        clear hb hg ha10 hmay hput hpv hlm2 hs9 hP2 hng
        go_wp2_with fail
        refine HP2.out.mono ?_
        rintro e w11 ⟨B, d, rfl, h11, _, hb⟩
        rw [HLm2.out, decide_eq_true HMay2.out]
        have HB11 := Lib.hid (bt HB10.out hb)
        have HXs11 := Lib.hid (HXs10.out.kept hb)
        have hcx := fun k => conv_any (w := w11.drewN k) (isB_take (isB_kept HXs11.out.1 (below_drewN (Below.refl _ _) k)) m) xcap 9 Try.underlying9
        have hcy := fun k => conv_any (w := w11.drewN k) (isB_kept h11.1 (below_drewN (Below.refl _ _) k)) d 9 Try.underlying9
        rw [← HPv2.out] at hcx
        rw [HLm2.out] at hcx hcy
        obtain ⟨S, hS⟩ : ∃ S, S = strOfNums (pv ⟨gs, gv, gl⟩) := ⟨_, rfl⟩
        rw [← hS] at hcx hcy
        have hee : (S.toList == S.toList) = true := by simp
        have hd1 : decide ((m : Int) ≤ len) = true := by rw [decide_eq_true_iff]; omega
        have hd2 : decide (m ≤ len) = true := decide_eq_true hm
        have hsl := fun W => slice_hi W x len xcap m (by omega)
        clear hb h11 hS HXs10 HY10 HP2 q0 q1 q2
        go_wp2_with fail
        go_quiet (fail)
        go_wp2_with fail
        go_ret
        exact ⟨ret_bool (by first | rfl | simp), below_drewN HB11.out _⟩
    · rw [decide_eq_false hm]
      have HBq := Lib.hid HB4.out
      have HBb := Lib.hid HB4.out
      clear hm HX4 HB4 HS4
      have HG9 := Lib.hid (HG.out _ HBq.out)
      have HXs9 := Lib.hid (HXs.out.kept HBq.out)
      clear HG HXs HBb
      go_wp2_with fail
      refine HG9.out.mono ?_
      rintro e w9 ⟨A9, c9, rfl, hs9, _, hb⟩
      cases hg : gE xs with
      | none =>
        have HB10 := Lib.hid (bt HBq.out (bt hb ((Below.refl w9.heap.size w9).alloc (Nat.le_refl _) (.cells #[.string ⟨#[]⟩, .int .i64 0, .slice A9 0 c9] 27))))
        obtain ⟨⟨q0, q1, q2⟩, _⟩ := bx_new_t w9 27 (.string ⟨#[]⟩) (.int .i64 0) (.slice A9 0 c9)
        have he : (ByteArray.mk #[]).toList = [] := by rw [ByteArray.toList_eq]
        simp only [gotE, got3, e0, List.length_nil]
        clear hb hg hs9
        go_wp2_with fail
        go_ret
        exact ⟨ret_bool (by first | rfl | simp), HB10.out⟩
      | some p =>
        obtain ⟨⟨gs, gv, gl⟩, m⟩ := p
        obtain ⟨hmay, _, hm, hput⟩ := gE_some HXs9.out.1.1 hg
        rw [HLen.out] at hm
        rw [hg] at hs9
        simp only [gotE] at hs9
        have hP2 := fun W (hW : Below w9.heap.size w9 W) => Put_any ⟨gs, gv, gl⟩ A9 c9 W (hs9.kept hW) (fine_may hmay)
        have hgl := slV_len hs9
        obtain ⟨ng, hng⟩ : ∃ k, k = gl.length := ⟨_, rfl⟩
        simp only [← hng] at hP2
        rw [← hng] at hgl
        simp only [gotE, got3, ← hng]
        have hpv : pv ⟨gs, gv, gl⟩ = xs.take m := by rw [pv, if_pos hmay, hput]
        have hlm2 : (pv ⟨gs, gv, gl⟩).length = m := by rw [hpv, List.length_take, HLen.out]; omega
        have ha10 := (Below.refl w9.heap.size w9).alloc (Nat.le_refl _) (.cells #[.string gs, .int .i64 gv, .slice A9 ng c9] 27)
        have HB10 := Lib.hid (bt HBq.out (bt hb ha10))
        have HXs10 := Lib.hid (HXs9.out.kept (bt hb ha10))
        have HY10 := Lib.hid (bx_new_t w9 27 (.string gs) (.int .i64 gv) (.slice A9 ng c9))
        have HP2 := Lib.hid (hP2 _ ha10)
        have HPv2 := Lib.hid hpv
        have HLm2 := Lib.hid hlm2
        have HMay2 := Lib.hid hmay
        obtain ⟨⟨q0, q1, q2⟩, _⟩ := HY10.out
        clear hb hg ha10 hmay hput hpv hlm2 hs9 hP2 hng
        go_wp2_with fail
        refine HP2.out.mono ?_
        rintro e w11 ⟨B, d, rfl, h11, _, hb⟩
        rw [HLm2.out, decide_eq_true HMay2.out]
        have HB11 := Lib.hid (bt HB10.out hb)
        have HXs11 := Lib.hid (HXs10.out.kept hb)
        have hcx := fun k => conv_any (w := w11.drewN k) (isB_take (isB_kept HXs11.out.1 (below_drewN (Below.refl _ _) k)) m) xcap 9 Try.underlying9
        have hcy := fun k => conv_any (w := w11.drewN k) (isB_kept h11.1 (below_drewN (Below.refl _ _) k)) d 9 Try.underlying9
        rw [← HPv2.out] at hcx
        rw [HLm2.out] at hcx hcy
        obtain ⟨S, hS⟩ : ∃ S, S = strOfNums (pv ⟨gs, gv, gl⟩) := ⟨_, rfl⟩
        rw [← hS] at hcx hcy
        have hee : (S.toList == S.toList) = true := by simp
        have hd1 : decide ((m : Int) ≤ len) = true := by rw [decide_eq_true_iff]; omega
        have hd2 : decide (m ≤ len) = true := decide_eq_true hm
        have hsl := fun W => slice_hi W x len xcap m (by omega)
        clear hb h11 hS HXs10 HY10 HP2 q0 q1 q2
        go_wp2_with fail
        go_quiet (fail)
        go_wp2_with fail
        go_ret
        exact ⟨ret_bool (by first | rfl | simp), below_drewN HB11.out _⟩
  · have hor : P = false ∨ (P = true ∧ 400 < len) := by
      cases P
      · exact Or.inl rfl
      · exact Or.inr ⟨rfl, Nat.lt_of_not_le (fun h => hpq ⟨rfl, h⟩)⟩
    clear hpq
    rcases hor with rfl | ⟨rfl, hl⟩
    · go_wp2_with fail
      go_ret
      exact ⟨ret_bool (by first | rfl | simp), HB2.out⟩
    · have hd0 : decide ((400 : Int) < (len : Int)) = true := by rw [decide_eq_true_iff]; omega
      go_wp2_with fail
      go_ret
      exact ⟨ret_bool (by first | rfl | simp), HB2.out⟩
end Go.Proofs.Ytbakhodijhacoaa.Ev
