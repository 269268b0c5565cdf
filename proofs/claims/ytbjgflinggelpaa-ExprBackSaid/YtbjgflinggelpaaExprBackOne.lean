/- ExprBack: for every input the law returns true, and each argument reads afterwards as it read before. No condition.
  The walk is the theorem Go.Proofs.Ytbjgflinggelpaa.Ex.back_walk. -/
import Derived.Test.YtbjgflinggelpaaRows
import Derived.Test.YtbjgflinggelpaaOpRow
import Derived.Lib.SmallJoins
import Derived.Deep.Slices
import Derived.ShutString
import Derived.OpenShut
import Derived.Test.YtbjgflinggelpaaChB
import Derived.Test.YtbjgflinggelpaaChA
import Derived.Test.YtbjgflinggelpaaRegAppend
import Derived.Test.YtbjgflinggelpaaSlCut
import Derived.BigQuiet
import Derived.Test.YtbjgflinggelpaaBMem
import Derived.ProofKit
import Derived.WalkKit
import Derived.ChangeOld
import Derived.Below

namespace Go.Proofs.Ytbjgflinggelpaa.Op
open Go.RowKit Go.ChangeShapes Go.WideShapes Go.Proofs.Ytbjgflinggelpaa.VaM Go.Proofs.Ytbjgflinggelpaa.ExM Go.Proofs.Ytbjgflinggelpaa.Ex

/-- Parts that came in lie where their slice says. -/
def ArgO (W : World) (a : Option Addr) (len cap : Nat) : Prop := ∃ l : List O, l.length = len ∧ SlO W a l cap

theorem cells_o {w : World} {b : Nat} : ∀ (l : List O) (o : Nat), (∀ i, i < l.length → CellO w b (o + i * 5) (l.getD i o0)) → ∀ (j : Nat) (u : Value), (l.flatMap encO)[j]? = some u → w.cell? ⟨b, o + j, none⟩ = some u
  | [], _, _, j, u, h => by simp at h
  | x :: l, o, hc, j, u, h => by
    rw [List.flatMap_cons] at h
    have h0 := hc 0 (by simp)
    rw [Nat.zero_mul, Nat.add_zero, List.getD_cons_zero] at h0
    obtain ⟨c0, c1, c2, c3, c4⟩ := h0
    by_cases hj : j < 5
    · rw [List.getElem?_append_left (by simpa [encO] using hj)] at h
      have hw : j = 0 ∨ j = 1 ∨ j = 2 ∨ j = 3 ∨ j = 4 := by omega
      rcases hw with rfl | rfl | rfl | rfl | rfl
      · obtain rfl : _ = u := by simpa [encO] using h
        exact c0
      · obtain rfl : _ = u := by simpa [encO] using h
        exact c1
      · obtain rfl : _ = u := by simpa [encO] using h
        exact c2
      · obtain rfl : _ = u := by simpa [encO] using h
        exact c3
      · obtain rfl : _ = u := by simpa [encO] using h
        exact c4
    · rw [List.getElem?_append_right (by simp only [encO, List.length_cons, List.length_nil]; omega)] at h
      have h2 := cells_o l (o + 5) (fun i hi => by
        have h3 := hc (i + 1) (by simpa using hi)
        rw [List.getD_cons_succ] at h3
        rw [show o + 5 + i * 5 = o + (i + 1) * 5 from by omega]
        exact h3) (j - 5) u h
      rw [show o + 5 + (j - 5) = o + j from by omega] at h2
      exact h2

set_option maxRecDepth 100000 in
theorem open_ops {H : Type} {enc : TypeId × Value → H} {W : World} {r : Reach} {b0 : Nat} {v : Value} {d : DataW H} {p : List MemPlace} (hv : Value.okWide Try.prog W r b0 28 v)
    (h : DataW.Trod enc Try.prog W 0 (fun _ => true) true 28 v d p) : ∃ a len cap, v = .slice a len cap ∧ ArgO W a len cap := by
  obtain ⟨a, len, cap, rfl⟩ := okWide_slice Try.underlying28 hv
  refine ⟨a, len, cap, rfl, ?_⟩
  obtain ⟨fuel, hf⟩ := h
  simp only [Value.cells] at hf
  rcases Deep.open_slice Try.underlying28 hf with ⟨hcs, _⟩ | ⟨x, l, c, m, n, D, Pl, hcs, _, hl, hm, hmm, _, hr⟩
  · simp only [List.cons.injEq, Value.slice.injEq, and_true] at hcs
    obtain ⟨rfl, rfl, rfl⟩ := hcs
    exact ⟨[], rfl, slO_none W⟩
  · simp only [List.cons.injEq, Value.slice.injEq, and_true] at hcs
    obtain ⟨rfl, rfl, rfl⟩ := hcs
    simp only [if_true] at hmm
    subst hmm
    have each : ∀ i, i < len → ∃ y : O, Fin y ∧ W.cell? (x.add (i * 5)) = some (.int .i64 y.c) ∧ W.cell? (x.add (i * 5 + 1)) = some (.int .i64 y.a) ∧ W.cell? (x.add (i * 5 + 2)) = some (.int .i64 y.v.k) ∧ W.cell? (x.add (i * 5 + 3)) = some (.int .i64 y.v.n) ∧ W.cell? (x.add (i * 5 + 4)) = some (.string y.v.s) := by
      intro i hi
      obtain ⟨cs', hc, ht⟩ := hr i (by omega)
      rw [show Try.prog.cellsOf 52 = 5 from by kernel_rfl] at hc
      obtain ⟨_, hlen, hcell⟩ := World.cells?_some hc
      match cs', hlen with
      | [u0, u1, u2, u3, u4], _ =>
        obtain ⟨y0, y1, y2, k, _, _, t0, t1, t2⟩ := Deep.trod_struct3 Try.underlying52 ht
        have c1 : Try.prog.cellsOf 3 = 1 := by kernel_rfl
        have c2 : Try.prog.cellsOf 9 = 1 := by kernel_rfl
        have c3 : Try.prog.cellsOf 38 = 3 := by kernel_rfl
        simp only [c1] at t0 t1
        simp only [c3] at t2
        simp only [List.drop_zero, List.drop_succ_cons, List.take_succ_cons, List.take_zero] at t0 t1 t2
        obtain ⟨n0, e0', _, w0⟩ := DataW.trod_int Try.underlying3 t0
        obtain ⟨n1, e1', _, w1⟩ := DataW.trod_int Try.underlying3 t1
        obtain ⟨z0, z1, z2, k', _, _, s0, s1, s2⟩ := Deep.trod_struct3 Try.underlying38 t2
        simp only [c1] at s0 s1
        simp only [c2] at s2
        obtain ⟨n2, e2', _, _⟩ := DataW.trod_int Try.underlying3 s0
        obtain ⟨n3, e3', _, w3⟩ := DataW.trod_int Try.underlying3 s1
        obtain ⟨s, e4', _, w4⟩ := DataW.trod_string Try.underlying9 s2
        simp only [List.drop_zero, List.drop_succ_cons, List.take_succ_cons, List.take_zero, List.cons.injEq, and_true] at e0' e1' e2' e3' e4'
        subst e0' e1' e2' e3' e4'
        have g0 := hcell 0 (by decide)
        have g1 := hcell 1 (by decide)
        have g2 := hcell 2 (by decide)
        have g3 := hcell 3 (by decide)
        have g4 := hcell 4 (by decide)
        have b0 := bounds_i64 w0
        have b1 := bounds_i64 w1
        have b3 := bounds_i64 w3
        refine ⟨⟨n0, n1, ⟨n2, n3, s⟩⟩, ⟨w4, ⟨by simp only; omega, by simp only; omega⟩, ⟨by simp only; omega, by simp only; omega⟩, by simp only; omega, by simp only; omega⟩, ?_, ?_, ?_, ?_, ?_⟩
        · rw [Deep.add_add, Nat.add_zero] at g0
          exact g0
        · rw [Deep.add_add] at g1
          exact g1
        · rw [Deep.add_add] at g2
          exact g2
        · rw [Deep.add_add] at g3
          exact g3
        · rw [Deep.add_add] at g4
          exact g4
    let g : Nat → O := fun i => if h : i < len then Classical.choose (each i h) else o0
    have hg : ∀ i, i < len → Fin (g i) ∧ W.cell? (x.add (i * 5)) = some (.int .i64 (g i).c) ∧ W.cell? (x.add (i * 5 + 1)) = some (.int .i64 (g i).a) ∧ W.cell? (x.add (i * 5 + 2)) = some (.int .i64 (g i).v.k) ∧ W.cell? (x.add (i * 5 + 3)) = some (.int .i64 (g i).v.n) ∧ W.cell? (x.add (i * 5 + 4)) = some (.string (g i).v.s) := by
      intro i hi
      have e : g i = Classical.choose (each i hi) := dif_pos hi
      rw [e]
      exact Classical.choose_spec (each i hi)
    have hgl : ((List.range len).map g).length = len := by simp
    have hgd : ∀ i, i < len → ((List.range len).map g).getD i o0 = g i := fun i hi => by simp [List.getD_eq_getElem?_getD, hi]
    refine ⟨(List.range len).map g, hgl, ⟨⟨((List.range len).map g).flatMap encO, fun h0 => ?_, elems_o _ _ _⟩, by rw [hgl]; exact hl, (fun e => by cases e), hm⟩, fun f hf => ?_⟩
    · have hl0 : 0 < len := by
        rcases Nat.eq_zero_or_pos len with e | e
        · subst e
          simp at h0
        · exact e
      obtain ⟨b, o, sp⟩ := x
      have hsp : sp = none := by simpa [Addr.add] using World.cell?_spot (hg 0 hl0).2.1
      subst hsp
      refine ⟨b, o, rfl, cells_o _ o fun i hi => ?_⟩
      rw [hgl] at hi
      rw [hgd i hi]
      obtain ⟨_, g0, g1, g2, g3, g4⟩ := hg i hi
      rw [Addr.add_lit] at g0 g1 g2 g3 g4
      exact ⟨g0, g1, g2, g3, g4⟩
    · obtain ⟨i, hi, rfl⟩ := List.mem_map.1 hf
      exact (hg i (List.mem_range.1 hi)).1
end Go.Proofs.Ytbjgflinggelpaa.Op

namespace Go.Proofs.Ytbjgflinggelpaa.Ex
open Go.RowKit Go.Proofs.Ytbjgflinggelpaa.BM Go.Proofs.Ytbjgflinggelpaa.LM Go.Proofs.Ytbjgflinggelpaa.ExM
open Go.Proofs.Ytbjgflinggelpaa.VaM (V e0)
open Go.Proofs.Ytbjgflinggelpaa.Va (ret_v)

set_option maxRecDepth 100000 in
set_option maxHeartbeats 4000000 in
theorem back_walk (a : Option Addr) (n cap : Nat) (x : Option Addr) (len xcap : Nat) (zs : List Int) (w : World) (hs : Op.ArgO w a n cap) (hz : RowU8 w x len xcap zs) :
    Calls Try.prog 5 #[.slice a n cap, .slice x len xcap] w fun e w' => e = .returned (.bool true) ∧ Below w.heap.size w w' := by
  obtain ⟨l, hlen, hS⟩ := hs
  obtain ⟨xs, hxlen, hxs⟩ := row_slB hz
  have hlc := hxs.2.1
  rw [hxlen] at hlc
  have hlm : len ≤ 9223372036854775807 := by
    have h2 := hxs.2.2.2
    unfold maxLen at h2
    omega
  have hF := fun W (hW : Below w.heap.size w W) => Few_any l a cap W (hS.kept hW)
  have hP := fun W (hW : Below w.heap.size w W) => Put_any l a cap W (hS.kept hW)
  have hG := fun W (hW : Below w.heap.size w W) => Get_any x xs xcap W (hxs.kept hW)
  have hSm := fun W (B : Option Addr) (d : Nat) (hW : Below w.heap.size w W) (hB : SlO W B l d) => Same_any l l a cap B d W (hS.kept hW) hB
  simp only [decide_true] at hSm
  simp only [hlen] at hF hP hSm
  rw [hxlen] at hG
  have hnl := slO_len hS
  rw [hlen] at hnl
  have hrng : Rngs l := hS.rngs
  have hpl := pv_len hrng
  have HRng := Lib.hid hrng
  have HF := Lib.hid hF
  have HP := Lib.hid hP
  have HG := Lib.hid hG
  have HSm := Lib.hid hSm
  have HXs := Lib.hid hxs
  have HLen := Lib.hid hxlen
  have HNl := Lib.hid hlen
  clear hF hP hG hSm hS hlen hxs hxlen hz hrng
  go_enter Try.func5, Try.ntmps5
  go_wp2_with fail
  refine (awake_any _).mono ?_
  rintro e w1 ⟨rfl, hb⟩
  have HB1 := Lib.hid hb
  clear hb
  go_wp2_with fail
  refine (HF.out _ HB1.out).mono ?_
  rintro e w2 ⟨rfl, hb⟩
  obtain ⟨P, hP⟩ : ∃ P, P = decide (Few l) := ⟨_, rfl⟩
  rw [← hP]
  have HB2 := Lib.hid (bt HB1.out hb)
  clear hb hP HF HB1
  by_cases hpq : P = true ∧ len ≤ 400
  · obtain ⟨rfl, hl400⟩ := hpq
    have hd0 : decide ((400 : Int) < (len : Int)) = false := by rw [decide_eq_false_iff_not]; omega
    go_wp2_with fail
    refine (HP.out _ HB2.out).mono ?_
    rintro e w4 ⟨A, c, rfl, h4, hb⟩
    obtain ⟨L, hL⟩ : ∃ L, L = (pv l).length := ⟨_, rfl⟩
    rw [← hL] at hpl ⊢
    have HL := Lib.hid hL
    have HS4 := Lib.hid h4
    have HB4 := Lib.hid (bt HB2.out hb)
    clear hb hL h4 HP HB2
    by_cases hm : May l
    · rw [decide_eq_true hm]
      have hpv : pv l = pL l := by rw [pv, if_pos hm]
      have HMay := Lib.hid hm
      have HPv := Lib.hid hpv
      clear hm hpv
      go_wp2_with (at_builtin; refine wp_append_b rfl (.const (.slice none 0 0)) (.tmp 39) rfl w4.heap.size (.slice none 0 0) 0 [] rfl (World.ownsRow_nil _ _ _ _) A L c (pv l) rfl HL.out.symm HS4.out.1 HS4.out.2.2.1 (by omega) (Nat.le_refl _) ?_; intro v5 w5 hown5 hgrow5; refine pause ?_)
      simp only [Nat.zero_add, List.nil_append] at hown5
      have hb5 : Below w4.heap.size w4 w5 := (Below.refl _ _).grown hgrow5 (Nat.le_refl _) (fun _ h => by cases h)
      have HO5 := Lib.hid hown5
      have HB5 := Lib.hid hb5
      have hsz5 := hb5.size
      have hxs5 := HXs.out.kept (bt HB4.out hb5)
      have HX5 := Lib.hid hxs5
      clear hown5 hgrow5 hb5 hxs5
      unfold Pause
      go_wp2_with (at_builtin; refine wp_append_b rfl (.tmp 40) (.tmp 41) rfl w4.heap.size v5 L (pv l) rfl HO5.out x len xcap xs rfl HLen.out HX5.out.1 HX5.out.2.2.1 (by omega) hsz5 ?_; intro v6 w6 hown6 hgrow6; refine pause ?_)
      have hb6 : Below w4.heap.size w4 w6 := HB5.out.grown hgrow6 hsz5 (fun q hq => (HO5.out.lt q hq).1)
      obtain ⟨A6, c6, rfl, hl6, h6, _⟩ := own_slB hown6 (fun y hy => by
        rcases List.mem_append.1 hy with h | h
        · exact pv_bytes _ y h
        · exact HXs.out.1.1 y h)
      have hget := Get_any A6 _ c6 w6 h6
      unfold Gots at hget
      have hga : gotL (gL (pv l ++ xs)) = (l, L, true) := by
        rw [HPv.out, gL_app HMay.out HRng.out HXs.out.1.1, HL.out, HPv.out]
        rfl
      rw [hga, ← hl6] at hget
      simp only [HNl.out] at hget
      rw [← hl6]
      have HGet := Lib.hid hget
      have HB6 := Lib.hid hb6
      clear hget hga hb6 h6 hl6 hown6 hgrow6 hsz5 HX5 HO5 HB5
      unfold Pause
      go_wp2_with fail
      refine HGet.out.mono ?_
      rintro e w7 ⟨A7, c7, rfl, hs7, hb⟩
      have HB8 := Lib.hid (bt HB4.out (bt HB6.out hb))
      have HSm8 := Lib.hid (HSm.out _ A7 c7 HB8.out hs7)
      have hnn : ((L : Int) != L) = false := by simp
      clear hb hs7 HB4 HS4 HB6 HGet HSm
      go_wp2_with fail
      refine HSm8.out.mono ?_
      rintro e w8 ⟨rfl, hb⟩
      have HBq := Lib.hid (bt HB8.out hb)
      clear hb HB8 HSm8
      have HG9 := Lib.hid (HG.out _ HBq.out)
      have HXs9 := Lib.hid (HXs.out.kept HBq.out)
      clear HG HXs
      go_wp2_with fail
      refine HG9.out.mono ?_
      rintro e w9 ⟨A9, c9, rfl, hs9, hb⟩
      cases hg : gL xs with
      | none =>
        have HB10 := Lib.hid (bt HBq.out hb)
        simp only [gotL, List.length_nil]
        clear hb hg hs9
        go_wp2_with fail
        go_ret
        exact ⟨ret_bool (by first | rfl | simp), HB10.out⟩
      | some p =>
        obtain ⟨g, m⟩ := p
        obtain ⟨hmay, hrg, hm, hput⟩ := gL_some HXs9.out.1.1 hg
        rw [HLen.out] at hm
        rw [hg] at hs9
        simp only [gotL] at hs9
        have hP2 := Put_any g A9 c9 w9 hs9
        have hgl := slO_len hs9
        obtain ⟨ng, hng⟩ : ∃ k, k = g.length := ⟨_, rfl⟩
        simp only [← hng] at hP2
        rw [← hng] at hgl
        simp only [gotL, ← hng]
        have hpv : pv g = xs.take m := by rw [pv, if_pos hmay, hput]
        have hlm2 : (pv g).length = m := by rw [hpv, List.length_take, HLen.out]; omega
        have HB10 := Lib.hid (bt HBq.out hb)
        have HXs10 := Lib.hid (HXs9.out.kept hb)
        have HP2 := Lib.hid hP2
        have HPv2 := Lib.hid hpv
        have HLm2 := Lib.hid hlm2
        have HMay2 := Lib.hid hmay
        clear hb hg hmay hrg hput hpv hlm2 hs9 hP2 hng
        go_wp2_with fail
        refine HP2.out.mono ?_
        rintro e w11 ⟨B, d, rfl, h11, hb⟩
        rw [HLm2.out, decide_eq_true HMay2.out]
        have HB11 := Lib.hid (bt HB10.out hb)
        have HXs11 := Lib.hid (HXs10.out.kept hb)
        have hcx := fun k => conv_any (w := w11.drewN k) (isB_take (isB_kept HXs11.out.1 (below_drewN (Below.refl _ _) k)) m) xcap 9 Try.underlying9
        have hcy := fun k => conv_any (w := w11.drewN k) (isB_kept h11.1 (below_drewN (Below.refl _ _) k)) d 9 Try.underlying9
        rw [← HPv2.out] at hcx
        rw [HLm2.out] at hcx hcy
        obtain ⟨S, hS⟩ : ∃ S, S = strOfNums (pv g) := ⟨_, rfl⟩
        rw [← hS] at hcx hcy
        have hee : (S.toList == S.toList) = true := by simp
        have hd1 : decide ((m : Int) ≤ len) = true := by rw [decide_eq_true_iff]; omega
        have hd2 : decide (m ≤ len) = true := decide_eq_true hm
        have hsl := fun W => slice_hi W x len xcap m (by omega)
        clear hb h11 hS HXs10 HP2
        go_wp2_with fail
        go_quiet (fail)
        go_wp2_with fail
        go_ret
        exact ⟨ret_bool (by first | rfl | simp), below_drewN HB11.out _⟩
    · rw [decide_eq_false hm]
      have HBq := Lib.hid HB4.out
      clear hm HB4 HS4
      have HG9 := Lib.hid (HG.out _ HBq.out)
      have HXs9 := Lib.hid (HXs.out.kept HBq.out)
      clear HG HXs
      go_wp2_with fail
      refine HG9.out.mono ?_
      rintro e w9 ⟨A9, c9, rfl, hs9, hb⟩
      cases hg : gL xs with
      | none =>
        have HB10 := Lib.hid (bt HBq.out hb)
        simp only [gotL, List.length_nil]
        clear hb hg hs9
        go_wp2_with fail
        go_ret
        exact ⟨ret_bool (by first | rfl | simp), HB10.out⟩
      | some p =>
        obtain ⟨g, m⟩ := p
        obtain ⟨hmay, hrg, hm, hput⟩ := gL_some HXs9.out.1.1 hg
        rw [HLen.out] at hm
        rw [hg] at hs9
        simp only [gotL] at hs9
        have hP2 := Put_any g A9 c9 w9 hs9
        have hgl := slO_len hs9
        obtain ⟨ng, hng⟩ : ∃ k, k = g.length := ⟨_, rfl⟩
        simp only [← hng] at hP2
        rw [← hng] at hgl
        simp only [gotL, ← hng]
        have hpv : pv g = xs.take m := by rw [pv, if_pos hmay, hput]
        have hlm2 : (pv g).length = m := by rw [hpv, List.length_take, HLen.out]; omega
        have HB10 := Lib.hid (bt HBq.out hb)
        have HXs10 := Lib.hid (HXs9.out.kept hb)
        have HP2 := Lib.hid hP2
        have HPv2 := Lib.hid hpv
        have HLm2 := Lib.hid hlm2
        have HMay2 := Lib.hid hmay
        clear hb hg hmay hrg hput hpv hlm2 hs9 hP2 hng
        go_wp2_with fail
        refine HP2.out.mono ?_
        rintro e w11 ⟨B, d, rfl, h11, hb⟩
        rw [HLm2.out, decide_eq_true HMay2.out]
        have HB11 := Lib.hid (bt HB10.out hb)
        have HXs11 := Lib.hid (HXs10.out.kept hb)
        have hcx := fun k => conv_any (w := w11.drewN k) (isB_take (isB_kept HXs11.out.1 (below_drewN (Below.refl _ _) k)) m) xcap 9 Try.underlying9
        have hcy := fun k => conv_any (w := w11.drewN k) (isB_kept h11.1 (below_drewN (Below.refl _ _) k)) d 9 Try.underlying9
        rw [← HPv2.out] at hcx
        rw [HLm2.out] at hcx hcy
        obtain ⟨S, hS⟩ : ∃ S, S = strOfNums (pv g) := ⟨_, rfl⟩
        rw [← hS] at hcx hcy
        have hee : (S.toList == S.toList) = true := by simp
        have hd1 : decide ((m : Int) ≤ len) = true := by rw [decide_eq_true_iff]; omega
        have hd2 : decide (m ≤ len) = true := decide_eq_true hm
        have hsl := fun W => slice_hi W x len xcap m (by omega)
        clear hb h11 hS HXs10 HP2
        go_wp2_with fail
        go_quiet (fail)
        go_wp2_with fail
        go_ret
        exact ⟨ret_bool (by first | rfl | simp), below_drewN HB11.out _⟩
  · have hor : P = false ∨ (P = true ∧ 400 < len) := by
      cases P
      · exact Or.inl rfl
      · exact Or.inr ⟨rfl, Nat.lt_of_not_le (fun h => hpq ⟨rfl, h⟩)⟩
    clear hpq
    rcases hor with rfl | ⟨rfl, hl⟩
    · go_wp2_with fail
      go_ret
      exact ⟨ret_bool (by first | rfl | simp), HB2.out⟩
    · have hd0 : decide ((400 : Int) < (len : Int)) = true := by rw [decide_eq_true_iff]; omega
      go_wp2_with fail
      go_ret
      exact ⟨ret_bool (by first | rfl | simp), HB2.out⟩
end Go.Proofs.Ytbjgflinggelpaa.Ex

namespace Go.Proofs.Ytbjgflinggelpaa.Op
open Go.RowKit Go.ChangeShapes Go.WideShapes Go.Proofs.Ytbjgflinggelpaa.BM

set_option maxRecDepth 100000 in
theorem open_bytes_cells {H : Type} {enc : TypeId × Value → H} {W : World} {fuel : Nat} {v : Value} {x : DataW H × List MemPlace} (h : DataW.trod enc Try.prog W 0 (fun _ => true) true fuel 29 [v] = some x) :
    ∃ a len cap zs, v = .slice a len cap ∧ RowU8 W a len cap zs := by
  rcases open_ints Try.underlying29 Try.underlying5 (by kernel_rfl) h with ⟨hcs, _⟩ | ⟨x, l, c, zs, hcs, _, hl, hm, hz, _, hcell, hwz⟩
  · exact ⟨none, 0, 0, [], by simpa using hcs, .inl ⟨rfl, rfl, rfl, rfl⟩⟩
  · exact ⟨some x, l, c, zs, by simpa using hcs, .inr ⟨x, rfl, hl, hm, by simpa using hz, hcell, hwz⟩⟩

set_option maxRecDepth 100000 in
theorem open_bytes {H : Type} {enc : TypeId × Value → H} {W : World} {r : Reach} {b0 : Nat} {v : Value} {d : DataW H} {p : List MemPlace} (hv : Value.okWide Try.prog W r b0 29 v)
    (h : DataW.Trod enc Try.prog W 0 (fun _ => true) true 29 v d p) : ∃ a len cap zs, v = .slice a len cap ∧ RowU8 W a len cap zs := by
  obtain ⟨a, len, cap, rfl⟩ := okWide_slice Try.underlying29 hv
  obtain ⟨fuel, hf⟩ := h
  simp only [Value.cells] at hf
  exact open_bytes_cells hf
end Go.Proofs.Ytbjgflinggelpaa.Op

namespace Go.Proofs.Ytbjgflinggelpaa.exprBack
open Go.ChangeShapes Go.WideShapes Go.ChangeAt Go.RowKit

theorem own : ownKnob Try.prog.godebug = none := by kernel_rfl
theorem laidOut : laidOutB Try.prog = true := by kernel_rfl

set_option maxRecDepth 100000 in
theorem lifted (os : Os) (started : os.Started) (H : Type) (enc : TypeId × Value → H) :
    ReturnsInHanded {} Try.checked os 5 .any (Rows.exprBackSpec.pre6 enc Try.prog Try.f5 Rows.exprBackRow.domain false) (Rows.exprBackSpec.post enc Try.prog Try.f5 false true false false) := by
  refine returnsInHanded_of_change (C := Try.checked) own started (by kernel_rfl) Try.func5
    (ChangeSpec.witness6 (enc := enc) (C := Try.checked) false ⟨#[], #[.slice none 0 0, .slice none 0 0], []⟩ 8 (by kernel_rfl) (by kernel_rfl) (by kernel_rfl) (by kernel_rfl)) ?_
  intro W base args ds gs before hval0 hW hcnd _
  have hval : ∀ (j : Nat) t v, Try.f5.params[j]? = some t → args[j]? = some v → Value.okWide Try.prog W .any base t v := hval0
  have hW' := hW
  obtain ⟨p, q, hA0, hV, rfl, hfz, hnd⟩ := hW
  have hA : DataW.TrodAll enc Try.prog W 0 (fun _ => true) true Try.f5.params.toList args.toList ds p := hA0
  rw [Try.params5] at hA hval
  obtain ⟨v0, vs0, d0, ds0, p0, q0, hargs, rfl, rfl, h0, r0⟩ := trodAll_cons hA
  obtain ⟨v1, vs1, d1, ds1, p1, q1, rfl, rfl, rfl, h1, r1⟩ := trodAll_cons r0
  obtain ⟨rfl, rfl, rfl⟩ := trodAll_nil r1
  obtain rfl : args = #[v0, v1] := by cases args; simp_all
  obtain ⟨rfl, rfl⟩ := trodVars_none hV
  have k0 := h0
  have lt0 : ∀ x ∈ p0, x.block < W.heap.size := by obtain ⟨m, hm⟩ := k0; exact DataW.trod_lt m _ _ _ hm
  obtain ⟨a0, len0, cap0, rfl, w0⟩ := Op.open_ops (hval 0 28 v0 rfl rfl) h0
  have k1 := h1
  have lt1 : ∀ x ∈ p1, x.block < W.heap.size := by obtain ⟨m, hm⟩ := k1; exact DataW.trod_lt m _ _ _ hm
  obtain ⟨a1, len1, cap1, z1, rfl, w1⟩ := Op.open_bytes (hval 1 29 v1 rfl rfl) h1
  clear hA0 hval0
  refine (Go.Proofs.Ytbjgflinggelpaa.Ex.back_walk a0 len0 cap0 a1 len1 cap1 z1 W w0 w1).mono fun e W' ⟨he, bel⟩ => ?_
  subst he
  exact ⟨_, rfl, _, _, _, [], _, [], hW', trodAll_mk1 (shut_bool Try.underlying4 _), (trodAll_cons_mk (Below.trod laidOut (by kernel_rfl) (of_decide_eq_true (by kernel_rfl)) k0 bel lt0) (trodAll_cons_mk (Below.trod laidOut (by kernel_rfl) (of_decide_eq_true (by kernel_rfl)) k1 bel lt1) trodAll_mk0)), rfl, bel.frame _, fun h => by cases h⟩

theorem over : Rows.exprBackRow.holds Try.pinned (OpenSpec.ofChange Rows.exprBackSpec) :=
  OpenClaim.holds_of_wide 5 Try.f5 rfl rfl rfl rfl rfl rfl rfl ⟨rfl, rfl, rfl, rfl, rfl⟩ rfl rfl rfl rfl rfl (by kernel_rfl) Try.func5 (by kernel_rfl)
    (of_decide_eq_true (by kernel_rfl)) (by unfold Func.isWrapper; first | (rw [if_pos (by decide +kernel)]; kernel_rfl) | (rw [if_neg (by decide +kernel)]; exact ⟨rfl, rfl⟩))
    (fun os started H enc _ => lifted os started H enc)

theorem proved : Rows.ExprBackSaid := over
#print axioms proved
end Go.Proofs.Ytbjgflinggelpaa.exprBack
