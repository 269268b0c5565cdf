/- IndexOnce: for every input of bulk at most 1048576 the law returns true, and the argument reads afterwards as it read before. Condition: what comes in is of bulk at most 1048576.
  The walk is the theorem Ix.once_walk. -/
import Derived.Test.YtochpomddfjkoaaChB
import Derived.Test.YtochpomddfjkoaaChA
import Derived.Test.YtochpomddfjkoaaRows
import Derived.WalkKit
import Derived.ProofKit
import Derived.OpenShut
import Derived.ShutString
import Derived.ChangeOld
import Derived.Below
import Derived.JoinedCond

namespace Go.Proofs.Ytochpomddfjkoaa.Ix
open Go.RowKit Go.Proofs.Ytochpomddfjkoaa.BM Go.Proofs.Ytochpomddfjkoaa.LM Go.Proofs.Ytochpomddfjkoaa.VaM Go.Proofs.Ytochpomddfjkoaa.ExM Go.Proofs.Ytochpomddfjkoaa.QyM Go.Proofs.Ytochpomddfjkoaa.IxM
open Go.Proofs.Ytochpomddfjkoaa.Va (ret_v)
open Go.Proofs.Ytochpomddfjkoaa.Qy (SlQ slQ_len KQ tyQ CellQ)

/-- How many steps the first of them have, twice. -/
def steps2 (l : List Q) (j : Nat) : Nat := 2 * ((l.take j).map fun q => q.p.length).sum
theorem steps2_succ {l : List Q} {j : Nat} (hj : j < l.length) : steps2 l (j + 1) = steps2 l j + 2 * (l.getD j q0).p.length := by
  unfold steps2
  rw [List.take_succ_eq_append_getElem hj, List.map_append, List.sum_append, List.getD_eq_getElem?_getD, List.getElem?_eq_getElem hj]
  simp
  omega
theorem few_app {l r : List Q} (h : QsFew (l ++ r)) : QsFew l := by
  obtain ⟨h1, h2⟩ := h
  rw [List.length_append] at h1
  refine ⟨by omega, fun i hi => ?_⟩
  have h3 := h2 i (by rw [List.length_append]; omega)
  rw [List.getD_eq_getElem?_getD, List.getElem?_append_left hi, ← List.getD_eq_getElem?_getD] at h3
  exact h3

/-- Queries that came in, as the elements of a row of the call's own. -/
theorem elems_in {w w' : World} {H : Nat} {v : Value} {l : List Q} {us : List Value} (h : RG.Elems KQ (fun _ => True) w l us) (hb : Below w.heap.size w w') (hH : w.heap.size = H) (hv : ∀ b, b < H → ne v b) : RG.Elems KQ (fun b => b < H ∧ ne v b) w' l us :=
  h.map fun _ _ e => KQ.kept (KQ.mono e fun b hlt _ => (⟨by omega, hv b (by omega)⟩ : b < H ∧ ne v b)) hb

set_option maxRecDepth 100000 in
set_option maxHeartbeats 8000000 in
theorem once_walk (la : Option Addr) (n lc : Nat) (w : World) (h0 : Op.ArgQs w la n lc) (hsm : n ≤ 1048576) :
    Calls Try.prog 7 #[.slice la n lc] w fun e w' => e = .returned (.bool true) ∧ Below w.heap.size w w' := by
  obtain ⟨l, hln, hL⟩ := h0
  obtain ⟨⟨us, hR, hE⟩, hcap, hnil, hcm⟩ := hL
  have hL : SlQ w la l lc := ⟨⟨us, hR, hE⟩, hcap, hnil, hcm⟩
  have hA := fun A c W (h : SlQ W A (l ++ l) c) => QsFew_any (l ++ l) A c W h
  have hAl := fun W (hW : Below w.heap.size w W) (hq : Little l) => All_any l la lc W (hL.kept hW) hq.1 hq.2
  have hA2 := fun A c W (h : SlQ W A (l ++ l) c) (hq : Little (l ++ l)) => All_any (l ++ l) A c W h hq.1 hq.2
  have hSa := fun W A r A' r' (h : SlPr W A (all l) r) (h' : SlPr W A' (all l) r') => refSame_any (all l) (all l) A r A' r' W h h'
  have hq1 : QsFew (l ++ l) → (Little l ∧ Little (l ++ l)) ∧ (n ≤ 6 ∧ ∀ j, j < n → (l.getD j q0).p.length ≤ 8) := fun h => by
    have h1 := few_app h
    exact ⟨⟨asks_few h1, asks_few h⟩, by rw [← hln]; exact h1.1, fun j hj => (h1.2 j (by rw [hln]; exact hj)).1⟩
  have hal := all_len l
  have htk : steps2 l n = 2 * (l.map fun q => q.p.length).sum := by
    unfold steps2
    rw [← hln, List.take_length]
  rw [← htk] at hal
  have hst := fun j => @steps2_succ l j
  have hst0 : steps2 l 0 = 0 := by simp [steps2]
  unfold AllB at hAl hA2
  rw [all_twice] at hA2
  simp only [List.length_append, hln, decide_true] at hA hAl hA2 hSa hst
  obtain ⟨L, hLd⟩ : ∃ L, L = all l := ⟨_, rfl⟩
  simp only [← hLd] at hAl hA2 hSa hal
  obtain ⟨Ln, hLn⟩ : ∃ n, n = L.length := ⟨_, rfl⟩
  simp only [← hLn] at hAl hA2 hSa hal
  obtain ⟨g, hg⟩ : ∃ g, g = steps2 l := ⟨_, rfl⟩
  simp only [← hg] at hal hst hst0
  obtain ⟨b1, hb1⟩ : ∃ b, b = decide (QsFew (l ++ l)) := ⟨_, rfl⟩
  simp only [← hb1] at hA
  have HQ1 := Lib.hid (fun h : b1 = true => hq1 (of_decide_eq_true (hb1.symm.trans h)))
  have HA := Lib.hid hA
  have HAl := Lib.hid hAl
  have HA2 := Lib.hid hA2
  have HSa := Lib.hid hSa
  have HL := Lib.hid hL
  have HLm := Lib.hid hln
  have HR := Lib.hid hR
  have HE := Lib.hid hE
  have HSt := Lib.hid hst
  have HSt0 := Lib.hid hst0
  have HAlen := Lib.hid hal
  clear hA hAl hA2 hSa hq1 hb1 hLd hLn hL hR hE hst hst0 hal htk hg hln
  go_enter Try.func7, Try.ntmps7
  go_wp2_with fail
  refine (awake_any _).mono ?_
  rintro e w1 ⟨rfl, hb⟩
  have HB1 := Lib.hid hb
  have HE1 := Lib.hid (elems_in (v := .slice none 0 0) HE.out hb rfl (fun b _ => fun e => by cases e))
  have HR1 := Lib.hid (HR.out.kept hb)
  have HO1 := Lib.hid (World.ownsRow_nil w1 w.heap.size 45 5)
  have hz1 := hb.size
  have hlen := HLm.out
  clear hb
  go_wp2_with (at_builtin; refine RG.Ty.wp_append (K := KQ) tyQ (fun b => b < w.heap.size) rfl (.const (.slice none 0 0)) (.tmp 11) rfl w.heap.size _ 0 [] [] rfl HO1.out rfl la n lc us l rfl hlen HR1.out HE1.out hnil (by omega) hz1 ?_; intro u2 w2 hown2 hel2 hgrow2; refine pause ?_)
  rw [Nat.zero_add, List.nil_append] at hown2
  rw [List.nil_append, List.nil_append] at hel2
  have hb2 := HB1.out.grown hgrow2 hz1 (fun q hq => by cases hq)
  have HB2 := Lib.hid hb2
  have HO2 := Lib.hid hown2
  have HE2 := Lib.hid hel2
  have HES := Lib.hid (elems_in (v := u2) HE.out hb2 rfl (fun b hb e => by have := (hown2.lt b e.symm).1; omega))
  have HR2 := Lib.hid (HR.out.kept hb2)
  have hz2 := hb2.size
  obtain ⟨A2, c2, hu2⟩ := RG.own_is hown2
  clear hown2 hel2 hgrow2 hb2 HE1 HR1 HO1 hz1 HB1
  subst hu2
  unfold Pause
  go_wp2_with (at_builtin; refine RG.Ty.wp_append (K := KQ) tyQ (fun b => b < w.heap.size) rfl (.tmp 12) (.tmp 13) rfl w.heap.size _ n us l rfl HO2.out HE2.out la n lc us l rfl hlen HR2.out HES.out hnil (by omega) hz2 ?_; intro u3 w3 hown3 hel3 hgrow3; refine pause ?_)
  have hb3 := HB2.out.grown hgrow3 hz2 (fun q hq => (HO2.out.lt q hq).1)
  obtain ⟨A3, c3, hu3, hn3, hsl3, _⟩ := RG.own_slG (K := KQ) hown3 hel3 (by decide)
  rw [← hn3] at hu3
  have HSl := Lib.hid (show SlQ w3 A3 (l ++ l) c3 from RG.SlG.mono hsl3 fun _ _ _ => trivial)
  have HB3 := Lib.hid hb3
  clear hown3 hel3 hgrow3 hb3 hsl3 hn3 HO2 HE2 HES HR2 hz2 HB2 hcap hnil hcm hlen HR HE
  subst hu3
  obtain ⟨n2, hn2⟩ : ∃ k, k = n + n := ⟨_, rfl⟩
  have HA3 := HA.out A3 c3 w3 HSl.out
  have HA23 := HA2.out A3 c3
  rw [← hn2] at HA3 HA23 ⊢
  have HCall := Lib.hid HA3
  have HA24 := Lib.hid HA23
  clear HA3 HA23 HA HA2 hn2
  unfold Pause
  go_wp2_with fail
  refine HCall.out.mono ?_
  rintro e w4 ⟨rfl, hb⟩
  have HB4 := Lib.hid (bt HB3.out hb)
  have HSl4 := Lib.hid (HSl.out.kept hb)
  clear hb HB3 HSl HCall
  cases b1 with
  | false =>
    go_wp2_with fail
    go_ret
    exact ⟨ret_v (x := .bool true) rfl, HB4.out⟩
  | true =>
    obtain ⟨⟨hlit1, hlit2⟩, hn6, hstp⟩ := HQ1.out (by trivial)
    have HLit1 := Lib.hid hlit1
    have HLit2 := Lib.hid hlit2
    have HStp := Lib.hid hstp
    clear hlit1 hlit2 hstp HQ1
    go_wp2_with fail
    go_loopw [6, 7] (fun k i wr => ∃ j : Nat, k = .int .i64 ((g j : Nat) : Int) ∧ i = .int .i64 (j : Int) ∧ j ≤ n ∧ g j ≤ 16 * j ∧ wr = w4) (fun _ i _ => n - (intOf i).toNat)
    case atStart => exact ⟨0, by rw [HSt0.out]; rfl, rfl, Nat.zero_le _, by rw [HSt0.out]; exact Nat.le_refl _, rfl⟩
    case round =>
      obtain ⟨j, rfl, rfl, hj, hgj, rfl⟩ := hrel
      by_cases hjn : j < n
      · obtain ⟨b1, q1, A1, c1, hix, hc, _⟩ := HL.out.at j (by rw [HLm.out]; exact hjn)
        have hi := fun W => hix W n lc hjn
        have hs := HSt.out j hjn
        have h8 := HStp.out j hjn
        obtain ⟨x, hx⟩ : ∃ x, x = l.getD j q0 := ⟨_, rfl⟩
        rw [← hx] at hc hs h8
        obtain ⟨r0, _, _, _, _⟩ := (hc _ HB4.out).1
        obtain ⟨m, hm⟩ : ∃ m, m = x.p.length := ⟨_, rfl⟩
        rw [← hm] at r0 hs h8
        have HS2 := Lib.hid hs
        clear hix hc hx hm hs
        go_wp2_with fail
        go_roundw
        case rel => exact ⟨j + 1, by rw [HS2.out]; go_num, by go_num, by omega, by rw [HS2.out]; omega, by trivial⟩
        case measure => simp [intOf]; omega
      · obtain rfl : j = n := by omega
        have hle := HAlen.out
        have hd : decide ((Ln : Int) ≤ ((g j : Nat) : Int)) = true := by rw [decide_eq_true_iff]; omega
        have hd' : decide (Ln ≤ g j) = true := by rw [decide_eq_true_iff]; exact hle
        obtain ⟨gn, hgn⟩ : ∃ k, k = g j := ⟨_, rfl⟩
        rw [← hgn] at hd hd' ⊢
        clear hjn hj hgj hle hgn
        go_wp2_with fail
        refine (HAl.out _ HB4.out HLit1.out).mono ?_
        rintro e w5 ⟨A5, c5, rfl, hs5, hb⟩
        have HB5 := Lib.hid (bt HB4.out hb)
        have HS5 := Lib.hid hs5
        have HCall := Lib.hid (HA24.out w5 (HSl4.out.kept hb) HLit2.out)
        clear hb hs5 HB4 HSl4 HA24 HAl
        go_wp2_with fail
        refine HCall.out.mono ?_
        rintro e w6 ⟨A6, c6, rfl, hs6, hb⟩
        have HB6 := Lib.hid (bt HB5.out hb)
        have HCall2 := Lib.hid (HSa.out w6 A6 c6 A5 c5 hs6 (HS5.out.kept hb))
        clear hb hs6 HB5 HS5 HCall HSa
        go_wp2_with fail
        refine HCall2.out.mono ?_
        rintro e w7 ⟨rfl, hb⟩
        have HB7 := Lib.hid (bt HB6.out hb)
        clear hb HB6 HCall2
        go_wp2_with fail
        go_ret
        exact ⟨ret_v (x := .bool true) (by first | rfl | simp), HB7.out⟩
end Go.Proofs.Ytochpomddfjkoaa.Ix

namespace Go.Proofs.Ytochpomddfjkoaa.indexOnce
open Go.ChangeShapes Go.WideShapes Go.ChangeAt Go.RowKit

theorem own : ownKnob Try.prog.godebug = none := by kernel_rfl
theorem laidOut : laidOutB Try.prog = true := by kernel_rfl

theorem bulk_pos {H : Type} (d : DataW H) : 1 ≤ Rows.uptoBulk d := by
  cases d with
  | lit l => cases l <;> simp [Rows.uptoBulk]
  | nil => simp [Rows.uptoBulk]
  | ptr d => simp [Rows.uptoBulk]
  | slice elems spare => simp [Rows.uptoBulk]
  | agg parts => simp [Rows.uptoBulk]
  | iface t d => simp [Rows.uptoBulk]
  | map entries => simp [Rows.uptoBulk]
  | held h => simp [Rows.uptoBulk]
theorem bulk_len {H : Type} : ∀ l : List (DataW H), l.length ≤ Rows.uptoBulkAll l
  | [] => Nat.zero_le _
  | x :: r => by
    have h1 := bulk_pos x
    have h2 := bulk_len r
    simp only [Rows.uptoBulkAll, List.length_cons]
    omega

theorem bulk_slice {H : Type} (elems spare : List (DataW H)) : elems.length ≤ Rows.uptoBulk (.slice elems spare) := by
  have h := bulk_len elems
  simp only [Rows.uptoBulk]
  omega

/-- A slice's length is no more than its bulk. -/
theorem len_le {H : Type} {enc : TypeId × Value → H} {W : World} {a : Option Addr} {len cap : Nat} {d : DataW H} {p : List MemPlace} (h : DataW.Trod enc Try.prog W 0 (fun _ => true) true 22 (.slice a len cap) d p) : len ≤ Rows.uptoBulk d := by
  obtain ⟨fuel, hf⟩ := h
  simp only [Value.cells] at hf
  rcases Deep.open_slice Try.underlying22 hf with ⟨hcs, _⟩ | ⟨x, l, c, m, n, D, Pl, hcs, _, hl, hm, hmm, hx, _⟩
  · simp only [List.cons.injEq, Value.slice.injEq, and_true] at hcs
    obtain ⟨_, rfl, _⟩ := hcs
    exact Nat.zero_le _
  · simp only [List.cons.injEq, Value.slice.injEq, and_true] at hcs
    obtain ⟨_, rfl, rfl⟩ := hcs
    rw [(Prod.mk.inj hx).1]
    refine Nat.le_trans (Nat.le_of_eq ?_) (bulk_slice _ _)
    simp

set_option maxRecDepth 100000 in
theorem contract (H : Type) (enc : TypeId × Value → H) (W : World) (base : Nat) (args : Array Value) (ds gs : List (DataW H)) (before : List MemPlace)
    (hval : ∀ (j : Nat) t v, Try.f7.params[j]? = some t → args[j]? = some v → Value.okWide Try.prog W .any base t v)
    (hW : DataW.Whole enc Try.prog Try.f7.params.toList Rows.indexOnceSpec.vars false W args.toList ds gs before) (hk : Rows.uptoSmall H (ds ++ gs) = true) :
    Calls Try.prog 7 args W fun e W' => ∃ v, e = .returned v ∧ Rows.indexOnceSpec.post enc Try.prog Try.f7 false true false false W args v W' := by
  have hW' := hW
  obtain ⟨p, q, hA0, hV, rfl, hfz, hnd⟩ := hW
  have hA : DataW.TrodAll enc Try.prog W 0 (fun _ => true) true Try.f7.params.toList args.toList ds p := hA0
  rw [Try.params7] at hA hval
  obtain ⟨v0, vs0, d0, ds0, p0, q0, hargs, rfl, rfl, h0, r0⟩ := trodAll_cons hA
  obtain ⟨rfl, rfl, rfl⟩ := trodAll_nil r0
  obtain rfl : args = #[v0] := by cases args; simp_all
  obtain ⟨rfl, rfl⟩ := trodVars_none hV
  have k0 := h0
  have lt0 : ∀ x ∈ p0, x.block < W.heap.size := by obtain ⟨m, hm⟩ := k0; exact DataW.trod_lt m _ _ _ hm
  obtain ⟨a0, len0, cap0, rfl, w0⟩ := Op.open_queries (hval 0 22 v0 rfl rfl) h0
  have hlen : len0 ≤ 1048576 := by
    have h1 := len_le k0
    have h2 : Rows.uptoBulkAll ([d0] ++ []) ≤ 1048576 := of_decide_eq_true hk
    simp only [List.append_nil, Rows.uptoBulkAll] at h2
    omega
  clear hA0
  refine (Ix.once_walk a0 len0 cap0 W w0 hlen).mono fun e W' ⟨he, bel⟩ => ?_
  subst he
  exact ⟨_, rfl, _, _, _, [], _, [], hW', trodAll_mk1 (shut_bool Try.underlying4 _), (trodAll_cons_mk (Below.trod laidOut (by kernel_rfl) (of_decide_eq_true (by kernel_rfl)) k0 bel lt0) trodAll_mk0), rfl, bel.frame _, fun h => by cases h⟩

set_option maxRecDepth 100000 in
theorem lifted (os : Os) (started : os.Started) (H : Type) (enc : TypeId × Value → H) (F : Stop.Interp) :
    ReturnsInHanded {} Try.checked os 7 .any ((Rows.OpenSpec.upto Rows.indexOnceSpec).pre6 enc Try.prog Try.f7 Rows.indexOnceUptoRow.domain false) (((Rows.OpenSpec.upto Rows.indexOnceSpec).at F).post enc Try.prog Try.f7 false true false false) := by
  refine returnsInHanded_of_cond (C := Try.checked) (s := Rows.OpenSpec.upto Rows.indexOnceSpec) (k := Rows.uptoSmall) rfl own started (by kernel_rfl) Try.func7
    (OpenSpec.witness (enc := enc) (C := Try.checked) (s := Rows.OpenSpec.upto Rows.indexOnceSpec) (k := Rows.uptoSmall) rfl false ⟨#[], #[.slice none 0 0], []⟩ 8 (by kernel_rfl) (by kernel_rfl) (by kernel_rfl) (by kernel_rfl)
      (x := ([.nil], [], [])) (by kernel_rfl) rfl (by kernel_rfl)) ?_
  intro W base args ds gs before hval hW _ hk _
  exact contract H enc W base args ds gs before hval hW hk

theorem proved : Rows.IndexOnceUptoSaid :=
  OpenClaim.holds_of_cond 7 Try.f7 rfl rfl rfl rfl rfl rfl rfl ⟨rfl, rfl, rfl, rfl, rfl⟩ rfl rfl rfl rfl rfl (by kernel_rfl) Try.func7 (by kernel_rfl)
    (of_decide_eq_true (by kernel_rfl)) (by unfold Func.isWrapper; first | (rw [if_pos (by decide +kernel)]; kernel_rfl) | (rw [if_neg (by decide +kernel)]; exact ⟨rfl, rfl⟩))
    (fun os started H enc _ F => lifted os started H enc F)
#print axioms proved
end Go.Proofs.Ytochpomddfjkoaa.indexOnce
