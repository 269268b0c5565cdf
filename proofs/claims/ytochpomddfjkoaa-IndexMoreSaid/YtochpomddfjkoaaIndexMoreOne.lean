/- IndexMore: for every input the law returns true, and each argument reads afterwards as it read before. No condition.
  The walk is the theorem Go.Proofs.Ytochpomddfjkoaa.Ix.more_walk. -/
import Derived.Test.YtochpomddfjkoaaChB
import Derived.Test.YtochpomddfjkoaaChA
import Derived.SizedLaws
import Derived.Test.YtochpomddfjkoaaRows
import Derived.WalkKit
import Derived.ProofKit
import Derived.OpenShut
import Derived.ShutString
import Derived.ChangeOld
import Derived.Below
import Derived.ChangeMaps5

namespace Go.Proofs.Ytochpomddfjkoaa.Ix
open Go.RowKit Go.Proofs.Ytochpomddfjkoaa.BM Go.Proofs.Ytochpomddfjkoaa.LM Go.Proofs.Ytochpomddfjkoaa.VaM Go.Proofs.Ytochpomddfjkoaa.ExM Go.Proofs.Ytochpomddfjkoaa.QyM Go.Proofs.Ytochpomddfjkoaa.IxM
open Go.Proofs.Ytochpomddfjkoaa.Va (ret_v)
open Go.Proofs.Ytochpomddfjkoaa.Qy (SlQ slQ_len KQ tyQ CellQ)

/-- How many steps the first of them have, twice. -/
def steps2 (l : List Q) (j : Nat) : Nat := 2 * ((l.take j).map fun q => q.p.length).sum
theorem steps2_succ {l : List Q} {j : Nat} (hj : j < l.length) : steps2 l (j + 1) = steps2 l j + 2 * (l.getD j q0).p.length := by
  unfold steps2
  rw [List.take_succ_eq_append_getElem hj, List.map_append, List.sum_append, List.getD_eq_getElem?_getD, List.getElem?_eq_getElem hj]
  simp
  omega
theorem few_app {l r : List Q} (h : QsFew (l ++ r)) : QsFew l := by
  obtain ⟨h1, h2⟩ := h
  rw [List.length_append] at h1
  refine ⟨by omega, fun i hi => ?_⟩
  have h3 := h2 i (by rw [List.length_append]; omega)
  rw [List.getD_eq_getElem?_getD, List.getElem?_append_left hi, ← List.getD_eq_getElem?_getD] at h3
  exact h3

/-- Queries that came in, as the elements of a row of the call's own. -/
theorem elems_in {w w' : World} {H : Nat} {v : Value} {l : List Q} {us : List Value} (h : RG.Elems KQ (fun _ => True) w l us) (hb : Below w.heap.size w w') (hH : w.heap.size = H) (hv : ∀ b, b < H → ne v b) : RG.Elems KQ (fun b => b < H ∧ ne v b) w' l us :=
  h.map fun _ _ e => KQ.kept (KQ.mono e fun b hlt _ => (⟨by omega, hv b (by omega)⟩ : b < H ∧ ne v b)) hb

set_option maxRecDepth 100000 in
set_option maxHeartbeats 8000000 in
theorem once_walk (la : Option Addr) (n lc : Nat) (w : World) (h0 : Op.ArgQs w la n lc) (hsm : n ≤ 1048576) :
    Calls Try.prog 7 #[.slice la n lc] w fun e w' => e = .returned (.bool true) ∧ Below w.heap.size w w' := by
  obtain ⟨l, hln, hL⟩ := h0
  obtain ⟨⟨us, hR, hE⟩, hcap, hnil, hcm⟩ := hL
  have hL : SlQ w la l lc := ⟨⟨us, hR, hE⟩, hcap, hnil, hcm⟩
  have hA := fun A c W (h : SlQ W A (l ++ l) c) => QsFew_any (l ++ l) A c W h
  have hAl := fun W (hW : Below w.heap.size w W) (hq : Little l) => All_any l la lc W (hL.kept hW) hq.1 hq.2
  have hA2 := fun A c W (h : SlQ W A (l ++ l) c) (hq : Little (l ++ l)) => All_any (l ++ l) A c W h hq.1 hq.2
  have hSa := fun W A r A' r' (h : SlPr W A (all l) r) (h' : SlPr W A' (all l) r') => refSame_any (all l) (all l) A r A' r' W h h'
  have hq1 : QsFew (l ++ l) → (Little l ∧ Little (l ++ l)) ∧ (n ≤ 6 ∧ ∀ j, j < n → (l.getD j q0).p.length ≤ 8) := fun h => by
    have h1 := few_app h
    exact ⟨⟨asks_few h1, asks_few h⟩, by rw [← hln]; exact h1.1, fun j hj => (h1.2 j (by rw [hln]; exact hj)).1⟩
  have hal := all_len l
  have htk : steps2 l n = 2 * (l.map fun q => q.p.length).sum := by
    unfold steps2
    rw [← hln, List.take_length]
  rw [← htk] at hal
  have hst := fun j => @steps2_succ l j
  have hst0 : steps2 l 0 = 0 := by simp [steps2]
  unfold AllB at hAl hA2
  rw [all_twice] at hA2
  simp only [List.length_append, hln, decide_true] at hA hAl hA2 hSa hst
  obtain ⟨L, hLd⟩ : ∃ L, L = all l := ⟨_, rfl⟩
  simp only [← hLd] at hAl hA2 hSa hal
  obtain ⟨Ln, hLn⟩ : ∃ n, n = L.length := ⟨_, rfl⟩
  simp only [← hLn] at hAl hA2 hSa hal
  obtain ⟨g, hg⟩ : ∃ g, g = steps2 l := ⟨_, rfl⟩
  simp only [← hg] at hal hst hst0
  obtain ⟨b1, hb1⟩ : ∃ b, b = decide (QsFew (l ++ l)) := ⟨_, rfl⟩
  simp only [← hb1] at hA
  have HQ1 := Lib.hid (fun h : b1 = true => hq1 (of_decide_eq_true (hb1.symm.trans h)))
  have HA := Lib.hid hA
  have HAl := Lib.hid hAl
  have HA2 := Lib.hid hA2
  have HSa := Lib.hid hSa
  have HL := Lib.hid hL
  have HLm := Lib.hid hln
  have HR := Lib.hid hR
  have HE := Lib.hid hE
  have HSt := Lib.hid hst
  have HSt0 := Lib.hid hst0
  have HAlen := Lib.hid hal
  clear hA hAl hA2 hSa hq1 hb1 hLd hLn hL hR hE hst hst0 hal htk hg hln
  go_enter Try.func7, Try.ntmps7
  go_wp2_with fail
  refine (awake_any _).mono ?_
  rintro e w1 ⟨rfl, hb⟩
  have HB1 := Lib.hid hb
  have HE1 := Lib.hid (elems_in (v := .slice none 0 0) HE.out hb rfl (fun b _ => fun e => by cases e))
  have HR1 := Lib.hid (HR.out.kept hb)
  have HO1 := Lib.hid (World.ownsRow_nil w1 w.heap.size 45 5)
  have hz1 := hb.size
  have hlen := HLm.out
  clear hb
  go_wp2_with (at_builtin; refine RG.Ty.wp_append (K := KQ) tyQ (fun b => b < w.heap.size) rfl (.const (.slice none 0 0)) (.tmp 11) rfl w.heap.size _ 0 [] [] rfl HO1.out rfl la n lc us l rfl hlen HR1.out HE1.out hnil (by omega) hz1 ?_; intro u2 w2 hown2 hel2 hgrow2; refine pause ?_)
  rw [Nat.zero_add, List.nil_append] at hown2
  rw [List.nil_append, List.nil_append] at hel2
  have hb2 := HB1.out.grown hgrow2 hz1 (fun q hq => by cases hq)
  have HB2 := Lib.hid hb2
  have HO2 := Lib.hid hown2
  have HE2 := Lib.hid hel2
  have HES := Lib.hid (elems_in (v := u2) HE.out hb2 rfl (fun b hb e => by have := (hown2.lt b e.symm).1; omega))
  have HR2 := Lib.hid (HR.out.kept hb2)
  have hz2 := hb2.size
  obtain ⟨A2, c2, hu2⟩ := RG.own_is hown2
  clear hown2 hel2 hgrow2 hb2 HE1 HR1 HO1 hz1 HB1
  subst hu2
  unfold Pause
  go_wp2_with (at_builtin; refine RG.Ty.wp_append (K := KQ) tyQ (fun b => b < w.heap.size) rfl (.tmp 12) (.tmp 13) rfl w.heap.size _ n us l rfl HO2.out HE2.out la n lc us l rfl hlen HR2.out HES.out hnil (by omega) hz2 ?_; intro u3 w3 hown3 hel3 hgrow3; refine pause ?_)
  have hb3 := HB2.out.grown hgrow3 hz2 (fun q hq => (HO2.out.lt q hq).1)
  obtain ⟨A3, c3, hu3, hn3, hsl3, _⟩ := RG.own_slG (K := KQ) hown3 hel3 (by decide)
  rw [← hn3] at hu3
  have HSl := Lib.hid (show SlQ w3 A3 (l ++ l) c3 from RG.SlG.mono hsl3 fun _ _ _ => trivial)
  have HB3 := Lib.hid hb3
  clear hown3 hel3 hgrow3 hb3 hsl3 hn3 HO2 HE2 HES HR2 hz2 HB2 hcap hnil hcm hlen HR HE
  subst hu3
  obtain ⟨n2, hn2⟩ : ∃ k, k = n + n := ⟨_, rfl⟩
  have HA3 := HA.out A3 c3 w3 HSl.out
  have HA23 := HA2.out A3 c3
  rw [← hn2] at HA3 HA23 ⊢
  have HCall := Lib.hid HA3
  have HA24 := Lib.hid HA23
  clear HA3 HA23 HA HA2 hn2
  unfold Pause
  go_wp2_with fail
  refine HCall.out.mono ?_
  rintro e w4 ⟨rfl, hb⟩
  have HB4 := Lib.hid (bt HB3.out hb)
  have HSl4 := Lib.hid (HSl.out.kept hb)
  clear hb HB3 HSl HCall
  cases b1 with
  | false =>
    go_wp2_with fail
    go_ret
    exact ⟨ret_v (x := .bool true) rfl, HB4.out⟩
  | true =>
    obtain ⟨⟨hlit1, hlit2⟩, hn6, hstp⟩ := HQ1.out (by trivial)
    have HLit1 := Lib.hid hlit1
    have HLit2 := Lib.hid hlit2
    have HStp := Lib.hid hstp
    clear hlit1 hlit2 hstp HQ1
    go_wp2_with fail
    go_loopw [6, 7] (fun k i wr => ∃ j : Nat, k = .int .i64 ((g j : Nat) : Int) ∧ i = .int .i64 (j : Int) ∧ j ≤ n ∧ g j ≤ 16 * j ∧ wr = w4) (fun _ i _ => n - (intOf i).toNat)
    case atStart => exact ⟨0, by rw [HSt0.out]; rfl, rfl, Nat.zero_le _, by rw [HSt0.out]; exact Nat.le_refl _, rfl⟩
    case round =>
      obtain ⟨j, rfl, rfl, hj, hgj, rfl⟩ := hrel
      by_cases hjn : j < n
      · obtain ⟨b1, q1, A1, c1, hix, hc, _⟩ := HL.out.at j (by rw [HLm.out]; exact hjn)
        have hi := fun W => hix W n lc hjn
        have hs := HSt.out j hjn
        have h8 := HStp.out j hjn
        obtain ⟨x, hx⟩ : ∃ x, x = l.getD j q0 := ⟨_, rfl⟩
        rw [← hx] at hc hs h8
        obtain ⟨r0, _, _, _, _⟩ := (hc _ HB4.out).1
        obtain ⟨m, hm⟩ : ∃ m, m = x.p.length := ⟨_, rfl⟩
        rw [← hm] at r0 hs h8
        have HS2 := Lib.hid hs
        clear hix hc hx hm hs
        go_wp2_with fail
        go_roundw
        case rel => exact ⟨j + 1, by rw [HS2.out]; go_num, by go_num, by omega, by rw [HS2.out]; omega, by trivial⟩
        case measure => simp [intOf]; omega
      · obtain rfl : j = n := by omega
        have hle := HAlen.out
        have hd : decide ((Ln : Int) ≤ ((g j : Nat) : Int)) = true := by rw [decide_eq_true_iff]; omega
        have hd' : decide (Ln ≤ g j) = true := by rw [decide_eq_true_iff]; exact hle
        obtain ⟨gn, hgn⟩ : ∃ k, k = g j := ⟨_, rfl⟩
        rw [← hgn] at hd hd' ⊢
        clear hjn hj hgj hle hgn
        go_wp2_with fail
        refine (HAl.out _ HB4.out HLit1.out).mono ?_
        rintro e w5 ⟨A5, c5, rfl, hs5, hb⟩
        have HB5 := Lib.hid (bt HB4.out hb)
        have HS5 := Lib.hid hs5
        have HCall := Lib.hid (HA24.out w5 (HSl4.out.kept hb) HLit2.out)
        clear hb hs5 HB4 HSl4 HA24 HAl
        go_wp2_with fail
        refine HCall.out.mono ?_
        rintro e w6 ⟨A6, c6, rfl, hs6, hb⟩
        have HB6 := Lib.hid (bt HB5.out hb)
        have HCall2 := Lib.hid (HSa.out w6 A6 c6 A5 c5 hs6 (HS5.out.kept hb))
        clear hb hs6 HB5 HS5 HCall HSa
        go_wp2_with fail
        refine HCall2.out.mono ?_
        rintro e w7 ⟨rfl, hb⟩
        have HB7 := Lib.hid (bt HB6.out hb)
        clear hb HB6 HCall2
        go_wp2_with fail
        go_ret
        exact ⟨ret_v (x := .bool true) (by first | rfl | simp), HB7.out⟩
end Go.Proofs.Ytochpomddfjkoaa.Ix

namespace Go.Proofs.Ytochpomddfjkoaa.Op
open Go.RowKit Go.ChangeShapes Go.WideShapes

/-- Queries that came in lie where their slice says, and their own cells are no more than memory bears. -/
def ArgQr (W : World) (a : Option Addr) (len cap : Nat) : Prop := ArgQs W a len cap ∧ len * 56 ≤ 140737488351232

/-- What a slice's own elements weigh. -/
theorem weight_own {H : Type} {P : Program} {t e : TypeId} {elems spare : List (DataW H)} (hu : P.underlying t = some (.slice e)) {N : Nat} (h : ∀ n ∈ (DataW.slice elems spare).weights P t, n ≤ N) :
    (elems.length + spare.length) * P.bytesOf e ≤ N := by
  rw [DataW.weights, hu] at h
  simp only at h
  exact h _ (by simp)

set_option maxRecDepth 100000 in
theorem open_queries_room {H : Type} {enc : TypeId × Value → H} {W : World} {r : Reach} {b0 : Nat} {v : Value} {d : DataW H} {p : List MemPlace} (hv : Value.okWide Try.prog W r b0 22 v)
    (h : DataW.Trod enc Try.prog W 0 (fun _ => true) true 22 v d p) (hsz : ∀ n ∈ d.weights Try.prog 22, n ≤ reachBytes) : ∃ a len cap, v = .slice a len cap ∧ ArgQr W a len cap := by
  obtain ⟨a, len, cap, rfl, harg⟩ := open_queries hv h
  refine ⟨a, len, cap, rfl, harg, ?_⟩
  obtain ⟨fuel, hf⟩ := h
  simp only [Value.cells] at hf
  rcases Deep.open_slice Try.underlying22 hf with ⟨hcs, _⟩ | ⟨x, l, c, m, n, D, Pl, hcs, _, hl, hm, hmm, hx, _⟩
  · simp only [List.cons.injEq, Value.slice.injEq, and_true] at hcs
    obtain ⟨_, rfl, _⟩ := hcs
    omega
  · simp only [List.cons.injEq, Value.slice.injEq, and_true] at hcs
    obtain ⟨_, rfl, rfl⟩ := hcs
    rw [(Prod.mk.inj hx).1] at hsz
    have h1 := weight_own Try.underlying22 hsz
    rw [show Try.prog.bytesOf 45 = 56 from by kernel_rfl] at h1
    simp only [List.length_map, List.length_range, reachBytes] at h1
    omega
end Go.Proofs.Ytochpomddfjkoaa.Op

namespace Go.Proofs.Ytochpomddfjkoaa.RG
open Go.RowKit Go.Proofs.Ytochpomddfjkoaa.BM Go.Proofs.Ytochpomddfjkoaa.LM

set_option maxRecDepth 100000 in
/-- append onto a row of the call's own, whatever the source, as far as memory bears it. -/
theorem Ty.append_big {α : Type} {K : Kind α} {t e : TypeId} {bytes : Nat} {z : Value} (h : Ty t e K.size bytes z) (p0 : Nat → Prop) {w : World} (ty : TypeId) (base : Nat) (v : Value) (n : Nat) (vs : List Value) (l : List α)
    (hown : w.ownsRow base e K.size v n vs) (hE : Elems K (fun b => p0 b ∧ ne v b) w l vs) (A : Option Addr) (m c : Nat) (us : List Value) (r : List α) (hm : r.length = m) (hR : IsRow w A us) (hF : Elems K (fun b => p0 b ∧ ne v b) w r us) (hnil : A = none → c = 0)
    (h63 : n + m ≤ maxLen) (hby : (n + m) * bytes ≤ 140737488355328) (hbase : base ≤ w.heap.size) :
    ∃ v' w', (Builtin.append_ #[t, t] ty #[v, .slice A m c]).run Try.prog w = .ok v' w' ∧ w'.ownsRow base e K.size v' (n + m) (vs ++ us) ∧ Elems K (fun b => p0 b ∧ ne v' b) w' (l ++ r) (vs ++ us) ∧ w.grownBy w' v.ownBlock := by
  obtain ⟨i0, hi, hz0, hz1, hz2⟩ := info_parts h.info
  have hul : us.length = m * K.size := by rw [hF.len, hm]
  have hall := Elems.app hF hE
  have after : ∀ v' w', w.grownBy w' v.ownBlock → (v'.ownBlock = v.ownBlock ∨ v'.ownBlock = some w.heap.size) → Elems K (fun b => p0 b ∧ ne v' b) w' (l ++ r) (vs ++ us) := fun v' w' hg hb =>
    (hall.map fun _ _ e => K.mono e fun b hlt hn => (⟨hn, hlt⟩ : (p0 b ∧ ne v b) ∧ b < w.heap.size)).map fun _ _ e => K.mono (K.grown e hg fun b hb => hb.1.2) fun b _ hb' => ⟨hb'.1.1, ne_fresh hb b hb'.2 hb'.1.2⟩
  match A, hR, hnil with
  | none, hR, hnil =>
    have hu : us = [] := by
      rcases Nat.eq_zero_or_pos us.length with h0 | h0
      · exact List.eq_nil_of_length_eq_zero h0
      · obtain ⟨b, q, he, _⟩ := hR h0
        cases he
    have hm0 : m = 0 := by
      rw [hu] at hul
      have hp := h.pos
      rcases Nat.eq_zero_or_pos m with h0 | h0
      · exact h0
      · have := Nat.mul_pos h0 hp
        simp only [List.length_nil] at hul
        omega
    obtain rfl := hnil rfl
    subst hm0
    refine ⟨v, w, run_append_owned_none (w := w) base t ty e i0 K.size h.und hi v n vs hown, ?_, after v w (World.grownBy.refl _ _) (Or.inl rfl), World.grownBy.refl _ _⟩
    rw [hu, List.append_nil]
    exact hown
  | some ad, hR, _ =>
    obtain ⟨v', w', hr, h2, h3, _, h5⟩ := run_append_own_at (P := Try.prog) w base t ty e i0 z K.size bytes h.und hi hz0 hz1 hz2 h.zs h.pos v n vs hown ad m c us hul
      (fun j u hj => by
        obtain ⟨b, q, he, hc⟩ := hR (by have := (List.getElem?_eq_some_iff.1 hj).1; omega)
        injection he with he
        subst he
        rw [Addr.add_lit]
        exact hc j u hj)
      hF.one h63 hby hbase
    exact ⟨v', w', hr, h2, after v' w' h3 h5, h3⟩
end Go.Proofs.Ytochpomddfjkoaa.RG
namespace Go.Proofs.Ytochpomddfjkoaa.Ix
open Go.RowKit Go.Proofs.Ytochpomddfjkoaa.BM Go.Proofs.Ytochpomddfjkoaa.LM Go.Proofs.Ytochpomddfjkoaa.VaM Go.Proofs.Ytochpomddfjkoaa.ExM Go.Proofs.Ytochpomddfjkoaa.QyM Go.Proofs.Ytochpomddfjkoaa.IxM
open Go.Proofs.Ytochpomddfjkoaa.Va (ret_v)
open Go.Proofs.Ytochpomddfjkoaa.Qy (SlQ slQ_len SlSt slSt_len KQ tyQ CellQ encQ bx5 FineQ)

/-- A query of the call's own memory, as an element. -/
theorem rel_q {w w' : World} {H : Nat} {v : Value} {q : Q} {A : Option Addr} {c : Nat} (h : SlSt w A q.p c) (hq : FineQ q) (hb : Below w.heap.size w w') (hH : w.heap.size = H) (hv : ∀ b, b < H → ne v b) : KQ.rel (fun b => b < H ∧ ne v b) w' q (encQ q A c) := by
  have h1 : KQ.rel (fun _ => True) w q (encQ q A c) := ⟨A, c, rfl, h, hq, fun _ _ _ => trivial⟩
  exact KQ.kept (KQ.mono h1 fun b hlt _ => (⟨by omega, hv b (by omega)⟩ : b < H ∧ ne v b)) hb
theorem take_pre {l m : List Pr} (h : l <+: m) : m.take l.length = l := (List.prefix_iff_eq_take.1 h).symm

set_option maxRecDepth 100000 in
set_option maxHeartbeats 8000000 in
theorem more_walk (la : Option Addr) (n lc : Nat) (qw qa qi qf : Int) (qA : Option Addr) (qn qc : Nat) (w : World) (h0 : Op.ArgQr w la n lc) (h1 : Op.ArgQ w qw qa qi qf qA qn qc) :
    Calls Try.prog 5 #[.slice la n lc, .agg #[.slice qA qn qc, .int .i64 qw, .int .i64 qa, .int .i64 qi, .int .i64 qf]] w fun e w' => e = .returned (.bool true) ∧ Below w.heap.size w w' := by
  obtain ⟨⟨l, hln, hL⟩, hroom⟩ := h0
  obtain ⟨qp, hqn, hQ, hfine⟩ := h1
  obtain ⟨⟨us, hR, hE⟩, hcap, hnil, hcm⟩ := hL
  have hL : SlQ w la l lc := ⟨⟨us, hR, hE⟩, hcap, hnil, hcm⟩
  clear hcm
  obtain ⟨q, hq⟩ : ∃ q : Q, q = ⟨qp, qw, qa, qi, qf⟩ := ⟨_, rfl⟩
  have hqs : SlSt w qA q.p qc := by rw [hq]; exact hQ
  have hqf : FineQ q := by rw [hq]; exact hfine
  have henc : encQ q qA qc = [.slice qA qn qc, .int .i64 qw, .int .i64 qa, .int .i64 qi, .int .i64 qf] := by rw [hq, ← hqn]; rfl
  have hqlen : q.p.length = qn := by rw [hq]; exact hqn
  have hA := fun A c W (h : SlQ W A (l ++ [q]) c) => QsFew_any (l ++ [q]) A c W h
  have hAl := fun W (hW : Below w.heap.size w W) (hq : Little l) => All_any l la lc W (hL.kept hW) hq.1 hq.2
  have hA2 := fun A c W (h : SlQ W A (l ++ [q]) c) (hq : Little (l ++ [q])) => All_any (l ++ [q]) A c W h hq.1 hq.2
  have hpre := all_more l q
  have htk := take_pre hpre.1
  have hle := hpre.1.length_le
  have hsl := fun W A c (h : SlPr W A (all (l ++ [q])) c) => show SlPr W A (all l) c from by rw [← htk]; exact RG.SlG.take h (all l).length
  have hcp := fun W A c (h : SlPr W A (all (l ++ [q])) c) => (show (all (l ++ [q])).length ≤ c from h.2.1)
  have hSa := fun W A r A' r' (h : SlPr W A (all l) r) (h' : SlPr W A' (all l) r') => refSame_any (all l) (all l) A r A' r' W h h'
  have hq1 : QsFew (l ++ [q]) → (Little l ∧ Little (l ++ [q])) ∧ qn ≤ 8 := fun h => by
    refine ⟨⟨asks_few (few_app h), asks_few h⟩, ?_⟩
    have h1 := (h.2 l.length (by simp)).1
    rw [List.getD_eq_getElem?_getD, List.getElem?_append_right (Nat.le_refl _)] at h1
    simp only [Nat.sub_self, List.getElem?_cons_zero, Option.getD_some] at h1
    rw [← hqlen]
    exact h1
  have hll : Little l → (all l).length ≤ 100000000 := fun hq => by
    have h1 := (pushes_len (l.flatMap askQ) []).2
    have h2 := hq.1
    unfold all
    simp only [List.length_nil] at h1
    omega
  have hmore := hpre.2
  rw [hqlen] at hmore
  unfold AllB at hAl hA2
  simp only [List.length_append, List.length_singleton, hln, decide_true] at hA hAl hA2 hSa
  obtain ⟨L, hLd⟩ : ∃ L, L = all l := ⟨_, rfl⟩
  obtain ⟨M, hMd⟩ : ∃ L, L = all (l ++ [q]) := ⟨_, rfl⟩
  simp only [← hLd, ← hMd] at hAl hA2 hSa hmore hle hsl hcp hll
  obtain ⟨Ln, hLn⟩ : ∃ n, n = L.length := ⟨_, rfl⟩
  obtain ⟨Mn, hMn⟩ : ∃ n, n = M.length := ⟨_, rfl⟩
  simp only [← hLn, ← hMn] at hAl hA2 hSa hmore hle hcp hll
  obtain ⟨b1, hb1⟩ : ∃ b, b = decide (QsFew (l ++ [q])) := ⟨_, rfl⟩
  simp only [← hb1] at hA
  have HQ1 := Lib.hid (fun h : b1 = true => hq1 (of_decide_eq_true (hb1.symm.trans h)))
  have HA := Lib.hid hA
  have HAl := Lib.hid hAl
  have HA2 := Lib.hid hA2
  have HSa := Lib.hid hSa
  have HSl := Lib.hid hsl
  have HCp := Lib.hid hcp
  have HLl := Lib.hid hll
  have HMore := Lib.hid hmore
  have HLe := Lib.hid hle
  have HLm := Lib.hid hln
  have HR := Lib.hid hR
  have HE := Lib.hid hE
  have HQs := Lib.hid hqs
  have HQf := Lib.hid hqf
  have HEnc := Lib.hid henc
  have HRoom := Lib.hid hroom
  have hN0 := RG.bxN_new w 45 [.slice qA qn qc, .int .i64 qw, .int .i64 qa, .int .i64 qi, .int .i64 qf]
  have HN0 := Lib.hid hN0
  have HB0 := Lib.hid ((Below.refl w.heap.size w).alloc (Nat.le_refl _) (.cells #[.slice qA qn qc, .int .i64 qw, .int .i64 qa, .int .i64 qi, .int .i64 qf] 45))
  clear hA hAl hA2 hSa hsl hcp hll hmore hle hpre htk hq1 hb1 hLd hMd hLn hMn hL hR hE hqs hqf henc hqlen hq hfine hQ hqn hN0 hln hcap hroom
  go_enter Try.func5, Try.ntmps5
  go_wp2_with fail
  refine (awake_any _).mono ?_
  rintro e w1 ⟨rfl, hb⟩
  have HB1 := Lib.hid (bt HB0.out hb)
  have HN1 := Lib.hid (RG.BxN.kept HN0.out hb)
  clear hb HB0 HN0
  go_wp2_with fail
  obtain ⟨q0', q1', q2', q3', q4'⟩ := bx5 HN1.out
  refine RegB.GS_start (fun x => Below w1.heap.size w1 x) (by kernel_rfl) (by repeat (first | exact Reg.frameless_bodyPost | refine Reg.frameless_then ?_ | refine Reg.frameless_inBlock ?_)) (fun W hW => hW) (fun W hW => ?_)
  have cell : ∀ {a : Addr} {v : Value}, w1.cell? a = some v → ∀ x : RegB.At (fun x => Below w1.heap.size w1 x), x.world.cell? a = some v := fun {a v} h x => (x.ok.cell (World.block_lt_of_cell? w1 _ h)).trans h
  have y0 := cell q0'
  have y1 := cell q1'
  have y2 := cell q2'
  have y3 := cell q3'
  have y4 := cell q4'
  haveI hne5 : Nonempty (RegB.At (fun x => Below w1.heap.size w1 x)) := ⟨⟨W, hW⟩⟩
  have HW := Lib.hid hW
  have hzw : w.heap.size ≤ w1.heap.size := HB1.out.size
  clear q0' q1' q2' q3' q4' cell hW
  refine RegB.GS_step (i := 0) rfl (by kernel_rfl) (by rfl) (fun K hK => ?_); go_big_quiet_op; refine hK _ ?_; clear hK K
  refine RegB.GS_step (i := 2) rfl (by kernel_rfl) (by rfl) (fun K hK => ?_); go_big_quiet_op; refine hK _ ?_; clear hK K
  clear y0 y1 y2 y3 y4 hne5
  have hfree : ∀ b, b < w.heap.size → ne (.slice none 0 0) b := fun b _ e => by cases e
  have hb56 : (0 + n) * 56 ≤ 140737488355328 := by have := HRoom.out; omega
  have hb63 : 0 + n ≤ maxLen := by have := HRoom.out; unfold maxLen; omega
  refine RegB.GS_fork (i := 1) (j := 3) rfl rfl (by kernel_rfl) (by rfl) (by rfl) (fun K hK => ?_) (fun K hK => ?_)
  case' refine_1 =>
    have hbW := bt HB1.out HW.out
    have HBase := HW.out.size
    obtain ⟨u2, w2, r1, r2, r3, r4⟩ := tyQ.append_big (K := KQ) (fun b => b < w.heap.size) (w := W) 22 w1.heap.size (.slice none 0 0) 0 [] [] (World.ownsRow_nil _ _ _ _) rfl la n lc us l HLm.out (HR.out.kept hbW) (elems_in HE.out hbW rfl hfree) hnil hb63 hb56 HBase
    have hb2 : Below W.heap.size W w2 := (Below.refl _ _).grown r4 (Nat.le_refl _) (fun q hq => by cases hq)
    rw [Nat.zero_add, List.nil_append] at r2
    rw [List.nil_append, List.nil_append] at r3
    refine op_append_run (.const (.slice none 0 0)) (.tmp 11) rfl rfl rfl r1 ?_
    refine hK _ _ (bt HW.out hb2) ?_
    clear hK K
    simp only [Act.put, List.setIfInBounds_toArray, List.set_cons_zero, List.set_cons_succ]
    have hB2 := bt HB1.out (bt HW.out hb2)
    have ha := (Below.refl w2.heap.size w2).alloc (Nat.le_refl _) (.cells #[.slice qA qn qc, .int .i64 qw, .int .i64 qa, .int .i64 qi, .int .i64 qf] 45)
    have HO3 := Lib.hid (RegA.own_below r2 ha)
    have HE3 := Lib.hid (r3.map fun _ _ e => KQ.kept e ha)
    have hrow := (RG.elem_new (K := KQ) (p := fun b => b < w.heap.size ∧ ne u2 b) w2 45 q (encQ q qA qc) (rel_q HQs.out HQf.out hB2 rfl (fun b hb e => by have := (r2.lt b e.symm).1; omega)))
    rw [HEnc.out] at hrow
    have HNew := Lib.hid hrow
    have HB3 := Lib.hid (bt hB2 ha)
    have HS3 := Lib.hid (bt HW.out (bt hb2 ha))
    obtain ⟨bq, hbq⟩ : ∃ b, b = w2.heap.size := ⟨_, rfl⟩
    obtain ⟨A2, c2, hu2⟩ := RG.own_is r2
    subst hu2
    clear r1 r2 r3 r4 hb2 hbW hB2 ha hrow
    refine RegB.GS_event (i := 3) rfl (by kernel_rfl) (by rfl) (fun K hK => ?_)
    go_simp
    refine hK _ _ HS3.out ?_
    clear hK K
    obtain ⟨w3, hw3⟩ : ∃ w3, w3 = w2.alloc (.cells #[.slice qA qn qc, .int .i64 qw, .int .i64 qa, .int .i64 qi, .int .i64 qf] 45) := ⟨_, rfl⟩
    rw [show (List.toArray [Value.slice qA qn qc, .int .i64 qw, .int .i64 qa, .int .i64 qi, .int .i64 qf]) = #[Value.slice qA qn qc, .int .i64 qw, .int .i64 qa, .int .i64 qi, .int .i64 qf] from rfl] at HNew
    rw [← hw3, ← hbq] at HNew
    rw [← hw3] at HO3 HE3 HB3 HS3
    rw [← hw3, ← hbq]
    clear hw3 hbq
  case' refine_2 =>
    go_simp
    have ha := (Below.refl W.heap.size W).alloc (Nat.le_refl _) (.cells #[.slice qA qn qc, .int .i64 qw, .int .i64 qa, .int .i64 qi, .int .i64 qf] 45)
    have hnew := fun v hv => RG.elem_new (K := KQ) (p := fun b => b < w.heap.size ∧ ne v b) W 45 q (encQ q qA qc) (rel_q HQs.out HQf.out (bt HB1.out HW.out) rfl hv)
    rw [HEnc.out] at hnew
    obtain ⟨bq, hbq⟩ : ∃ b, b = W.heap.size := ⟨_, rfl⟩
    obtain ⟨w2, hw2⟩ : ∃ w3, w3 = W.alloc (.cells #[.slice qA qn qc, .int .i64 qw, .int .i64 qa, .int .i64 qi, .int .i64 qf] 45) := ⟨_, rfl⟩
    simp only [← hw2, ← hbq] at hnew
    rw [← hw2] at ha
    rw [← hw2, ← hbq]
    have hbW := bt HB1.out (bt HW.out ha)
    have HBase := (bt HW.out ha).size
    obtain ⟨u2, w3, r1, r2, r3, r4⟩ := tyQ.append_big (K := KQ) (fun b => b < w.heap.size) (w := w2) 22 w1.heap.size (.slice none 0 0) 0 [] [] (World.ownsRow_nil _ _ _ _) rfl la n lc us l HLm.out (HR.out.kept hbW) (elems_in HE.out hbW rfl hfree) hnil hb63 hb56 HBase
    have hb2 : Below w2.heap.size w2 w3 := (Below.refl _ _).grown r4 (Nat.le_refl _) (fun q hq => by cases hq)
    rw [Nat.zero_add, List.nil_append] at r2
    rw [List.nil_append, List.nil_append] at r3
    refine hK _ _ (bt HW.out ha) ?_
    clear hK K
    have HO3 := Lib.hid r2
    have HE3 := Lib.hid r3
    have hrow := hnew u2 (fun b hb e => by have := (r2.lt b e.symm).1; omega)
    have HNew := Lib.hid (show IsRow w3 (some ⟨bq, 0, none⟩) [Value.slice qA qn qc, .int .i64 qw, .int .i64 qa, .int .i64 qi, .int .i64 qf] ∧ RG.Elems KQ (fun b => b < w.heap.size ∧ ne u2 b) w3 [q] [Value.slice qA qn qc, .int .i64 qw, .int .i64 qa, .int .i64 qi, .int .i64 qf] from ⟨hrow.1.kept hb2, hrow.2.map fun _ _ e => KQ.kept e hb2⟩)
    have HB3 := Lib.hid (bt hbW hb2)
    have HS3 := Lib.hid (bt HW.out (bt ha hb2))
    have HR1 := Lib.hid r1
    obtain ⟨A2, c2, hu2⟩ := RG.own_is r2
    subst hu2
    clear r1 r2 r3 r4 hbW hb2 hrow hnew ha hw2 hbq
    refine RegB.GS_event (i := 1) rfl (by kernel_rfl) (by rfl) (fun K hK => ?_)
    refine op_append_run (.const (.slice none 0 0)) (.tmp 11) rfl rfl rfl HR1.out ?_
    refine hK _ _ HS3.out ?_
    simp only [Act.put, List.setIfInBounds_toArray, List.set_cons_zero, List.set_cons_succ]
    clear hK K HR1
  all_goals
    have hc63 : n + 1 ≤ maxLen := by have := HRoom.out; unfold maxLen; omega
    have hc56 : (n + 1) * 56 ≤ 140737488355328 := by have := HRoom.out; omega
    obtain ⟨u4, w4, r1, r2, r3, r4⟩ := tyQ.append_big (K := KQ) (fun b => b < w.heap.size) (w := w3) 22 w1.heap.size (.slice A2 n c2) n us l HO3.out HE3.out (some ⟨bq, 0, none⟩) 1 1 _ [q] rfl HNew.out.1 HNew.out.2 (fun h => by cases h) hc63 hc56 HS3.out.size
    have hb4 := HB3.out.grown r4 HB3.out.size (fun q hq => Nat.le_trans hzw (HO3.out.lt q hq).1)
    have hbS : Below w1.heap.size w1 w4 := HS3.out.grown r4 HS3.out.size fun k hk => (HO3.out.lt k hk).1
    obtain ⟨A4, c4, hu4, hn4, hsl4, _⟩ := RG.own_slG (K := KQ) r2 r3 (by decide)
    rw [← hn4] at hu4
    have HSl4 := Lib.hid (show SlQ w4 A4 (l ++ [q]) c4 from RG.SlG.mono hsl4 fun _ _ _ => trivial)
    have HB4 := Lib.hid hb4
    have HN4 := Lib.hid (RG.BxN.kept HN1.out hbS)
    have HR1 := Lib.hid r1
    subst hu4
    clear hc63 hc56 r1 r2 r3 r4 hn4 hsl4 hb4
    refine RegB.GS_event (i := 4) rfl (by kernel_rfl) (by rfl) (fun K hK => ?_)
    refine op_append_run (.tmp 12) (.tmp 14) rfl rfl rfl HR1.out ?_
    refine hK _ _ hbS ?_
    simp only [Act.put, List.setIfInBounds_toArray, List.set_cons_zero, List.set_cons_succ]
    clear hK K HR1 hbS
    refine RegB.GS_step (i := 5) rfl (by kernel_rfl) (by rfl) (fun K hK => ?_); go_big_quiet_op; refine hK _ ?_; clear hK K
    refine RegB.GS_done rfl ?_
    clear HO3 HE3 HNew HB3 HS3 hfree hb56 hb63 HN1 HB1 HW hzw
    have HCall := Lib.hid (HA.out A4 c4 w4 HSl4.out)
    clear HA
    go_wp2_with fail
    refine HCall.out.mono ?_
    rintro e w5 ⟨rfl, hb⟩
    have HB5 := Lib.hid (bt HB4.out hb)
    have HSl5 := Lib.hid (HSl4.out.kept hb)
    have HN5 := Lib.hid (RG.BxN.kept HN4.out hb)
    clear hb HB4 HSl4 HN4 HCall
    cases b1 with
    | false =>
      go_wp2_with fail
      go_ret
      exact ⟨ret_v (x := .bool true) rfl, HB5.out⟩
    | true =>
      obtain ⟨⟨hlit1, hlit2⟩, hq8⟩ := HQ1.out (by trivial)
      have hLb := HLl.out hlit1
      have HLit2 := Lib.hid hlit2
      have HCall := Lib.hid (HAl.out w5 HB5.out hlit1)
      clear hlit1 hlit2 HQ1 HAl HLl
      go_wp2_with fail
      refine HCall.out.mono ?_
      rintro e w6 ⟨A6, c6, rfl, hs6, hb⟩
      have HB6 := Lib.hid (bt HB5.out hb)
      have HN6 := Lib.hid (RG.BxN.kept HN5.out hb)
      have HS6 := Lib.hid hs6
      have HCall2 := Lib.hid (HA2.out A4 c4 w6 (HSl5.out.kept hb) HLit2.out)
      clear hb hs6 HB5 HSl5 HN5 HCall HA2 HLit2
      go_wp2_with fail
      refine HCall2.out.mono ?_
      rintro e w7 ⟨A7, c7, rfl, hs7, hb⟩
      have HB7 := Lib.hid (bt HB6.out hb)
      have HN7 := Lib.hid (RG.BxN.kept HN6.out hb)
      have HSame := Lib.hid (HSa.out w7 A6 c6 A7 c7 (HS6.out.kept hb) (HSl.out w7 A7 c7 hs7))
      have hcap7 := HCp.out w7 A7 c7 hs7
      have hle := HLe.out
      have hmore := HMore.out
      have hcut : ∀ W, (Instr.sliceAt 23 (.slice A7 Mn c7) none (some (.int .i64 (Ln : Int))) none).run Try.prog W = .ok (.slice A7 Ln c7) W := fun W => tyPr.cut W A7 Mn c7 Ln (by omega)
      have hd1 : decide (Mn < Ln) = false := by rw [decide_eq_false_iff_not]; omega
      have hd2 : decide ((Ln : Int) + 2 * (qn : Int) < (Mn : Int)) = false := by rw [decide_eq_false_iff_not]; omega
      obtain ⟨y0, _, _, _, _⟩ := bx5 HN7.out
      clear hb hs7 HB6 HN6 HS6 HCall2 HSa HSl HCp HLe HMore hcap7 hle hmore
      go_wp2_with fail
      refine HSame.out.mono ?_
      rintro e w8 ⟨rfl, hb⟩
      have HB8 := Lib.hid (bt HB7.out hb)
      clear hb HB7 HSame y0 hd1 hd2 hcut
      go_wp2_with fail
      go_ret
      exact ⟨ret_v (x := .bool true) (by first | rfl | simp), HB8.out⟩
end Go.Proofs.Ytochpomddfjkoaa.Ix

namespace Go.Proofs.Ytochpomddfjkoaa.indexMore
open Go.ChangeShapes Go.WideShapes Go.ChangeAt Go.RowKit

theorem own : ownKnob Try.prog.godebug = none := by kernel_rfl
theorem laidOut : laidOutB Try.prog = true := by kernel_rfl

set_option maxRecDepth 100000 in
theorem lifted (os : Os) (started : os.Started) (H : Type) (enc : TypeId × Value → H) :
    ReturnsInHanded {} Try.checked os 5 .any (Rows.indexMoreSpec.pre6 enc Try.prog Try.f5 Rows.indexMoreRow.domain false) (Rows.indexMoreSpec.post enc Try.prog Try.f5 false true false false) := by
  refine returnsInHanded_of_change_sized (C := Try.checked) own started (by kernel_rfl) Try.func5
    (ChangeSpec.witness6 (enc := enc) (C := Try.checked) false ⟨#[], #[.slice none 0 0, .agg #[.slice none 0 0, .int .i64 0, .int .i64 0, .int .i64 0, .int .i64 0]], []⟩ 8 (by kernel_rfl) (by kernel_rfl) (by kernel_rfl) (by kernel_rfl)) ?_
  intro W base args ds gs before hval0 hW hcnd hsz0 _
  have hsz : (DataW.weightsEach Try.prog (Try.f5.params.toList ++ Rows.indexMoreSpec.plain.varTypes Try.prog) (ds ++ gs)).all (· ≤ reachBytes) = true := hsz0
  rw [Try.params5] at hsz
  have hval : ∀ (j : Nat) t v, Try.f5.params[j]? = some t → args[j]? = some v → Value.okWide Try.prog W .any base t v := hval0
  have hW' := hW
  obtain ⟨p, q, hA0, hV, rfl, hfz, hnd⟩ := hW
  have hA : DataW.TrodAll enc Try.prog W 0 (fun _ => true) true Try.f5.params.toList args.toList ds p := hA0
  rw [Try.params5] at hA hval
  obtain ⟨v0, vs0, d0, ds0, p0, q0, hargs, rfl, rfl, h0, r0⟩ := trodAll_cons hA
  obtain ⟨v1, vs1, d1, ds1, p1, q1, rfl, rfl, rfl, h1, r1⟩ := trodAll_cons r0
  obtain ⟨rfl, rfl, rfl⟩ := trodAll_nil r1
  obtain rfl : args = #[v0, v1] := by cases args; simp_all
  obtain ⟨rfl, rfl⟩ := trodVars_none hV
  have k0 := h0
  have lt0 : ∀ x ∈ p0, x.block < W.heap.size := by obtain ⟨m, hm⟩ := k0; exact DataW.trod_lt m _ _ _ hm
  obtain ⟨a0, len0, cap0, rfl, w0⟩ := Op.open_queries_room (hval 0 22 v0 rfl rfl) h0 (fun n hn => by have h := List.all_eq_true.1 hsz n (DataW.weights_mem_each (j := 0) rfl rfl n hn); simpa using h)
  have k1 := h1
  have lt1 : ∀ x ∈ p1, x.block < W.heap.size := by obtain ⟨m, hm⟩ := k1; exact DataW.trod_lt m _ _ _ hm
  obtain ⟨qw1, qa1, qi1, qf1, a1, len1, cap1, rfl, w1⟩ := Op.open_query (hval 1 45 v1 rfl rfl) h1
  clear hA0 hval0
  refine (Go.Proofs.Ytochpomddfjkoaa.Ix.more_walk a0 len0 cap0 qw1 qa1 qi1 qf1 a1 len1 cap1 W w0 w1).mono fun e W' ⟨he, bel⟩ => ?_
  subst he
  exact ⟨_, rfl, _, _, _, [], _, [], hW', trodAll_mk1 (shut_bool Try.underlying4 _), (trodAll_cons_mk (Below.trod laidOut (by kernel_rfl) (of_decide_eq_true (by kernel_rfl)) k0 bel lt0) (trodAll_cons_mk (Below.trod laidOut (by kernel_rfl) (of_decide_eq_true (by kernel_rfl)) k1 bel lt1) trodAll_mk0)), rfl, bel.frame _, fun h => by cases h⟩

theorem over : Rows.indexMoreRow.holds Try.pinned (OpenSpec.ofChange Rows.indexMoreSpec) :=
  OpenClaim.holds_of_wide 5 Try.f5 rfl rfl rfl rfl rfl rfl rfl ⟨rfl, rfl, rfl, rfl, rfl⟩ rfl rfl rfl rfl rfl (by kernel_rfl) Try.func5 (by kernel_rfl)
    (of_decide_eq_true (by kernel_rfl)) (by unfold Func.isWrapper; first | (rw [if_pos (by decide +kernel)]; kernel_rfl) | (rw [if_neg (by decide +kernel)]; exact ⟨rfl, rfl⟩))
    (fun os started H enc _ => lifted os started H enc)

theorem proved : Rows.IndexMoreSaid := over
#print axioms proved
end Go.Proofs.Ytochpomddfjkoaa.indexMore
