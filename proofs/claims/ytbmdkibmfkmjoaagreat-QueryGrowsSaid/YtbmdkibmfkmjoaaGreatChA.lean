/- Several texts in one: what this layer has; what each asks is said at each theorem. -/
import Derived.Test.YtbmdkibmfkmjoaaGreatRegion
import Derived.Test.YtbmdkibmfkmjoaaGreatSlB
import Derived.Test.YtbmdkibmfkmjoaaGreatSchemaRd
import Derived.Test.YtbmdkibmfkmjoaaGreatBx
import Derived.Test.YtbmdkibmfkmjoaaGreatSlCut
import Derived.Test.YtbmdkibmfkmjoaaGreatQueryAg
import Derived.Test.YtbmdkibmfkmjoaaGreatBMem
import Derived.Test.YtbmdkibmfkmjoaaGreatIsRow
import Derived.Maps.AppendAt
import Derived.Test.YtbmdkibmfkmjoaaGreatQueryMath
import Derived.Test.YtbmdkibmfkmjoaaGreatSchemaMath
import Derived.Test.YtbmdkibmfkmjoaaGreatStrCore
import Derived.Test.YtbmdkibmfkmjoaaGreatRowG
import Derived.Test.YtbmdkibmfkmjoaaGreatRegMath
import Derived.Test.YtbmdkibmfkmjoaaGreatLeMath
import Derived.Test.YtbmdkibmfkmjoaaGreatExprBytes
import Derived.Test.YtbmdkibmfkmjoaaGreatOpRow
import Derived.Test.YtbmdkibmfkmjoaaGreatEventMath
import Derived.Test.YtbmdkibmfkmjoaaGreatLeZig
import Derived.Test.YtbmdkibmfkmjoaaGreatValueHeld
import Derived.Test.YtbmdkibmfkmjoaaGreatLeGet
import Derived.Test.YtbmdkibmfkmjoaaGreatLeMem
import Derived.BigQuiet
import Derived.Test.YtbmdkibmfkmjoaaGreatStepRow
import Derived.Laws.RangeAny
import Derived.Test.YtbmdkibmfkmjoaaGreatValueTail
import Derived.Test.YtbmdkibmfkmjoaaGreatPutSl

namespace Go.Proofs.YtbmdkibmfkmjoaaGreat.RegB
open Go.RowKit Go.Proofs.YtbmdkibmfkmjoaaGreat.Reg

/-- A world of which S is known. -/
structure At (S : World → Prop) where
  world : World
  ok : S world

section
variable {P : Program} {ops : Array Oper} {Q : Exit → Act → World → Prop} {S : World → Prop}

/-- What is left of a region. -/
def GS (P : Program) (ops : Array Oper) (Q : Exit → Act → World → Prop) (S : World → Prop) (fuel : Nat) (listed : Array Bool) (a : Act) (w : World) : Prop :=
  Frameless Q → S w → wpAnyH P .any ops Q S fuel listed a w

theorem GS_start {id : Nat} {a : Act} {w : World} (S : World → Prop) (hm : P.follows .mixedOrders = true) (hQ : Frameless Q) (hS : ∀ W, Below w.heap.size w W → S W)
    (h : ∀ W, Below w.heap.size w W → GS P ops Q S ops.size (Array.replicate ops.size false) a W) : (Code.region id ops true).wp P Q a w :=
  wp_region_any hm (wpAny_of_held _ _ _ _ (h w.drew (Below.refl _ _).drew hQ (hS w.drew (Below.refl _ _).drew)))

theorem GS_step {i : Nat} {o : Oper} {fuel : Nat} {listed : Array Bool} {a : Act} {w : World} (ho' : nth ops.toList i = some o) (hok : stepOk ops listed i = true) (hw : Region.wanted o (yielded ops a.tmps) = true)
    (h : ∀ K : Act → Prop, (∀ a', GS P ops Q S fuel (listed.setIfInBounds i true) a' w → K a') → o.quiet P a (fun w' => ∃ x : At S, w' = x.world) K) : GS P ops Q S (fuel + 1) listed a w := by
  intro hQ hSw
  have ho := at_of_nth ho'
  simp only [stepOk, ho, Bool.and_eq_true] at hok
  obtain ⟨⟨⟨hp, hs⟩, hf⟩, hr⟩ := hok
  obtain ⟨v, h1, h2⟩ := h _ (fun _ h => h)
  refine wpAnyH_take ho hs hf hr (fun c a w => hQ c a _ _ w) (.inl ⟨hw, fun w' hw' => ?_⟩) hSw (h2 hQ hSw)
  have h3 := h1 w' ⟨⟨w', hw'⟩, rfl⟩
  unfold Oper.quietAt at h3
  cases hrun : (execOp a.eval o).run P w' with
  | ok n w1 =>
    obtain ⟨u, rfl⟩ := plain_value hp hrun
    rw [hrun] at h3
    simp only [Oper.quietUpon] at h3
    rw [h3.1, h3.2]
  | halt x w1 =>
    rw [hrun] at h3
    exact h3.elim

/-- Operation number i alone may come up: it is carried out. -/
theorem GS_event {i : Nat} {o : Oper} {fuel : Nat} {listed : Array Bool} {a : Act} {w : World} (ho' : nth ops.toList i = some o) (hr : Region.ready .any ops listed = [i])
    (hw : Region.wanted o (yielded ops a.tmps) = true)
    (h : ∀ K : Act → World → Prop, (∀ a' w', S w' → GS P ops Q S fuel (listed.setIfInBounds i true) a' w' → K a' w') → o.wp P a w K Q) : GS P ops Q S (fuel + 1) listed a w := by
  intro hQ _
  have ho := at_of_nth ho'
  refine wpAnyH_all hr (by simp) (fun j hj => ?_)
  obtain rfl : j = i := by simpa using hj
  unfold wpOp
  simp only [ho, hw, if_true]
  exact .inl (h _ (fun a' w' hs hg => ⟨hs, hg hQ hs⟩))

/-- Two operations may come up. -/
theorem GS_fork {i j : Nat} {o o' : Oper} {fuel : Nat} {listed : Array Bool} {a : Act} {w : World} (ho : nth ops.toList i = some o) (ho' : nth ops.toList j = some o') (hr : Region.ready .any ops listed = [i, j])
    (hw : Region.wanted o (yielded ops a.tmps) = true) (hw' : Region.wanted o' (yielded ops a.tmps) = true)
    (h : ∀ K : Act → World → Prop, (∀ a' w', S w' → GS P ops Q S fuel (listed.setIfInBounds i true) a' w' → K a' w') → o.wp P a w K Q)
    (h' : ∀ K : Act → World → Prop, (∀ a' w', S w' → GS P ops Q S fuel (listed.setIfInBounds j true) a' w' → K a' w') → o'.wp P a w K Q) : GS P ops Q S (fuel + 1) listed a w := by
  intro hQ _
  refine wpAnyH_all hr (by simp) (fun k hk => ?_)
  have hk' : k = i ∨ k = j := by simpa using hk
  rcases hk' with rfl | rfl
  · unfold wpOp
    simp only [at_of_nth ho, hw, if_true]
    exact .inl (h _ (fun a' w' hs hg => ⟨hs, hg hQ hs⟩))
  · unfold wpOp
    simp only [at_of_nth ho', hw', if_true]
    exact .inl (h' _ (fun a' w' hs hg => ⟨hs, hg hQ hs⟩))

theorem GS_done {fuel : Nat} {listed : Array Bool} {a : Act} {w : World} (hr : Region.ready .any ops listed = []) (h : Q .normal a w) : GS P ops Q S fuel listed a w :=
  fun _ _ => wpAnyH_done hr h fuel
end
end Go.Proofs.YtbmdkibmfkmjoaaGreat.RegB

namespace Go.Proofs.YtbmdkibmfkmjoaaGreat.RegA
open Go.RowKit Go.Proofs.YtbmdkibmfkmjoaaGreat.BM Go.Proofs.YtbmdkibmfkmjoaaGreat.LM

theorem own_below {w w' : World} {base n : Nat} {e : TypeId} {size : Nat} {v : Value} {xs : List Value} (h : w.ownsRow base e size v n xs) (hb : Below w.heap.size w w') : w'.ownsRow base e size v n xs :=
  h.kept (row := none) ⟨hb.os, hb.tape, hb.output, hb.size, fun k hk _ => hb.block k hk⟩ (by cases v.ownBlock <;> simp)

theorem op_append_b {w : World} {o : Oper} {a : Act} {K : Act → World → Prop} {Q : Exit → Act → World → Prop} (s x : Operand)
    (ho : o.op = .call { callee := .builtin .append, args := #[s, x], argTypes := #[26, 26] })
    (base : Nat) (v : Value) (n : Nat) (xs : List Int) (hs : a.eval s = v) (hown : w.ownsRow base 5 1 v n (cs xs))
    (A : Option Addr) (m c : Nat) (ys : List Int) (hx : a.eval x = .slice A m c) (hm : ys.length = m) (hB : IsB w A ys) (hpos : 0 < m)
    (hsz : n + m ≤ 1000000000) (hbase : base ≤ w.heap.size)
    (h : ∀ v' w', w'.ownsRow base 5 1 v' (n + m) (cs (xs ++ ys)) → w.grownBy w' v.ownBlock → K (a.put o.dst v') w') : o.wp Tryz.prog a w K Q := by
  obtain ⟨i0, hi, hz0, hz1, hz2⟩ := info_parts info_u8
  have hcs : cs (xs ++ ys) = cs xs ++ cs ys := by simp [cs]
  obtain ⟨b, q, rfl, hc⟩ := hB.2 (by omega)
  obtain ⟨v', w', hr, h2, h3, _⟩ := run_append_own (P := Tryz.prog) w base 26 o.type 5 i0 (.int .u8 0) 1 1 Tryz.underlying26 hi hz0 hz1 hz2 rfl (by decide) v n (cs xs) hown ⟨b, q, none⟩ m c (cs ys) (by rw [cs_len, hm, Nat.mul_one])
    (fun j u hj => by
      have hjl : j < ys.length := by
        rw [← cs_len]
        exact (List.getElem?_eq_some_iff.1 hj).1
      rw [Addr.add_lit, hc j hjl, ← hj]
      simp [cs, List.getD_eq_getElem?_getD, hjl])
    (ints_oneCell .u8 ys) (by unfold maxLen; omega) (by omega) hbase
  unfold Oper.wp execOp
  simp only [ho, resolve, invoke, builtin, Sem.run_bind, Sem.run_pure, Result.andThen_ok, List.map_toArray, List.map_cons, List.map_nil, hs, hx, hr]
  exact h v' w' (by rw [hcs]; exact h2) h3
end Go.Proofs.YtbmdkibmfkmjoaaGreat.RegA

namespace Go.Proofs.YtbmdkibmfkmjoaaGreat.Sc
open Go.RowKit Go.Proofs.YtbmdkibmfkmjoaaGreat.BM Go.Proofs.YtbmdkibmfkmjoaaGreat.LM Go.Proofs.YtbmdkibmfkmjoaaGreat.LeM Go.Proofs.YtbmdkibmfkmjoaaGreat.VaM Go.Proofs.YtbmdkibmfkmjoaaGreat.Va Go.Proofs.YtbmdkibmfkmjoaaGreat.ScM

theorem grown_set (w : World) (b i : Nat) (u : Value) : w.grownBy (w.setCell ⟨b, i, none⟩ u) (some b) := by
  have h := (Below.refl 0 w).setCell (p := ⟨b, i, none⟩) (Nat.zero_le _) u
  exact ⟨h.os, h.tape, h.output, h.size, fun k _ hne => Below.heap_setCell w _ u k (fun e => hne (by rw [e]))⟩

theorem grown_trans {a b c : World} {r : Option Nat} (h : a.grownBy b r) (k : b.grownBy c r) : a.grownBy c r :=
  ⟨k.os.trans h.os, k.tape.trans h.tape, k.output.trans h.output, Nat.le_trans h.size k.size, fun i hi hne => (k.block i (Nat.lt_of_lt_of_le hi h.size) hne).trans (h.block i hi hne)⟩

/-- What a method leaves of the reader. -/
def Rdd (b : Nat) (A : Option Addr) (c : Nat) (xs : List Int) (w : World) (r : Rs) (w' : World) : Prop :=
  w.grownBy w' (some b) ∧ ∃ A' c', Bx2 w' b (.slice A' r.1.length c') (.bool r.2) ∧ ∀ W, SlB W A xs c → SlB W A' r.1 c'

theorem Rdd.trans {b : Nat} {A : Option Addr} {c : Nat} {xs : List Int} {w w1 w2 : World} {r1 r2 : Rs} {A' : Option Addr} {c' : Nat} (hg : w.grownBy w1 (some b)) (hW : ∀ W, SlB W A xs c → SlB W A' r1.1 c') (k : Rdd b A' c' r1.1 w1 r2 w2) : Rdd b A c xs w r2 w2 := by
  obtain ⟨h1, A2, c2, h2, h3⟩ := k
  exact ⟨grown_trans hg h1, A2, c2, h2, fun W h => h3 W (hW W h)⟩

/-- Bytes elsewhere stay. -/
theorem slB_grown {w w' : World} {A : Option Addr} {xs : List Int} {c b : Nat} (h : SlB w A xs c) (hg : w.grownBy w' (some b)) (hb : ∀ a, A = some a → a.block ≠ b) : SlB w' A xs c := by
  refine ⟨⟨h.1.1, fun hx => ?_⟩, h.2⟩
  obtain ⟨g, o, e, hc⟩ := h.1.2 hx
  exact ⟨g, o, e, fun j hj => hg.cell (hc j hj) (fun e' => hb _ e (by injection e'))⟩
end Go.Proofs.YtbmdkibmfkmjoaaGreat.Sc

namespace Go.Proofs.YtbmdkibmfkmjoaaGreat.Qy
open Go.RowKit Go.Proofs.YtbmdkibmfkmjoaaGreat.BM Go.Proofs.YtbmdkibmfkmjoaaGreat.LM Go.Proofs.YtbmdkibmfkmjoaaGreat.VaM Go.Proofs.YtbmdkibmfkmjoaaGreat.ExM Go.Proofs.YtbmdkibmfkmjoaaGreat.QyM
open Go.Proofs.YtbmdkibmfkmjoaaGreat.Sc (grown_set grown_trans)

/-- What Get answers. -/
def GotsQ (xs : List Int) (w : World) : Ending → World → Prop := fun e w' =>
  ∃ A c, e = .returned (.tuple #[agQ (gotQ (gQ xs)).1 A c, .int .i64 ((gotQ (gQ xs)).2.1 : Nat), .bool (gotQ (gQ xs)).2.2]) ∧ SlSt w' A (gotQ (gQ xs)).1.p c ∧ Below w.heap.size w w'

/-- Five cells, stored. -/
def put5 (w : World) (b : Nat) (v0 v1 v2 v3 v4 : Value) : World := ((((w.setCell ⟨b, 0, none⟩ v0).setCell ⟨b, 1, none⟩ v1).setCell ⟨b, 2, none⟩ v2).setCell ⟨b, 3, none⟩ v3).setCell ⟨b, 4, none⟩ v4
theorem bx5_put {w : World} {b : Nat} {u0 u1 u2 u3 u4 : Value} (h : RG.BxN w b [u0, u1, u2, u3, u4]) (v0 v1 v2 v3 v4 : Value) : RG.BxN (put5 w b v0 v1 v2 v3 v4) b [v0, v1, v2, v3, v4] :=
  RG.BxN.set (RG.BxN.set (RG.BxN.set (RG.BxN.set (RG.BxN.set h 0 (show 0 < 5 from by decide) v0) 1 (show 1 < 5 from by decide) v1) 2 (show 2 < 5 from by decide) v2) 3 (show 3 < 5 from by decide) v3) 4 (show 4 < 5 from by decide) v4
theorem bx5_free {w : World} {b : Nat} {v0 v1 v2 v3 v4 : Value} (h : RG.BxN w b [v0, v1, v2, v3, v4]) : w.frozen? ⟨b, 0, none⟩ = false ∧ w.frozen? ⟨b, 1, none⟩ = false ∧ w.frozen? ⟨b, 2, none⟩ = false ∧ w.frozen? ⟨b, 3, none⟩ = false ∧ w.frozen? ⟨b, 4, none⟩ = false :=
  ⟨(h 0 _ rfl).2, (h 1 _ rfl).2, (h 2 _ rfl).2, (h 3 _ rfl).2, (h 4 _ rfl).2⟩
theorem grown5 (w : World) (b : Nat) (v0 v1 v2 v3 v4 : Value) : w.grownBy (put5 w b v0 v1 v2 v3 v4) (some b) :=
  grown_trans (grown_trans (grown_trans (grown_trans (grown_set _ b 0 _) (grown_set _ b 1 _)) (grown_set _ b 2 _)) (grown_set _ b 3 _)) (grown_set _ b 4 _)
theorem below5 {B b : Nat} {w w' : World} (h : Below B w w') (hb : B ≤ b) (v0 v1 v2 v3 v4 : Value) : Below B w (put5 w' b v0 v1 v2 v3 v4) := ((((h.setCell hb _).setCell hb _).setCell hb _).setCell hb _).setCell hb _
end Go.Proofs.YtbmdkibmfkmjoaaGreat.Qy

namespace Go.Proofs.YtbmdkibmfkmjoaaGreat.BM
open Go.RowKit

set_option maxRecDepth 100000 in
theorem wp_append_bw {w : World} {ops : Array Oper} {rest : List Oper} {o : Oper} {a : Act} {Q : Exit → Act → World → Prop} (hgd : o.guard = none) (s x : Operand)
    (ho : o.op = .call { callee := .builtin .append, args := #[s, x], argTypes := #[26, 26] })
    (base : Nat) (v : Value) (n : Nat) (xs : List Int) (hs : a.eval s = v) (hown : w.ownsRow base 5 1 v n (cs xs))
    (A : Option Addr) (m c : Nat) (ys : List Int) (hx : a.eval x = .slice A m c) (hm : ys.length = m) (hB : IsB w A ys) (hnil : A = none → c = 0)
    (hsz : n + m ≤ 1000000000) (hbase : base ≤ w.heap.size)
    (h : ∀ v' w', w'.ownsRow base 5 1 v' (n + m) (cs (xs ++ ys)) → w.grownBy w' v.ownBlock → (v'.ownBlock = v.ownBlock ∨ v'.ownBlock = some w.heap.size) → wpList Tryz.prog ops Q rest (a.put o.dst v') w') : wpList Tryz.prog ops Q (o :: rest) a w := by
  obtain ⟨i0, hi, hz0, hz1, hz2⟩ := info_parts info_u8
  have hcs : cs (xs ++ ys) = cs xs ++ cs ys := by simp [cs]
  match A, hx, hB, hnil with
  | none, hx, hB, hnil =>
    have hy : ys = [] := by
      rcases Nat.eq_zero_or_pos ys.length with h0 | h0
      · exact List.eq_nil_of_length_eq_zero h0
      · obtain ⟨b, q, he, _⟩ := hB.2 h0
        cases he
    subst hy
    simp only [List.length_nil] at hm
    subst hm
    obtain rfl := hnil rfl
    refine wpList_append_own_none hgd s x 26 ho base 5 i0 1 Tryz.underlying26 hi v n (cs xs) hs hown hx (h v w ?_ (World.grownBy.refl _ _) (Or.inl rfl))
    simpa using hown
  | some ad, hx, hB, _ =>
    refine wpList_append_own_at w hgd s x 26 ho base 5 i0 (.int .u8 0) 1 1 Tryz.underlying26 hi hz0 hz1 hz2 rfl (by decide) v n (cs xs) hs hown ad m c (cs ys) hx (by rw [cs_len, hm, Nat.mul_one]) ?_ (ints_oneCell .u8 ys) (by unfold maxLen; omega) (by omega) hbase ?_
    · intro j u hj
      have hjl : j < ys.length := by
        rw [← cs_len]
        exact (List.getElem?_eq_some_iff.1 hj).1
      obtain ⟨b, q, he, hc⟩ := hB.2 (by omega)
      injection he with he
      subst he
      rw [Addr.add_lit, hc j hjl]
      rw [← hj]
      simp [cs, List.getD_eq_getElem?_getD, hjl]
    · intro v' w' h1 h2 _ h4
      exact h v' w' (by rw [hcs]; exact h1) h2 h4
end Go.Proofs.YtbmdkibmfkmjoaaGreat.BM

namespace Go.Proofs.YtbmdkibmfkmjoaaGreat.Qy
open Go.RowKit Go.Proofs.YtbmdkibmfkmjoaaGreat.BM Go.Proofs.YtbmdkibmfkmjoaaGreat.LM Go.Proofs.YtbmdkibmfkmjoaaGreat.LeM Go.Proofs.YtbmdkibmfkmjoaaGreat.VaM Go.Proofs.YtbmdkibmfkmjoaaGreat.ExM Go.Proofs.YtbmdkibmfkmjoaaGreat.QyM

/-- What Put answers. -/
def Putted (q : Q) (w : World) : Ending → World → Prop := fun r w' => ∃ A c, r = .returned (.tuple #[.slice A (QyM.pv q).length c, .bool (decide (QyM.May q))]) ∧ SlB w' A (QyM.pv q) c ∧ Below w.heap.size w w'

theorem take_snocSt {p : List St} {j : Nat} (hj : j < p.length) : p.take (j + 1) = p.take j ++ [p.getD j t0] := by
  rw [List.take_succ_eq_append_getElem hj]
  simp [List.getD_eq_getElem?_getD, hj]

/-- Bytes of the call's own, and where they do not lie. -/
structure PutS (w1 : World) (u : Value) (n : Nat) (ys : List Int) (W : World) : Prop where
  own : W.ownsRow w1.heap.size 5 1 u n (cs ys)
  bel : Below w1.heap.size w1 W

section
variable {w1 W W' : World} {u u' : Value} {n m b : Nat} {ys zs : List Int}
theorem PutS.kept (h : PutS w1 u n ys W) (hb : Below W.heap.size W W') : PutS w1 u n ys W' := ⟨RegA.own_below h.own hb, bt h.bel hb⟩
theorem PutS.grow (h : PutS w1 u n ys W) (hown : W'.ownsRow w1.heap.size 5 1 u' (n + m) (cs (ys ++ zs))) (hg : W.grownBy W' u.ownBlock) : PutS w1 u' (n + m) (ys ++ zs) W' :=
  ⟨hown, h.bel.grown hg h.bel.size (fun q hq => (h.own.lt q hq).1)⟩
theorem PutS.size (h : PutS w1 u n ys W) : w1.heap.size ≤ W.heap.size := h.bel.size

/-- A block that the bytes do not lie in. -/
theorem PutS.fresh (h : PutS w1 u n ys W) : some W.heap.size ≠ u.ownBlock := fun e => by
  have := (h.own.lt _ e.symm).2
  omega
theorem ne_on (hw : u'.ownBlock = u.ownBlock ∨ u'.ownBlock = some W.heap.size) (hb : b < W.heap.size) (hn : some b ≠ u.ownBlock) : some b ≠ u'.ownBlock := by
  rcases hw with h | h
  · rw [h]
    exact hn
  · rw [h]
    intro e
    injection e with e
    omega

/-- Other bytes, elsewhere. -/
def Off (W : World) (u : Value) (A : Option Addr) : Prop := ∀ a, A = some a → some a.block ≠ u.ownBlock ∧ a.block < W.heap.size
theorem off_new (h : PutS w1 u n ys W) {A : Option Addr} (_hb : Below W.heap.size W W') (hf : ∀ a, A = some a → W.heap.size ≤ a.block ∧ a.block < W'.heap.size) : Off W' u A := fun a ha => ⟨fun e => by
  have h1 := (h.own.lt _ e.symm).2
  have h2 := (hf a ha).1
  omega, (hf a ha).2⟩
theorem Off.kept {A : Option Addr} (h : Off W u A) (hb : Below W.heap.size W W') : Off W' u A := fun a ha => ⟨(h a ha).1, Nat.lt_of_lt_of_le (h a ha).2 hb.size⟩
theorem Off.grow {A : Option Addr} (h : Off W u A) (hw : u'.ownBlock = u.ownBlock ∨ u'.ownBlock = some W.heap.size) (hg : W.grownBy W' u.ownBlock) : Off W' u' A := fun a ha => ⟨ne_on hw (h a ha).2 (h a ha).1, Nat.lt_of_lt_of_le (h a ha).2 hg.size⟩
theorem slB_off {A : Option Addr} {xs : List Int} {c : Nat} (h : SlB W A xs c) (ho : Off W u A) (hg : W.grownBy W' u.ownBlock) : SlB W' A xs c := by
  refine ⟨⟨h.1.1, fun hx => ?_⟩, h.2⟩
  obtain ⟨g, o, e, hc⟩ := h.1.2 hx
  have hne : some g ≠ u.ownBlock := (ho _ e).1
  exact ⟨g, o, e, fun j hj => hg.cell (hc j hj) hne⟩
theorem bxN_grow {vs : List Value} (h : RG.BxN W b vs) (hn : some b ≠ u.ownBlock) (hg : W.grownBy W' u.ownBlock) : RG.BxN W' b vs := RG.BxN.grown h hg hn
end
end Go.Proofs.YtbmdkibmfkmjoaaGreat.Qy

namespace Go.Proofs.YtbmdkibmfkmjoaaGreat.Qy
open Go.RowKit Go.Proofs.YtbmdkibmfkmjoaaGreat.BM Go.Proofs.YtbmdkibmfkmjoaaGreat.VaM Go.Proofs.YtbmdkibmfkmjoaaGreat.ExM Go.Proofs.YtbmdkibmfkmjoaaGreat.QyM
open Go.Proofs.YtbmdkibmfkmjoaaGreat.ScM (Sc)

theorem asks_no {l : List Sc} {n : ByteArray} {f : List O} (h : (RgM.find l n).2 = false) : asks l n f = 3 := by rw [asks, if_pos h]
theorem asks_nil {l : List Sc} {n : ByteArray} {f : List O} (h : (RgM.find l n).2 = true) (hf : f = []) : asks l n f = 0 := by rw [asks, if_neg (by rw [h]; decide), if_pos hf]
theorem asks_kind {l : List Sc} {n : ByteArray} {f : List O} (h : (RgM.find l n).2 = true) (hf : f ≠ []) : asks l n f = if (kind (RgM.find l n).1 f).2 = 0 ∧ (kind (RgM.find l n).1 f).1 ≠ 1 then 5 else (kind (RgM.find l n).1 f).2 := by rw [asks, if_neg (by rw [h]; decide), if_neg hf]

theorem asksS_no {l : List Sc} {x : St} (h : ¬ (asks l x.s x.f = 0 ∧ x.g = true)) : asksS l x = asks l x.s x.f := by rw [asksS, if_neg h]
theorem asksS_yes {l : List Sc} {x : St} (h : asks l x.s x.f = 0) (hg : x.g = true) : asksS l x = asks l x.t x.h := by rw [asksS, if_pos ⟨h, hg⟩]

theorem check_1 {l : List Sc} {q : Q} (h : ¬ (RgM.May l ∧ May q)) : check l q = 1 := by rw [check, if_pos h]
theorem check_e {l : List Sc} {q : Q} (h : RgM.May l ∧ May q) {j : Nat} (hj : j < q.p.length) (h0 : ∀ i, i < j → asksS l (q.p.getD i t0) = 0) (he : asksS l (q.p.getD j t0) ≠ 0) : check l q = asksS l (q.p.getD j t0) := by
  have h1 := asksP_at hj h0 he
  rw [check, if_neg (fun k => k h), if_pos (by rw [h1]; exact he), h1]
theorem check_a {l : List Sc} {q : Q} (h : RgM.May l ∧ May q) (h0 : ∀ i, i < q.p.length → asksS l (q.p.getD i t0) = 0) : check l q = if aggBad l q then 5 else 0 := by
  have h1 : asksP l q.p = 0 := asksP_zero.2 fun x hx => by
    obtain ⟨i, hi, rfl⟩ := List.getElem_of_mem hx
    have := h0 i hi
    rw [List.getD_eq_getElem?_getD, List.getElem?_eq_getElem hi] at this
    exact this
  rw [check, if_neg (fun k => k h), if_neg (fun k => k h1)]

end Go.Proofs.YtbmdkibmfkmjoaaGreat.Qy

namespace Go.Proofs.YtbmdkibmfkmjoaaGreat.Sc
open Go.RowKit Go.Proofs.YtbmdkibmfkmjoaaGreat.BM Go.Proofs.YtbmdkibmfkmjoaaGreat.VaM Go.Proofs.YtbmdkibmfkmjoaaGreat.Va Go.Proofs.YtbmdkibmfkmjoaaGreat.ScM

theorem elem_f : Tryz.prog.underlying 38 = some (.slice (Tryz.prog.elem 38)) := by kernel_rfl
theorem size_f (w : World) : (sizeOf (Tryz.prog.elem 38)).run Tryz.prog w = .ok 2 w := by kernel_rfl

/-- l[j] -/
theorem index_f (w : World) (b o len cap j : Nat) (h : j < len) : (Instr.indexAt 38 (.slice (some ⟨b, o, none⟩) len cap) (.int .i64 (j : Int))).run Tryz.prog w = .ok (.pointer (some ⟨b, o + j * 2, none⟩)) w := by
  rw [run_indexAt_slice w _ _ _ _ _ _ elem_f, if_pos (by omega), size_f]
  simp only [Result.andThen, Int.toNat_natCast, Addr.add_lit]

/-- l[:k] -/
theorem cut_f (w : World) (A : Option Addr) (len cap k : Nat) (hk : k ≤ cap) :
    (Instr.sliceAt 38 (.slice A len cap) none (some (.int .i64 (k : Int))) none).run Tryz.prog w = .ok (.slice A k cap) w := by
  rw [run_sliceAt_slice w _ _ _ _ _ elem_f, run_slice_h w _ _ _ _ elem_f .i64 (k : Int) (by omega) (by omega), size_f]
  simp only [Result.andThen, sliced, Int.toNat_natCast, Nat.zero_mul, Nat.sub_zero]
  congr 2
  split
  · rfl
  · cases A <;> simp [Addr.add]

/-- A field's two cells, wherever they lie. -/
def CellF (w : World) (b q : Nat) (f : F) : Prop := w.cell? ⟨b, q, none⟩ = some (.string f.s) ∧ w.cell? ⟨b, q + 1, none⟩ = some (.int .i64 f.k)

theorem CellF.kept {w w' : World} {b q : Nat} {f : F} (h : CellF w b q f) (hb : Below w.heap.size w w') : CellF w' b q f := by
  obtain ⟨h0, h1⟩ := h
  exact ⟨(hb.cell (p := ⟨b, q, none⟩) (World.block_lt_of_cell? w _ h0)).trans h0, (hb.cell (p := ⟨b, q + 1, none⟩) (World.block_lt_of_cell? w _ h1)).trans h1⟩

/-- Where fields lie. -/
def IsF (w : World) (A : Option Addr) (l : List F) : Prop := 0 < l.length → ∃ b o, A = some ⟨b, o, none⟩ ∧ ∀ j, j < l.length → CellF w b (o + j * 2) (l.getD j d0)

/-- A slice of fields: where it lies, its length and its capacity; each name's size is an int. -/
def SlF (w : World) (A : Option Addr) (l : List F) (c : Nat) : Prop := IsF w A l ∧ l.length ≤ c ∧ (A = none → c = 0) ∧ c ≤ maxLen ∧ ∀ f ∈ l, f.s.size ≤ maxLen

theorem IsF.kept {w w' : World} {A : Option Addr} {l : List F} (h : IsF w A l) (hb : Below w.heap.size w w') : IsF w' A l := by
  intro h0
  obtain ⟨b, o, e, hc⟩ := h h0
  exact ⟨b, o, e, fun j hj => (hc j hj).kept hb⟩

theorem SlF.kept {w w' : World} {A : Option Addr} {l : List F} {c : Nat} (h : SlF w A l c) (hb : Below w.heap.size w w') : SlF w' A l c := ⟨h.1.kept hb, h.2⟩

theorem slF_none (w : World) : SlF w none [] 0 := ⟨fun h => absurd h (Nat.not_lt_zero _), Nat.le_refl _, fun _ => rfl, Nat.zero_le _, fun f hf => by cases hf⟩

theorem SlF.take {w : World} {A : Option Addr} {l : List F} {c : Nat} (h : SlF w A l c) (i : Nat) : SlF w A (l.take i) c := by
  obtain ⟨h1, h2, h3, h4, h5⟩ := h
  refine ⟨fun h0 => ?_, by rw [List.length_take]; omega, h3, h4, fun f hf => h5 f (List.mem_of_mem_take hf)⟩
  rw [List.length_take] at h0
  obtain ⟨b, o, e, hc⟩ := h1 (by omega)
  refine ⟨b, o, e, fun j hj => ?_⟩
  rw [List.length_take] at hj
  have e2 : (l.take i).getD j d0 = l.getD j d0 := by
    rw [List.getD_eq_getElem?_getD, List.getD_eq_getElem?_getD, List.getElem?_take, if_pos (by omega)]
  rw [e2]
  exact hc j (by omega)

/-- The j-th of them. -/
theorem SlF.at {w : World} {A : Option Addr} {l : List F} {c : Nat} (h : SlF w A l c) (j : Nat) (hj : j < l.length) :
    ∃ b q, (∀ W n k, j < n → (Instr.indexAt 38 (.slice A n k) (.int .i64 (j : Int))).run Tryz.prog W = .ok (.pointer (some ⟨b, q, none⟩)) W) ∧ (∀ W, Below w.heap.size w W → CellF W b q (l.getD j d0)) ∧ (l.getD j d0).s.size ≤ maxLen := by
  obtain ⟨h1, h2, h3, h4, h5⟩ := h
  obtain ⟨b, o, rfl, hc⟩ := h1 (by omega)
  exact ⟨b, o + j * 2, fun W n k hn => index_f W b o n k j hn, fun W hW => (hc j hj).kept hW, h5 _ (getD_mem hj)⟩

theorem slF_len {w : World} {A : Option Addr} {l : List F} {c : Nat} (h : SlF w A l c) : l.length ≤ 9223372036854775807 := by
  have h1 := h.2.1
  have h2 := h.2.2.2.1
  unfold maxLen at h2
  omega

/-- Fields elsewhere stay. -/
theorem slF_grown {w w' : World} {A : Option Addr} {l : List F} {c b : Nat} (h : SlF w A l c) (hg : w.grownBy w' (some b)) (hb : ∀ a, A = some a → a.block ≠ b) : SlF w' A l c := by
  refine ⟨fun hx => ?_, h.2⟩
  obtain ⟨g, o, e, hc⟩ := h.1 hx
  have hne : some g ≠ some b := fun e' => hb _ e (by injection e')
  exact ⟨g, o, e, fun j hj => ⟨hg.cell (hc j hj).1 hne, hg.cell (hc j hj).2 hne⟩⟩

/-- What is asked of a schema's own parts. -/
def Fine (s : Sc) : Prop := s.s.size ≤ maxLen ∧ -9223372036854775808 ≤ s.v ∧ s.v ≤ 9223372036854775807

set_option maxRecDepth 100000 in
/-- ==, of two fields. -/
theorem eql_f (s t : ByteArray) (k j : Int) (w : World) :
    (binOp .eql 72 (.agg #[.string s, .int .i64 k]) (.agg #[.string t, .int .i64 j])).run Tryz.prog w = .ok (.bool (decide ((⟨s, k⟩ : F) = ⟨t, j⟩))) w := by
  have hs : decide ((⟨s, k⟩ : F) = ⟨t, j⟩) = ((s.toList == t.toList) && (k == j)) := by
    rw [toList_beq, Bool.eq_iff_iff]
    simp
  rw [hs]
  simp only [run_eql_struct]
  go_simp
  by_cases h3 : s.toList = t.toList
  · by_cases h1 : k = j
    · simp [h1, h3]
    · simp [h1, h3]
  · simp [h3]

set_option maxRecDepth 100000 in
/-- !=, of two fields. -/
theorem neq_f (s t : ByteArray) (k j : Int) (w : World) :
    (binOp .neq 72 (.agg #[.string s, .int .i64 k]) (.agg #[.string t, .int .i64 j])).run Tryz.prog w = .ok (.bool (!decide ((⟨s, k⟩ : F) = ⟨t, j⟩))) w := by
  have h := eql_f s t k j w
  rw [run_eql_struct] at h
  rw [run_neq_struct]
  cases hr : (Op.equalIn 10000 72 (.agg #[.string s, .int .i64 k]) (.agg #[.string t, .int .i64 j])).run Tryz.prog w with
  | ok b w' =>
    rw [hr] at h
    simp only [Result.andThen_ok] at h ⊢
    injection h with h1 h2
    injection h1 with h1
    rw [h1, h2]
  | halt x w' =>
    rw [hr] at h
    cases h
end Go.Proofs.YtbmdkibmfkmjoaaGreat.Sc

namespace Go.Proofs.YtbmdkibmfkmjoaaGreat.Sc
open Go.RowKit Go.Proofs.YtbmdkibmfkmjoaaGreat.BM Go.Proofs.YtbmdkibmfkmjoaaGreat.LM Go.Proofs.YtbmdkibmfkmjoaaGreat.VaM Go.Proofs.YtbmdkibmfkmjoaaGreat.Va Go.Proofs.YtbmdkibmfkmjoaaGreat.ScM Go.Proofs.YtbmdkibmfkmjoaaGreat.RgM

/-- Fields stay, where another block grows. -/
theorem slF_grown' {w w' : World} {r : Option Nat} {A : Option Addr} {l : List F} {c : Nat} (h : SlF w A l c) (hg : w.grownBy w' r) (hb : 0 < l.length → ∀ a, A = some a → some a.block ≠ r) : SlF w' A l c := by
  refine ⟨fun hx => ?_, h.2⟩
  obtain ⟨g, o, e, hc⟩ := h.1 hx
  have hne := hb hx _ e
  exact ⟨g, o, e, fun j hj => ⟨hg.cell (hc j hj).1 hne, hg.cell (hc j hj).2 hne⟩⟩

/-- A schema's own cells: its fields' slice leads to a block of which p tells. -/
def RelS (p : Nat → Prop) (w : World) (s : Sc) (cs : List Value) : Prop :=
  ∃ A c, cs = [.string s.s, .int .i64 s.v, .slice A s.f.length c] ∧ SlF w A s.f c ∧ Fine s ∧ (0 < s.f.length → ∀ a, A = some a → p a.block)

theorem relS_lt {w : World} {A : Option Addr} {l : List F} {c : Nat} (h : SlF w A l c) (h0 : 0 < l.length) {a : Addr} (ha : A = some a) : a.block < w.heap.size := by
  obtain ⟨b, o, e, hc⟩ := h.1 h0
  rw [ha] at e
  injection e with e
  subst e
  exact World.block_lt_of_cell? w _ (hc 0 h0).1

/-- How a schema lies. -/
def KS : RG.Kind Sc where
  size := 3
  rel := RelS
  len := fun ⟨_, _, h, _⟩ => by rw [h]; rfl
  one := fun ⟨_, _, h, _⟩ u hu => by
    rw [h] at hu
    simp only [List.mem_cons, List.not_mem_nil, or_false] at hu
    rcases hu with rfl | rfl | rfl <;> rfl
  mono := fun ⟨A, c, h1, h2, h3, h4⟩ k => ⟨A, c, h1, h2, h3, fun h0 a ha => k _ (relS_lt h2 h0 ha) (h4 h0 a ha)⟩
  kept := fun ⟨A, c, h1, h2, h3, h4⟩ hb => ⟨A, c, h1, h2.kept hb, h3, h4⟩
  grown := fun ⟨A, c, h1, h2, h3, h4⟩ hg hr => ⟨A, c, h1, slF_grown' h2 hg (fun h0 a ha => hr _ (h4 h0 a ha)), h3, h4⟩

theorem tyS : RG.Ty 22 40 3 48 (.agg #[.string ⟨#[]⟩, .int .i64 0, .slice none 0 0]) :=
  ⟨by kernel_rfl, by kernel_rfl, by kernel_rfl, fun _ => by kernel_rfl, rfl, by decide, by decide⟩

/-- A slice of schemas: where it lies, its length and its capacity. -/
def SlS (w : World) (A : Option Addr) (l : List Sc) (c : Nat) : Prop := RG.SlG KS (fun _ => True) w A l c

theorem SlS.kept {w w' : World} {A : Option Addr} {l : List Sc} {c : Nat} (h : SlS w A l c) (hb : Below w.heap.size w w') : SlS w' A l c := RG.SlG.kept h hb
theorem slS_none (w : World) : SlS w none [] 0 := RG.slG_none _ _ _
theorem slS_len {w : World} {A : Option Addr} {l : List Sc} {c : Nat} (h : SlS w A l c) : l.length ≤ 9223372036854775807 := RG.slG_len h
theorem SlS.take {w : World} {A : Option Addr} {l : List Sc} {c : Nat} (h : SlS w A l c) (i : Nat) : SlS w A (l.take i) c := RG.SlG.take h i

/-- A schema's three cells, wherever they lie. -/
def CellS (w : World) (b q : Nat) (s : Sc) (A : Option Addr) (c : Nat) : Prop :=
  w.cell? ⟨b, q, none⟩ = some (.string s.s) ∧ w.cell? ⟨b, q + 1, none⟩ = some (.int .i64 s.v) ∧ w.cell? ⟨b, q + 2, none⟩ = some (.slice A s.f.length c)

/-- The j-th of them. -/
theorem SlS.at {w : World} {A : Option Addr} {l : List Sc} {c : Nat} (h : SlS w A l c) (j : Nat) (hj : j < l.length) :
    ∃ b q A1 c1, (∀ W n k, j < n → (Instr.indexAt 22 (.slice A n k) (.int .i64 (j : Int))).run Tryz.prog W = .ok (.pointer (some ⟨b, q, none⟩)) W) ∧
      (∀ W, Below w.heap.size w W → CellS W b q (l.getD j s0) A1 c1 ∧ SlF W A1 (l.getD j s0).f c1) ∧ Fine (l.getD j s0) := by
  have hd : l[j]? = some (l.getD j s0) := by rw [List.getD_eq_getElem?_getD, List.getElem?_eq_getElem hj]; rfl
  obtain ⟨b, o, cs, rfl, hW⟩ := RG.SlG.at h (by decide) j _ hd
  obtain ⟨⟨A1, c1, h1, _, h3, _⟩, _⟩ := hW w (Below.refl _ _)
  refine ⟨b, o + j * 3, A1, c1, fun W n k hn => tyS.index W b o n k j hn, fun W hb => ?_, h3⟩
  obtain ⟨⟨A2, c2, g1, g2, _⟩, g3⟩ := hW W hb
  rw [h1] at g1 g3
  simp only [List.cons.injEq, Value.slice.injEq, and_true, true_and] at g1
  obtain ⟨rfl, rfl⟩ := g1
  exact ⟨⟨g3 0 _ rfl, g3 1 _ rfl, g3 2 _ rfl⟩, g2⟩
end Go.Proofs.YtbmdkibmfkmjoaaGreat.Sc

namespace Go.Proofs.YtbmdkibmfkmjoaaGreat.Qy
open Go.RowKit Go.Proofs.YtbmdkibmfkmjoaaGreat.BM Go.Proofs.YtbmdkibmfkmjoaaGreat.LM Go.Proofs.YtbmdkibmfkmjoaaGreat.LeM Go.Proofs.YtbmdkibmfkmjoaaGreat.VaM Go.Proofs.YtbmdkibmfkmjoaaGreat.ExM Go.Proofs.YtbmdkibmfkmjoaaGreat.QyM
open Go.Proofs.YtbmdkibmfkmjoaaGreat.Ex (SlO slO_none)
open Go.Proofs.YtbmdkibmfkmjoaaGreat.Va (ret_v bx_new_t)
open Go.Proofs.YtbmdkibmfkmjoaaGreat.Sc (SlS slS_none SlF slF_none)

/-- The example's step, query, and schemas. -/
def exX : St := ⟨⟨#[97]⟩, [], 1, 1, false, e0, []⟩
def exQ : Q := ⟨[exX], 0, 0, 0, 0⟩
def exL : List ScM.Sc := [⟨⟨#[97]⟩, 1, []⟩]
theorem ex_may : QyM.May exQ := by decide
theorem ex_rng : RngQ exQ := by
  intro x hx
  obtain rfl : x = exX := by simpa [exQ] using hx
  exact ⟨(fun y hy => by cases hy), (fun y hy => by cases hy)⟩
theorem ex_pv : QyM.pv exQ = [1, 1, 97, 0, 1, 1, 0, 0, 0, 0, 0] := by
  rw [QyM.pv, if_pos ex_may]
  unfold pQ exQ exX
  have h1 : (ByteArray.mk #[97]).size = 1 := rfl
  simp [Gr.puts, pSt, pG, ScM.pn, pL, pOs, bl, putL_lt, h1]
theorem ex_got : gotQ (gQ (QyM.pv exQ)) = (exQ, 11, true) := by
  have h := law_q.app (a := exQ) (ys := []) ⟨okQ_of ex_may ex_rng, ex_may⟩ (fun x hx => by cases hx)
  rw [List.append_nil] at h
  have e : QyM.pv exQ = pQ exQ := by rw [QyM.pv, if_pos ex_may]
  rw [e, h, ← e, ex_pv]
  rfl
theorem ex_check : check exL exQ = 0 := by decide
theorem ex_none : check [] exQ = 3 := by decide
end Go.Proofs.YtbmdkibmfkmjoaaGreat.Qy

namespace Go.Proofs.YtbmdkibmfkmjoaaGreat.Qy
open Go.RowKit Go.Proofs.YtbmdkibmfkmjoaaGreat.BM Go.Proofs.YtbmdkibmfkmjoaaGreat.LM Go.Proofs.YtbmdkibmfkmjoaaGreat.LeM Go.Proofs.YtbmdkibmfkmjoaaGreat.VaM Go.Proofs.YtbmdkibmfkmjoaaGreat.ExM Go.Proofs.YtbmdkibmfkmjoaaGreat.QyM
open Go.Proofs.YtbmdkibmfkmjoaaGreat.Ex (SlO slO_none)
open Go.Proofs.YtbmdkibmfkmjoaaGreat.Va (ret_v bx_new_t)

theorem slSt_one (w : World) : SlSt (w.alloc (.cells #[.string ⟨#[97]⟩, .slice none 0 0, .int .i64 1, .int .i64 1, .bool false, .string ⟨#[]⟩, .slice none 0 0] 47)) (some ⟨w.heap.size, 0, none⟩) [exX] 1 := by
  have hrel : KSt.rel (fun _ => True) w exX (encSt exX none 0 none 0) := ⟨none, 0, none, 0, rfl, slO_none _, slO_none _, ⟨⟨by unfold maxLen; decide, by unfold maxLen; decide⟩, ⟨by decide, by decide⟩, by decide, by decide⟩, (fun h => absurd h (by decide)), (fun h => absurd h (by decide))⟩
  have h := RG.elem_new w 47 exX (encSt exX none 0 none 0) hrel
  exact ⟨⟨_, h.1, h.2⟩, Nat.le_refl _, (fun e => by cases e), by unfold maxLen; decide⟩

set_option maxRecDepth 100000 in
set_option maxHeartbeats 1000000 in
theorem One_any (w : World) : Calls Tryz.prog 20 #[] w fun e w' => ∃ A, e = .returned (.agg #[.slice A 1 1, .int .i64 0, .int .i64 0, .int .i64 0, .int .i64 0]) ∧ SlSt w' A exQ.p 1 ∧ Below w.heap.size w w' := by
  obtain ⟨u1, hu1⟩ : ∃ u, u = w.alloc (.cells #[.slice (some ⟨w.heap.size + 1, 0, none⟩) 1 1, .int .i64 0, .int .i64 0, .int .i64 0, .int .i64 0] 25) := ⟨_, rfl⟩
  have hs1 : u1.heap.size = w.heap.size + 1 := by rw [hu1]; simp
  have hN0 := RG.bxN_new w 25 [.slice (some ⟨w.heap.size + 1, 0, none⟩) 1 1, .int .i64 0, .int .i64 0, .int .i64 0, .int .i64 0]
  have ha0 := (Below.refl w.heap.size w).alloc (Nat.le_refl _) (.cells #[.slice (some ⟨w.heap.size + 1, 0, none⟩) 1 1, .int .i64 0, .int .i64 0, .int .i64 0, .int .i64 0] 25)
  rw [show (List.toArray [Value.slice (some ⟨w.heap.size + 1, 0, none⟩) 1 1, .int .i64 0, .int .i64 0, .int .i64 0, .int .i64 0]) = #[Value.slice (some ⟨w.heap.size + 1, 0, none⟩) 1 1, .int .i64 0, .int .i64 0, .int .i64 0, .int .i64 0] from rfl, ← hu1] at hN0
  rw [← hu1] at ha0
  have ha1 := (Below.refl u1.heap.size u1).alloc (Nat.le_refl _) (.cells #[.string ⟨#[97]⟩, .slice none 0 0, .int .i64 1, .int .i64 1, .bool false, .string ⟨#[]⟩, .slice none 0 0] 47)
  have hS := slSt_one u1
  rw [hs1] at hS
  have HN := Lib.hid (RG.BxN.kept hN0 ha1)
  have HS := Lib.hid hS
  have HB := Lib.hid (bt ha0 ha1)
  have HU := Lib.hid hu1
  clear hN0 ha0 ha1 hS hu1 hs1
  go_enter Tryz.func20, Tryz.ntmps20
  go_wp2_with fail
  rw [← HU.out]
  obtain ⟨g0, g1, g2, g3, g4⟩ := bx5 HN.out
  exact bodyPost_ret (v := .agg #[.slice (some ⟨w.heap.size + 1, 0, none⟩) 1 1, .int .i64 0, .int .i64 0, .int .i64 0, .int .i64 0]) (by simp [results, Tryz.results20, go_sem, g0, g1, g2, g3, g4]) rfl ⟨_, rfl, HS.out, HB.out⟩
end Go.Proofs.YtbmdkibmfkmjoaaGreat.Qy

namespace Go.Proofs.YtbmdkibmfkmjoaaGreat.QyM
open Go.RowKit Go.Proofs.YtbmdkibmfkmjoaaGreat.BM Go.Proofs.YtbmdkibmfkmjoaaGreat.LeM Go.Proofs.YtbmdkibmfkmjoaaGreat.VaM Go.Proofs.YtbmdkibmfkmjoaaGreat.ExM
open Go.Proofs.YtbmdkibmfkmjoaaGreat.ScM (Nm pn gN Sc gN_some)
open Go.Proofs.YtbmdkibmfkmjoaaGreat.Gr (Law By num)

/-- What is left, and whether it is short. -/
abbrev Os := List Int × Bool

/-- A number of 64 bits, as an int, and back. -/
def wrp (n : Nat) : Int := if n < 9223372036854775808 then (n : Int) else (n : Int) - 18446744073709551616
def unw (z : Int) : Nat := if 0 ≤ z then z.toNat else (z + 18446744073709551616).toNat
theorem wrp_rng {n : Nat} (h : n ≤ 18446744073709551615) : -9223372036854775808 ≤ wrp n ∧ wrp n ≤ 9223372036854775807 := by
  unfold wrp
  split <;> omega
theorem unw_wrp {n : Nat} (h : n ≤ 18446744073709551615) : unw (wrp n) = n := by
  unfold unw wrp
  split <;> split <;> omega
theorem wrp_unw {z : Int} (h1 : -9223372036854775808 ≤ z) (h2 : z ≤ 9223372036854775807) : wrp (unw z) = z := by
  unfold unw wrp
  split <;> split <;> omega
theorem unw_le {z : Int} (h1 : -9223372036854775808 ≤ z) (h2 : z ≤ 9223372036854775807) : unw z ≤ 18446744073709551615 := by
  unfold unw
  split <;> omega
theorem unw_nat {z : Int} (h : 0 ≤ z) : unw z = z.toNat := by rw [unw, if_pos h]
theorem wrp_lt {n : Nat} (h : n < 9223372036854775808) : wrp n = (n : Int) := by rw [wrp, if_pos h]
theorem wrp_ge {n : Nat} (h : ¬ n < 9223372036854775808) : wrp n = (n : Int) - 18446744073709551616 := by rw [wrp, if_neg h]

/-- A part. -/
def tk {α : Type} (g : List Int → Option (α × Nat)) (d : α) (s : Os) : α × Os :=
  match g s.1 with
  | none => (d, (s.1, true))
  | some (a, m) => (a, (s.1.drop m, s.2))

section
variable {α : Type} {g : List Int → Option (α × Nat)} {d : α} {xs : List Int} {b : Bool}
theorem tk_none (h : g xs = none) : tk g d (xs, b) = (d, (xs, true)) := by simp [tk, h]
theorem tk_some {a : α} {m : Nat} (h : g xs = some (a, m)) : tk g d (xs, b) = (a, (xs.drop m, b)) := by simp [tk, h]
theorem tk_short {s : Os} (h : s.2 = true) : (tk g d s).2.2 = true := by
  unfold tk
  split
  · rfl
  · exact h
theorem tk_by {s : Os} (h : By s.1) : By (tk g d s).2.1 := by
  unfold tk
  split
  · exact h
  · exact h.drop _
theorem tk_le {s : Os} : (tk g d s).2.1.length ≤ s.1.length := by
  unfold tk
  split
  · exact Nat.le_refl _
  · rw [List.length_drop]
    omega
end

/-- So many. -/
def reps {α : Type} (f : Os → α × Os) : Nat → Os → List α × Os
  | 0, s => ([], s)
  | n + 1, s => ((reps f n s).1 ++ [(f (reps f n s).2).1], (f (reps f n s).2).2)

/-- What a part's reader is like. -/
structure Rdr {α : Type} (g : List Int → Option (α × Nat)) (f : Os → α × Os) : Prop where
  short : ∀ {s : Os}, s.2 = true → (f s).2.2 = true
  bytes : ∀ {s : Os}, By s.1 → By (f s).2.1
  less : ∀ {s : Os}, (f s).2.1.length ≤ s.1.length
  some : ∀ {xs : List Int} {a : α} {m : Nat}, g xs = Option.some (a, m) → f (xs, false) = (a, (xs.drop m, false))
  none : ∀ {xs : List Int}, g xs = Option.none → (f (xs, false)).2.2 = true

theorem rdr_tk {α : Type} (g : List Int → Option (α × Nat)) (d : α) : Rdr g (tk g d) :=
  ⟨tk_short, tk_by, tk_le, tk_some, fun h => by rw [tk_none h]⟩

section
variable {α β : Type} {g : List Int → Option (α × Nat)} {f : Os → α × Os}
theorem reps_len (n : Nat) (s : Os) : (reps f n s).1.length = n := by
  induction n with
  | zero => rfl
  | succ n ih => rw [reps]; simp only [List.length_append, ih, List.length_cons, List.length_nil]
theorem reps_mem {n : Nat} {s : Os} {x : α} (h : x ∈ (reps f n s).1) : ∃ j, j < n ∧ x = (f (reps f j s).2).1 := by
  induction n with
  | zero => cases h
  | succ n ih =>
    rw [reps] at h
    rcases List.mem_append.1 h with h | h
    · obtain ⟨j, hj, e⟩ := ih h
      exact ⟨j, by omega, e⟩
    · exact ⟨n, by omega, List.mem_singleton.1 h⟩
theorem Rdr.r_short (h : Rdr g f) {n : Nat} {s : Os} (hs : s.2 = true) : (reps f n s).2.2 = true := by
  induction n with
  | zero => exact hs
  | succ n ih => exact h.short ih
theorem Rdr.r_by (h : Rdr g f) (n : Nat) {s : Os} (hs : By s.1) : By (reps f n s).2.1 := by
  induction n with
  | zero => exact hs
  | succ n ih => exact h.bytes ih
theorem Rdr.r_le (h : Rdr g f) (n : Nat) {s : Os} : (reps f n s).2.1.length ≤ s.1.length := by
  induction n with
  | zero => exact Nat.le_refl _
  | succ n ih => exact Nat.le_trans h.less ih

theorem gmany_snoc : ∀ (j : Nat) (xs : List Int) {l : List α} {m : Nat}, Gr.many g j xs = some (l, m) → Gr.many g (j + 1) xs = match g (xs.drop m) with
    | none => none
    | some (x, k) => some (l ++ [x], m + k)
  | 0, xs, l, m, h => by
    simp only [Gr.many, Option.some.injEq, Prod.mk.injEq] at h
    obtain ⟨rfl, rfl⟩ := h
    simp only [Gr.many, List.drop_zero]
    cases g xs with
    | none => rfl
    | some y => simp
  | j + 1, xs, l, m, h => by
    rw [Gr.many] at h ⊢
    cases h1 : g xs with
    | none => rw [h1] at h; cases h
    | some y =>
      obtain ⟨a, k⟩ := y
      rw [h1] at h
      simp only at h ⊢
      cases h2 : Gr.many g j (xs.drop k) with
      | none => rw [h2] at h; cases h
      | some z =>
        obtain ⟨r, i⟩ := z
        rw [h2] at h
        simp only [Option.some.injEq, Prod.mk.injEq] at h
        obtain ⟨rfl, rfl⟩ := h
        rw [gmany_snoc j _ h2, List.drop_drop]
        cases g (xs.drop (k + i)) with
        | none => rfl
        | some y =>
          simp only [List.cons_append, Nat.add_assoc]

theorem gmany_more : ∀ (n : Nat) (xs : List Int), Gr.many g n xs = none → Gr.many g (n + 1) xs = none
  | 0, xs, h => by cases h
  | n + 1, xs, h => by
    rw [Gr.many] at h ⊢
    cases h1 : g xs with
    | none => rfl
    | some y =>
      obtain ⟨a, k⟩ := y
      rw [h1] at h
      simp only at h ⊢
      cases h2 : Gr.many g n (xs.drop k) with
      | none => rw [gmany_more n _ h2]
      | some z => rw [h2] at h; cases h

theorem Rdr.r_iff (h : Rdr g f) (xs : List Int) : ∀ n : Nat, (∀ {l : List α} {m : Nat}, Gr.many g n xs = Option.some (l, m) → reps f n (xs, false) = (l, (xs.drop m, false))) ∧ (Gr.many g n xs = Option.none → (reps f n (xs, false)).2.2 = true)
  | 0 => ⟨fun e => by
      simp only [Gr.many, Option.some.injEq, Prod.mk.injEq] at e
      obtain ⟨rfl, rfl⟩ := e
      rfl, fun e => by cases e⟩
  | n + 1 => by
    obtain ⟨h1, h2⟩ := h.r_iff xs n
    cases e1 : Gr.many g n xs with
    | none =>
      have e2 := gmany_more n xs e1
      exact ⟨(fun e => by rw [e2] at e; cases e), fun _ => h.short (h2 e1)⟩
    | some y =>
      obtain ⟨l, m⟩ := y
      have e2 := gmany_snoc n xs e1
      have e3 := h1 e1
      rw [e2]
      simp only [reps, e3]
      cases e4 : g (xs.drop m) with
      | none => exact ⟨(fun e => by cases e), fun _ => h.none e4⟩
      | some z =>
        obtain ⟨x, k⟩ := z
        refine ⟨fun e => ?_, fun e => by cases e⟩
        simp only [Option.some.injEq, Prod.mk.injEq] at e
        obtain ⟨rfl, rfl⟩ := e
        rw [h.some e4, List.drop_drop]

theorem Rdr.many (h : Rdr g f) (n : Nat) : Rdr (Gr.many g n) (reps f n) :=
  ⟨h.r_short, fun hs => h.r_by n hs, h.r_le n, fun e => (h.r_iff _ n).1 e, fun e => (h.r_iff _ n).2 e⟩

/-- One part, and then another one. -/
def both (f : Os → α × Os) (k : α → Os → β × Os) (s : Os) : (α × β) × Os := (((f s).1, (k (f s).1 (f s).2).1), (k (f s).1 (f s).2).2)
theorem Rdr.both (h : Rdr g f) {g2 : α → List Int → Option (β × Nat)} {k : α → Os → β × Os} (h2 : ∀ a, Rdr (g2 a) (k a)) : Rdr (Gr.bind g g2) (both f k) where
  short := fun e => (h2 _).short (h.short e)
  bytes := fun e => (h2 _).bytes (h.bytes e)
  less := Nat.le_trans (h2 _).less h.less
  some := by
    intro xs x m e
    unfold Gr.bind at e
    cases e1 : g xs with
    | none => rw [e1] at e; cases e
    | some y =>
      obtain ⟨a, n⟩ := y
      rw [e1] at e
      simp only at e
      cases e2 : g2 a (xs.drop n) with
      | none => rw [e2] at e; cases e
      | some z =>
        obtain ⟨b, j⟩ := z
        rw [e2] at e
        simp only [Option.some.injEq, Prod.mk.injEq] at e
        obtain ⟨rfl, rfl⟩ := e
        unfold QyM.both
        rw [h.some e1]
        simp only
        rw [(h2 a).some e2, List.drop_drop]
  none := by
    intro xs e
    unfold Gr.bind at e
    unfold QyM.both
    cases e1 : g xs with
    | none => exact (h2 _).short (h.none e1)
    | some y =>
      obtain ⟨a, n⟩ := y
      rw [e1] at e
      simp only at e
      rw [h.some e1]
      simp only
      cases e2 : g2 a (xs.drop n) with
      | none => exact (h2 a).none e2
      | some z => rw [e2] at e; cases e

theorem Rdr.map (h : Rdr g f) (u : α → β) : Rdr (Gr.map u g) (fun s => (u (f s).1, (f s).2)) where
  short := h.short
  bytes := h.bytes
  less := h.less
  some := by
    intro xs b m e
    unfold Gr.map at e
    cases e1 : g xs with
    | none => rw [e1] at e; cases e
    | some y =>
      obtain ⟨a, n⟩ := y
      rw [e1] at e
      simp only [Option.some.injEq, Prod.mk.injEq] at e
      obtain ⟨rfl, rfl⟩ := e
      simp only [h.some e1]
  none := by
    intro xs e
    unfold Gr.map at e
    cases e1 : g xs with
    | none => exact h.none e1
    | some y => rw [e1] at e; cases e

theorem rdr_unit (b : β) : Rdr (Gr.unit b) (fun s => (b, s)) :=
  ⟨fun h => h, fun h => h, Nat.le_refl _, fun e => by
    simp only [Gr.unit, Option.some.injEq, Prod.mk.injEq] at e
    obtain ⟨rfl, rfl⟩ := e
    rfl, fun e => by cases e⟩
end

/-- A number, and one that is at most another one, or else all is short. -/
def oNum (s : Os) : Nat × Os := tk getS 0 s
theorem oNum_le {s : Os} (h : By s.1) : (oNum s).1 ≤ 18446744073709551615 := by
  unfold oNum tk
  cases e : getS s.1 with
  | none => exact Nat.zero_le _
  | some y =>
    obtain ⟨v, u⟩ := y
    have := ((getS_iff _ h v u).1 e).1
    simp only
    omega
/-- How many there are, and these. -/
def several {α : Type} (f : Os → α × Os) (most : Nat) (s : Os) : List α × Os :=
  if (oNum s).1 ≤ most then reps f (oNum s).1 (oNum s).2 else ([], ((oNum s).2.1, true))
theorem several_short {α : Type} {g : List Int → Option (α × Nat)} {f : Os → α × Os} (h : Rdr g f) {k : Nat} {s : Os} (hs : s.2 = true) : (several f k s).2.2 = true := by
  unfold several
  split
  · exact h.r_short (tk_short hs)
  · rfl
theorem several_by {α : Type} {g : List Int → Option (α × Nat)} {f : Os → α × Os} (h : Rdr g f) {k : Nat} {s : Os} (hs : By s.1) : By (several f k s).2.1 := by
  unfold several
  split
  · exact h.r_by _ (tk_by hs)
  · exact tk_by (g := getS) (d := 0) hs
theorem several_le {α : Type} {g : List Int → Option (α × Nat)} {f : Os → α × Os} (h : Rdr g f) {k : Nat} {s : Os} : (several f k s).2.1.length ≤ s.1.length := by
  unfold several
  split
  · exact Nat.le_trans (h.r_le _) tk_le
  · exact tk_le (g := getS) (d := 0)
theorem several_len {α : Type} {f : Os → α × Os} {k : Nat} {s : Os} : (several f k s).1.length ≤ k := by
  unfold several
  split
  · rw [reps_len]
    assumption
  · exact Nat.zero_le _
theorem num_of {k : Nat} {xs : List Int} {v u : Nat} (h : getS xs = some (v, u)) (hv : v ≤ k) : num k xs = some (v, u) := by
  unfold Gr.num
  rw [h]
  simp only [if_pos hv]
theorem num_over {k : Nat} {xs : List Int} {v u : Nat} (h : getS xs = some (v, u)) (hv : ¬ v ≤ k) : num k xs = none := by
  unfold Gr.num
  rw [h]
  simp only [if_neg hv]
theorem num_no {k : Nat} {xs : List Int} (h : getS xs = none) : num k xs = none := by
  unfold Gr.num
  rw [h]
/-- Several are as many as told. -/
theorem rdr_several {α : Type} {g : List Int → Option (α × Nat)} {f : Os → α × Os} (h : Rdr g f) (k : Nat) : Rdr (Gr.map (fun y : Nat × List α => y.2) (Gr.bind (num k) (fun n => Gr.many g n))) (several f k) where
  short := several_short h
  bytes := several_by h
  less := several_le h
  some := by
    intro xs b m e
    unfold Gr.map at e
    cases e0 : Gr.bind (num k) (fun n => Gr.many g n) xs with
    | none => rw [e0] at e; cases e
    | some z =>
      obtain ⟨⟨n, l⟩, m'⟩ := z
      rw [e0] at e
      simp only [Option.some.injEq, Prod.mk.injEq] at e
      obtain ⟨rfl, rfl⟩ := e
      unfold Gr.bind at e0
      cases e1 : getS xs with
      | none => rw [num_no e1] at e0; cases e0
      | some y =>
        obtain ⟨v, u⟩ := y
        by_cases hv : v ≤ k
        · rw [num_of e1 hv] at e0
          simp only at e0
          cases e2 : Gr.many g v (xs.drop u) with
          | none => rw [e2] at e0; cases e0
          | some z =>
            obtain ⟨l', j⟩ := z
            rw [e2] at e0
            simp only [Option.some.injEq, Prod.mk.injEq] at e0
            obtain ⟨⟨rfl, rfl⟩, rfl⟩ := e0
            unfold several oNum
            rw [tk_some e1, if_pos hv, (h.r_iff _ _).1 e2, List.drop_drop]
        · rw [num_over e1 hv] at e0
          cases e0
  none := by
    intro xs e
    unfold Gr.map at e
    cases e0 : Gr.bind (num k) (fun n => Gr.many g n) xs with
    | some z => rw [e0] at e; cases e
    | none =>
      unfold Gr.bind at e0
      cases e1 : getS xs with
      | none =>
        unfold several oNum
        rw [tk_none e1]
        simp only [Nat.zero_le, if_true]
        exact h.r_short rfl
      | some y =>
        obtain ⟨v, u⟩ := y
        unfold several oNum
        rw [tk_some e1]
        by_cases hv : v ≤ k
        · rw [num_of e1 hv] at e0
          simp only at e0
          rw [if_pos hv]
          cases e2 : Gr.many g v (xs.drop u) with
          | none => exact (h.r_iff _ _).2 e2
          | some z => rw [e2] at e0; cases e0
        · rw [if_neg hv]

/-- A byte. -/
def gB : List Int → Option (Int × Nat)
  | [] => none
  | x :: _ => some (x, 1)
def oByte (s : Os) : Int × Os := tk gB 0 s
theorem gB_many : ∀ (n : Nat) (xs : List Int), Gr.many gB n xs = if n ≤ xs.length then some (xs.take n, n) else none
  | 0, xs => by simp [Gr.many]
  | n + 1, [] => by simp [Gr.many, gB]
  | n + 1, x :: xs => by
    simp only [Gr.many, gB, List.drop_succ_cons, List.drop_zero, gB_many n xs, List.length_cons]
    by_cases h : n ≤ xs.length
    · rw [if_pos h, if_pos (show n + 1 ≤ xs.length + 1 by omega)]
      simp only [List.take_succ_cons, Nat.add_comm 1 n]
    · rw [if_neg h, if_neg (show ¬ n + 1 ≤ xs.length + 1 by omega)]

/-- A name's text. -/
def oName (s : Os) : ByteArray × Os := (strOfNums (several oByte 12 s).1, (several oByte 12 s).2)
theorem gN_is (xs : List Int) : gN xs = Gr.map strOfNums (Gr.map (fun y : Nat × List Int => y.2) (Gr.bind (num 12) (fun n => Gr.many gB n))) xs := by
  unfold gN Gr.map Gr.bind
  cases e1 : getS xs with
  | none => rw [num_no e1]
  | some y =>
    obtain ⟨v, u⟩ := y
    by_cases hv : v ≤ 12
    · rw [num_of e1 hv]
      simp only [gB_many, List.length_drop]
      by_cases h : v ≤ xs.length - u
      · rw [if_pos ⟨hv, h⟩, if_pos h]
      · rw [if_neg (fun k => h k.2), if_neg h]
    · rw [num_over e1 hv]
      simp only
      rw [if_neg (fun k => hv k.1)]
theorem rdr_name : Rdr gN oName := by
  have h := (rdr_several (rdr_tk gB 0) 12).map strOfNums
  rw [show gN = Gr.map strOfNums (Gr.map (fun y : Nat × List Int => y.2) (Gr.bind (num 12) (fun n => Gr.many gB n))) from funext gN_is]
  exact h
theorem oName_size (s : Os) : (oName s).1.size ≤ 12 := by
  unfold oName
  rw [size_str]
  exact several_len

/-- An expression. -/
def oExpr (s : Os) : List O × Os := tk gL [] s
theorem rdr_expr : Rdr gL oExpr := rdr_tk gL []
theorem rdr_num : Rdr getS oNum := rdr_tk getS 0
theorem law_get : Law getS putL (fun n => n ≤ 18446744073709551615) where
  some := fun hb h => by
    have h1 := (getS_iff _ hb _ _).1 h
    exact ⟨by omega, h1.2.1, h1.2.2.symm ▸ rfl⟩
  app := fun h hb => getS_put (by omega) _ hb
  bytes := fun _ => putL_bytes _

/-- Whether a guard stands behind. -/
def oGuard (s : Os) : Nat × Os := if (oNum s).1 ≤ 1 then oNum s else (0, ((oNum s).2.1, true))
theorem rdr_guard : Rdr (num 1) oGuard where
  short := fun h => by
    unfold oGuard
    split
    · exact tk_short h
    · rfl
  bytes := fun h => by
    unfold oGuard
    split <;> exact tk_by (g := getS) (d := 0) h
  less := by
    intro s
    unfold oGuard
    split <;> exact tk_le (g := getS) (d := 0)
  some := by
    intro xs a m e
    cases e1 : getS xs with
    | none => rw [num_no e1] at e; cases e
    | some y =>
      obtain ⟨v, u⟩ := y
      unfold oGuard oNum
      rw [tk_some e1]
      by_cases hv : v ≤ 1
      · rw [num_of e1 hv] at e
        simp only [Option.some.injEq, Prod.mk.injEq] at e
        obtain ⟨rfl, rfl⟩ := e
        rw [if_pos hv]
      · rw [num_over e1 hv] at e
        cases e
  none := by
    intro xs e
    cases e1 : getS xs with
    | none =>
      unfold oGuard oNum
      rw [tk_none e1]
      rfl
    | some y =>
      obtain ⟨v, u⟩ := y
      unfold oGuard oNum
      rw [tk_some e1]
      by_cases hv : v ≤ 1
      · rw [num_of e1 hv] at e
        cases e
      · rw [if_neg hv]
theorem oGuard_le (s : Os) : (oGuard s).1 ≤ 1 := by
  unfold oGuard
  split
  · assumption
  · exact Nat.zero_le _

/-- What stands behind the guard. -/
def oG (g : Nat) (s : Os) : (ByteArray × List O) × Os := if g = 1 then both oName (fun _ => oExpr) s else ((e0, []), s)
theorem rdr_G (g : Nat) : Rdr (gG g) (oG g) := by
  by_cases h : g = 1
  · have e1 : gG g = Gr.bind gN (fun _ => gL) := by unfold gG; rw [if_pos h]
    have e2 : oG g = both oName (fun _ => oExpr) := by funext s; unfold oG; rw [if_pos h]
    rw [e1, e2]
    exact rdr_name.both fun _ => rdr_expr
  · have e1 : gG g = Gr.unit (e0, []) := by unfold gG; rw [if_neg h]
    have e2 : oG g = fun s => ((e0, []), s) := by funext s; unfold oG; rw [if_neg h]
    rw [e1, e2]
    exact rdr_unit _

/-- A step, whatever its numbers. -/
def stOfL (y : ByteArray × List O × Nat × Nat × Nat × (ByteArray × List O)) : St := ⟨y.1, y.2.1, wrp y.2.2.1, wrp y.2.2.2.1, decide (y.2.2.2.2.1 = 1), y.2.2.2.2.2.1, y.2.2.2.2.2.2⟩
def gStL : List Int → Option (St × Nat) := Gr.map stOfL (Gr.bind gN fun _ => Gr.bind gL fun _ => Gr.bind getS fun _ => Gr.bind getS fun _ => Gr.bind (num 1) gG)
def oStP : Os → (ByteArray × List O × Nat × Nat × Nat × (ByteArray × List O)) × Os := both oName fun _ => both oExpr fun _ => both oNum fun _ => both oNum fun _ => both oGuard oG
def oStep (s : Os) : St × Os := (stOfL (oStP s).1, (oStP s).2)
theorem rdr_step : Rdr gStL oStep :=
  (rdr_name.both fun _ => rdr_expr.both fun _ => rdr_num.both fun _ => rdr_num.both fun _ => rdr_guard.both fun g => rdr_G g).map stOfL

/-- A query, whatever its numbers. -/
def qOfL (y : List St × Nat × Nat × Nat × Nat) : Q := ⟨y.1, wrp y.2.1, wrp y.2.2.1, wrp y.2.2.2.1, wrp y.2.2.2.2⟩
def gQL : List Int → Option (Q × Nat) := Gr.map qOfL (Gr.bind (Gr.map (fun y : Nat × List St => y.2) (Gr.bind (num 4) fun n => Gr.many gStL n)) fun _ => Gr.bind getS fun _ => Gr.bind getS fun _ => Gr.bind getS fun _ => getS)
def oQP : Os → (List St × Nat × Nat × Nat × Nat) × Os := both (several oStep 4) fun _ => both oNum fun _ => both oNum fun _ => both oNum fun _ => oNum
def oQ (s : Os) : Q × Os := (qOfL (oQP s).1, (oQP s).2)
theorem rdr_q : Rdr gQL oQ :=
  ((rdr_several rdr_step 4).both fun _ => rdr_num.both fun _ => rdr_num.both fun _ => rdr_num.both fun _ => rdr_num).map qOfL

/-- What these are like, and their bytes. -/
def OkSL (x : St) : Prop := x.s.size ≤ 12 ∧ (ExM.May x.f ∧ Rngs x.f) ∧ (-9223372036854775808 ≤ x.lo ∧ x.lo ≤ 9223372036854775807) ∧ (-9223372036854775808 ≤ x.hi ∧ x.hi ≤ 9223372036854775807) ∧ (x.g = false → x.t = e0 ∧ x.h = []) ∧ (x.g = true → x.t.size ≤ 12 ∧ ExM.May x.h ∧ Rngs x.h)
def pStL (x : St) : List Int := pn x.s ++ (pL x.f ++ (putL (unw x.lo) ++ (putL (unw x.hi) ++ (putL (if x.g = true then 1 else 0) ++ pG x.g (x.t, x.h)))))
theorem law_stL : Law gStL pStL OkSL := by
  have nM := law_get
  have n1 := Gr.law_num (most := 1) (by decide)
  have l6 := n1.bind (k := gG) (q := fun g th => pG (decide (g = 1)) th) (ok2 := fun g th => (g = 0 → th = (e0, [])) ∧ (g = 1 → th.1.size ≤ 12 ∧ ExM.May th.2 ∧ Rngs th.2)) (fun g hg => law_g hg)
  have l5 := nM.bind (k := fun _ => Gr.bind (Gr.num 1) gG) (ok2 := fun _ => _) (fun _ _ => l6)
  have l4 := nM.bind (k := fun _ => Gr.bind getS fun _ => Gr.bind (Gr.num 1) gG) (ok2 := fun _ => _) (fun _ _ => l5)
  have l3 := Gr.law_expr.bind (k := fun _ => Gr.bind getS fun _ => Gr.bind getS fun _ => Gr.bind (Gr.num 1) gG) (ok2 := fun _ => _) (fun _ _ => l4)
  have l2 := Gr.law_name.bind (k := fun _ => Gr.bind gL fun _ => Gr.bind getS fun _ => Gr.bind getS fun _ => Gr.bind (Gr.num 1) gG) (ok2 := fun _ => _) (fun _ _ => l3)
  refine l2.map stOfL (fun x => (x.s, x.f, unw x.lo, unw x.hi, (if x.g = true then 1 else 0), (x.t, x.h))) ?_ ?_ ?_ ?_
  · rintro ⟨s, f, lo, hi, g, t, h⟩ ⟨_, _, h3, h4, hg, _, _⟩
    simp only at hg h3 h4
    simp only [stOfL, unw_wrp h3, unw_wrp h4, decide_eq_true_eq]
    have : (if g = 1 then 1 else 0) = g := by split <;> omega
    rw [this]
  · rintro ⟨s, f, lo, hi, g, t, h⟩ ⟨h1, h2, h3, h4, h5, h6⟩
    simp only at h1 h2 h3 h4 h5 h6
    refine ⟨?_, h1, h2, ?_, ?_, ?_, ?_, ?_⟩
    · simp only [stOfL]
      rw [wrp_unw h3.1 h3.2, wrp_unw h4.1 h4.2]
      cases g <;> rfl
    · exact unw_le h3.1 h3.2
    · exact unw_le h4.1 h4.2
    · simp only
      cases g <;> simp
    · simp only
      intro e
      cases g
      · obtain ⟨rfl, rfl⟩ := h5 rfl
        rfl
      · cases e
    · simp only
      intro e
      cases g
      · cases e
      · exact h6 rfl
  · rintro ⟨s, f, lo, hi, g, t, h⟩ ⟨h1, h2, h3, h4, hg, h5, h6⟩
    simp only at h1 h2 h3 h4 hg h5 h6
    refine ⟨h1, h2, wrp_rng h3, wrp_rng h4, fun e => ?_, fun e => ?_⟩
    · simp only [stOfL, decide_eq_false_iff_not] at e ⊢
      have h7 := h5 (by omega)
      injection h7 with h8 h9
      exact ⟨h8, h9⟩
    · simp only [stOfL, decide_eq_true_eq] at e ⊢
      exact h6 e
  · rintro ⟨s, f, lo, hi, g, t, h⟩ _
    cases g <;> rfl

theorem law_sev {α : Type} {g : List Int → Option (α × Nat)} {p : α → List Int} {ok : α → Prop} (h : Law g p ok) (k : Nat) (hk : k < 18446744073709551616) :
    Law (Gr.map (fun y : Nat × List α => y.2) (Gr.bind (num k) (fun n => Gr.many g n))) (fun l => putL l.length ++ Gr.puts p l) (fun l => l.length ≤ k ∧ ∀ a ∈ l, ok a) := by
  refine ((Gr.law_num hk).bind (q := fun _ => Gr.puts p) (fun n _ => h.many n)).map (fun y => y.2) (fun l => (l.length, l)) ?_ ?_ ?_ ?_
  · rintro ⟨n, l⟩ ⟨_, h2, _⟩
    simp only at h2
    simp only [h2]
  · exact fun l hl => ⟨rfl, hl.1, rfl, hl.2⟩
  · rintro ⟨n, l⟩ ⟨h1, h2, h3⟩
    simp only at h1 h2
    exact ⟨by rw [h2]; exact h1, h3⟩
  · exact fun _ _ => rfl

def Rg64 (z : Int) : Prop := -9223372036854775808 ≤ z ∧ z ≤ 9223372036854775807
def OkQL (q : Q) : Prop := (q.p.length ≤ 4 ∧ ∀ x ∈ q.p, OkSL x) ∧ Rg64 q.w ∧ Rg64 q.a ∧ Rg64 q.i ∧ Rg64 q.f
def pQL (q : Q) : List Int := (putL q.p.length ++ Gr.puts pStL q.p) ++ (putL (unw q.w) ++ (putL (unw q.a) ++ (putL (unw q.i) ++ putL (unw q.f))))
theorem law_qL : Law gQL pQL OkQL := by
  have nM := law_get
  have l4 := nM.bind (k := fun _ => getS) (q := fun _ => putL) (ok2 := fun _ n => n ≤ 18446744073709551615) (fun _ _ => nM)
  have l3 := nM.bind (k := fun _ => Gr.bind getS fun _ => getS) (ok2 := fun _ => _) (fun _ _ => l4)
  have l2 := nM.bind (k := fun _ => Gr.bind getS fun _ => Gr.bind getS fun _ => getS) (ok2 := fun _ => _) (fun _ _ => l3)
  have l1 := (law_sev law_stL 4 (by decide)).bind (k := fun _ => Gr.bind getS fun _ => Gr.bind getS fun _ => Gr.bind getS fun _ => getS) (ok2 := fun _ => _) (fun _ _ => l2)
  refine l1.map (ok2 := OkQL) (q := pQL) qOfL (fun x => (x.p, unw x.w, unw x.a, unw x.i, unw x.f)) ?_ ?_ ?_ ?_
  · rintro ⟨p, w, a, i, f⟩ ⟨_, h1, h2, h3, h4⟩
    simp only at h1 h2 h3 h4
    simp only [qOfL, unw_wrp h1, unw_wrp h2, unw_wrp h3, unw_wrp h4]
  · rintro ⟨p, w, a, i, f⟩ ⟨h1, h2, h3, h4, h5⟩
    simp only [Rg64] at h1 h2 h3 h4 h5
    refine ⟨?_, h1, unw_le h2.1 h2.2, unw_le h3.1 h3.2, unw_le h4.1 h4.2, unw_le h5.1 h5.2⟩
    simp only [qOfL]
    rw [wrp_unw h2.1 h2.2, wrp_unw h3.1 h3.2, wrp_unw h4.1 h4.2, wrp_unw h5.1 h5.2]
  · rintro ⟨p, w, a, i, f⟩ ⟨h1, h2, h3, h4, h5⟩
    exact ⟨h1, wrp_rng h2, wrp_rng h3, wrp_rng h4, wrp_rng h5⟩
  · rintro ⟨p, w, a, i, f⟩ _
    rfl

/-- Of what may be the bytes are the document's. -/
theorem puts_eq {p : List St} (h : ∀ x ∈ p, 0 ≤ x.lo ∧ 0 ≤ x.hi) : Gr.puts pStL p = Gr.puts pSt p := by
  induction p with
  | nil => rfl
  | cons x p ih =>
    obtain ⟨h1, h2⟩ := h x (List.mem_cons_self ..)
    rw [Gr.puts, Gr.puts, ih (fun y hy => h y (List.mem_cons_of_mem _ hy))]
    unfold pStL pSt
    rw [unw_nat h1, unw_nat h2]
theorem pQL_eq {q : Q} (h : May q) : pQL q = pQ q := by
  obtain ⟨_, h2, h3, h4, h5, _⟩ := id h
  unfold pQL pQ
  rw [puts_eq (fun x hx => by
    obtain ⟨_, _, k⟩ := h.ok hx
    have k3 := k.2.2.1
    have k4 := k.2.2.2.1
    omega), unw_nat h2.1, unw_nat h3.1, unw_nat h4.1, unw_nat h5.1, List.append_assoc]
theorem okQL_of {q : Q} (h : OkQ q) : OkQL q := by
  obtain ⟨h1, h2, h3, h4, h5, h6⟩ := h
  refine ⟨⟨h1, fun x hx => ?_⟩, ⟨by omega, by omega⟩, ⟨by omega, by omega⟩, ⟨by omega, by omega⟩, ⟨by omega, by omega⟩⟩
  obtain ⟨k1, k2, k3, k4, k5, k6⟩ := h2 x hx
  exact ⟨k1, k2, ⟨by omega, by omega⟩, ⟨by omega, by omega⟩, k5, k6⟩
theorem rngQ_of {q : Q} (h : OkQL q) : RngQ q := by
  intro x hx
  obtain ⟨_, k2, _, _, k5, k6⟩ := h.1.2 x hx
  refine ⟨k2.2, ?_⟩
  cases hg : x.g with
  | false =>
    rw [(k5 hg).2]
    intro y hy
    cases hy
  | true => exact (k6 hg).2.2

theorem gQ_loose {xs : List Int} (hb : By xs) : gQ xs = Gr.only May gQL xs := by
  have key : ∀ q m, gQ xs = some (q, m) ↔ Gr.only May gQL xs = some (q, m) := by
    intro q m
    constructor
    · intro h
      obtain ⟨⟨h1, h2⟩, h3, h4⟩ := law_q.some hb h
      have h5 := law_qL.put hb (okQL_of h1) ((pQL_eq h2).trans h4) h3
      unfold Gr.only
      rw [h5]
      simp only [if_pos h2]
    · intro h
      obtain ⟨⟨h1, h2⟩, h3, h4⟩ := (law_qL.only May).some hb h
      exact law_q.put hb ⟨okQ_of h2 (rngQ_of h1), h2⟩ ((pQL_eq h2).symm.trans h4) h3
  cases e1 : gQ xs with
  | some y =>
    obtain ⟨q, m⟩ := y
    exact ((key q m).1 e1).symm
  | none =>
    cases e2 : Gr.only May gQL xs with
    | none => rfl
    | some y =>
      obtain ⟨q, m⟩ := y
      rw [(key q m).2 e2] at e1
      cases e1

/-- What Get answers, by the reader. -/
theorem gQ_own {xs : List Int} (hb : By xs) : gotQ (gQ xs) = if (oQ (xs, false)).2.2 = false ∧ May (oQ (xs, false)).1 then ((oQ (xs, false)).1, xs.length - (oQ (xs, false)).2.1.length, true) else (q0, 0, false) := by
  rw [gQ_loose hb]
  unfold Gr.only
  cases e : gQL xs with
  | none =>
    have h := rdr_q.none e
    rw [if_neg (fun k => by rw [h] at k; cases k.1)]
    rfl
  | some y =>
    obtain ⟨q, m⟩ := y
    have h := rdr_q.some e
    have hm := (law_qL.some hb e).2.1
    rw [h]
    simp only [true_and]
    by_cases hq : May q
    · rw [if_pos hq, if_pos hq]
      simp only [gotQ, List.length_drop]
      congr 2
      omega
    · rw [if_neg hq, if_neg hq]
      rfl

theorem oG_size (g : Nat) (s : Os) : (oG g s).1.1.size ≤ 12 := by
  by_cases h : g = 1
  · rw [oG, if_pos h]
    exact oName_size s
  · rw [oG, if_neg h]
    show e0.size ≤ 12
    rw [e0_size]
    omega
/-- What the steps that are read are like. -/
theorem oStep_like {s : Os} (h : By s.1) : ((oStep s).1.s.size ≤ 12 ∧ (oStep s).1.t.size ≤ 12) ∧ Rg64 (oStep s).1.lo ∧ Rg64 (oStep s).1.hi := by
  have b1 := rdr_name.bytes h
  have b2 := rdr_expr.bytes b1
  have b3 := rdr_num.bytes b2
  refine ⟨⟨oName_size _, ?_⟩, wrp_rng (oNum_le b2), wrp_rng (oNum_le b3)⟩
  exact oG_size _ _
theorem oQ_like {s : Os} (h : By s.1) : Rg64 (oQ s).1.w ∧ Rg64 (oQ s).1.a ∧ Rg64 (oQ s).1.i ∧ Rg64 (oQ s).1.f := by
  have b1 := several_by rdr_step (k := 4) h
  have b2 := rdr_num.bytes b1
  have b3 := rdr_num.bytes b2
  have b4 := rdr_num.bytes b3
  exact ⟨wrp_rng (oNum_le b1), wrp_rng (oNum_le b2), wrp_rng (oNum_le b3), wrp_rng (oNum_le b4)⟩
end Go.Proofs.YtbmdkibmfkmjoaaGreat.QyM

namespace Go.Proofs.YtbmdkibmfkmjoaaGreat.Ex
open Go.RowKit Go.Proofs.YtbmdkibmfkmjoaaGreat.BM Go.Proofs.YtbmdkibmfkmjoaaGreat.LM

theorem tyB : RG.Ty 26 5 1 1 (.int .u8 0) := ⟨by kernel_rfl, by kernel_rfl, by kernel_rfl, fun _ => by kernel_rfl, rfl, by decide, by decide⟩

theorem byte_at {w : World} {A : Option Addr} {xs : List Int} {c : Nat} (h : SlB w A xs c) (p : Nat) (hp : p < xs.length) :
    ∃ b q, (∀ W, (Instr.indexAt 26 (.slice A xs.length c) (.int .i64 (p : Int))).run Tryz.prog W = .ok (.pointer (some ⟨b, q, none⟩)) W) ∧ (∀ W, Below w.heap.size w W → W.cell? ⟨b, q, none⟩ = some (.int .u8 (xs.getD p 0))) ∧ 0 ≤ xs.getD p 0 ∧ xs.getD p 0 < 256 := by
  have hb := h.1.1 (xs.getD p 0) (by rw [List.getD_eq_getElem?_getD, List.getElem?_eq_getElem hp]; exact List.getElem_mem hp)
  obtain ⟨b, o, hA, hc⟩ := h.1.2 (by omega)
  refine ⟨b, o + p * 1, fun W => by rw [hA]; exact tyB.index W b o _ c p hp, fun W hW => ?_, hb.1, hb.2⟩
  obtain ⟨b', o', hA', hc'⟩ := (h.kept hW).1.2 (by omega)
  rw [hA] at hA'
  injection hA' with e
  injection e with e1 e2
  subst e1 e2
  rw [Nat.mul_one]
  exact hc' p hp

theorem drop_at {xs : List Int} {p : Nat} (hp : p < xs.length) : xs.drop p = xs.getD p 0 :: xs.drop (p + 1) := by
  rw [List.drop_eq_getElem_cons hp, List.getD_eq_getElem?_getD, List.getElem?_eq_getElem hp]
  rfl
end Go.Proofs.YtbmdkibmfkmjoaaGreat.Ex

namespace Go.Proofs.YtbmdkibmfkmjoaaGreat.Ex
open Go.RowKit Go.Proofs.YtbmdkibmfkmjoaaGreat.BM Go.Proofs.YtbmdkibmfkmjoaaGreat.ExM

/-- What Get answers. -/
def Gots (xs : List Int) (w : World) : Ending → World → Prop := fun e w' =>
  ∃ A c, e = .returned (.tuple #[.slice A (gotL (gL xs)).1.length c, .int .i64 ((gotL (gL xs)).2.1 : Nat), .bool (gotL (gL xs)).2.2]) ∧ SlO w' A (gotL (gL xs)).1 c ∧ Below w.heap.size w w'

/-- The same, and where the operations lie. -/
def GotsF (xs : List Int) (w : World) : Ending → World → Prop := fun e w' =>
  ∃ A c, e = .returned (.tuple #[.slice A (gotL (gL xs)).1.length c, .int .i64 ((gotL (gL xs)).2.1 : Nat), .bool (gotL (gL xs)).2.2]) ∧ SlO w' A (gotL (gL xs)).1 c ∧ Below w.heap.size w w' ∧ ∀ a, A = some a → w.heap.size ≤ a.block
theorem gots_of {xs : List Int} {w : World} {e : Ending} {w' : World} (h : GotsF xs w e w') : Gots xs w e w' := by
  obtain ⟨A, c, h1, h2, h3, _⟩ := h
  exact ⟨A, c, h1, h2, h3⟩
end Go.Proofs.YtbmdkibmfkmjoaaGreat.Ex

namespace Go.Proofs.YtbmdkibmfkmjoaaGreat.Ex
open Go.RowKit Go.Proofs.YtbmdkibmfkmjoaaGreat.BM Go.Proofs.YtbmdkibmfkmjoaaGreat.VaM Go.Proofs.YtbmdkibmfkmjoaaGreat.Va Go.Proofs.YtbmdkibmfkmjoaaGreat.ExM Go.Proofs.YtbmdkibmfkmjoaaGreat.EvM

/-- Parts that the program lays down in a block of their own. -/
theorem slO_new (w : World) (l : List O) (hf : ∀ x ∈ l, Fin x) (hl : l.length ≤ maxLen) : SlO (w.alloc (.cells (l.flatMap encO).toArray 80)) (some ⟨w.heap.size, 0, none⟩) l l.length := by
  refine ⟨⟨⟨l.flatMap encO, fun _ => ⟨w.heap.size, 0, rfl, fun j u hj => ?_⟩, elems_o _ _ _⟩, Nat.le_refl _, (fun h => by cases h), hl⟩, hf⟩
  rw [World.cell?_alloc_at (hn := rfl), Nat.zero_add]
  simpa using hj



theorem slO_1 (w : World) (x : O) (hx : Fin x) : SlO (w.alloc (.cells #[.int .i64 x.c, .int .i64 x.a, .int .i64 x.v.k, .int .i64 x.v.n, .string x.v.s] 80)) (some ⟨w.heap.size, 0, none⟩) [x] 1 :=
  slO_new w [x] (fun y hy => by rw [List.mem_singleton.1 hy]; exact hx) (show 1 ≤ maxLen from by unfold maxLen; decide)
end Go.Proofs.YtbmdkibmfkmjoaaGreat.Ex

namespace Go.Proofs.YtbmdkibmfkmjoaaGreat.EvM
open Go.RowKit Go.Proofs.YtbmdkibmfkmjoaaGreat.LeM Go.Proofs.YtbmdkibmfkmjoaaGreat.VaM Go.Proofs.YtbmdkibmfkmjoaaGreat.BM
open Go.Proofs.YtbmdkibmfkmjoaaGreat.ScM (Rs rNum rName rNum_short rName_short rName_iff rNum_iff rNum_le rName_left rNum_left rName_size gN bytes_drop)

def rVal (r : Rs) : V × Rs := ((gotP (getP r.1)).1, (r.1.drop (gotP (getP r.1)).2.1, r.2 || !(gotP (getP r.1)).2.2))
def rVals : Nat → Rs → List V × Rs
  | 0, r => ([], r)
  | n + 1, r => ((rVals n r).1 ++ [(rVal (rVals n r).2).1], (rVal (rVals n r).2).2)
def rAll (xs : List Int) : Ev × Rs :=
  (⟨(rName (xs, false)).1, (rNum 1125899906842624 (rName (xs, false)).2).1, (rVals (rNum 6 (rNum 1125899906842624 (rName (xs, false)).2).2).1 (rNum 6 (rNum 1125899906842624 (rName (xs, false)).2).2).2).1⟩,
    (rVals (rNum 6 (rNum 1125899906842624 (rName (xs, false)).2).2).1 (rNum 6 (rNum 1125899906842624 (rName (xs, false)).2).2).2).2)

theorem rVal_short {r : Rs} (h : r.2 = true) : (rVal r).2.2 = true := by
  unfold rVal
  simp [h]
theorem rVals_short : ∀ {n : Nat} {r : Rs} (_ : r.2 = true), (rVals n r).2.2 = true
  | 0, _, h => h
  | _ + 1, _, h => rVal_short (rVals_short h)

theorem rVal_iff (xs : List Int) : match getP xs with
    | some (x, m) => rVal (xs, false) = (x, (xs.drop m, false))
    | none => (rVal (xs, false)).2.2 = true := by
  unfold rVal
  cases hg : getP xs with
  | none => simp [gotP]
  | some p => simp [gotP]

theorem rVals_cons : ∀ (n : Nat) (r : Rs), rVals (n + 1) r = ((rVal r).1 :: (rVals n (rVal r).2).1, (rVals n (rVal r).2).2)
  | 0, r => rfl
  | n + 1, r => by
    have h := rVals_cons n r
    show ((rVals (n + 1) r).1 ++ [(rVal (rVals (n + 1) r).2).1], (rVal (rVals (n + 1) r).2).2) = _
    rw [h]
    rfl

theorem rVals_iff : ∀ (n : Nat) (xs : List Int), match gVs n xs with
    | some (l, m) => rVals n (xs, false) = (l, (xs.drop m, false))
    | none => (rVals n (xs, false)).2.2 = true
  | 0, xs => rfl
  | n + 1, xs => by
    have h := rVal_iff xs
    rw [rVals_cons]
    simp only [gVs]
    cases hg : getP xs with
    | none =>
      rw [hg] at h
      exact rVals_short h
    | some p =>
      obtain ⟨x, m⟩ := p
      rw [hg] at h
      simp only at h ⊢
      rw [h]
      have h2 := rVals_iff n (xs.drop m)
      cases hr : gVs n (xs.drop m) with
      | none =>
        rw [hr] at h2
        exact h2
      | some q =>
        obtain ⟨l, k⟩ := q
        rw [hr] at h2
        simp only at h2 ⊢
        rw [h2, List.drop_drop]

theorem rAll_iff (xs : List Int) : match gA xs with
    | some (s, m) => rAll xs = (s, (xs.drop m, false))
    | none => (rAll xs).2.2 = true := by
  have h1 := rName_iff xs
  unfold gA rAll
  cases e1 : gN xs with
  | none =>
    rw [e1] at h1
    exact rVals_short (rNum_short (rNum_short h1))
  | some p =>
    obtain ⟨t, a⟩ := p
    rw [e1] at h1
    simp only at h1 ⊢
    rw [h1]
    have h2 := rNum_iff 1125899906842624 (xs.drop a)
    cases e2 : getS (xs.drop a) with
    | none =>
      rw [e2] at h2
      exact rVals_short (rNum_short h2)
    | some p =>
      obtain ⟨v, u⟩ := p
      rw [e2] at h2
      simp only at h2 ⊢
      by_cases hv : v ≤ 1125899906842624
      · rw [if_pos hv] at h2 ⊢
        rw [h2, List.drop_drop]
        have h3 := rNum_iff 6 (xs.drop (a + u))
        cases e3 : getS (xs.drop (a + u)) with
        | none =>
          rw [e3] at h3
          exact rVals_short h3
        | some p =>
          obtain ⟨n, m⟩ := p
          rw [e3] at h3
          simp only at h3 ⊢
          by_cases hn : n ≤ 6
          · rw [if_pos hn] at h3 ⊢
            rw [h3, List.drop_drop]
            have h4 := rVals_iff n (xs.drop (a + u + m))
            cases e4 : gVs n (xs.drop (a + u + m)) with
            | none =>
              rw [e4] at h4
              exact h4
            | some p =>
              obtain ⟨l, k⟩ := p
              rw [e4] at h4
              simp only at h4 ⊢
              rw [h4, List.drop_drop]
          · rw [if_neg hn] at h3 ⊢
            exact rVals_short h3
      · rw [if_neg hv] at h2 ⊢
        exact rVals_short (rNum_short h2)

/-- What Get answers, by the reader. -/
theorem gE_read {xs : List Int} (hb : ∀ x ∈ xs, (0 : Int) ≤ x ∧ x < 256) :
    gotE (gE xs) = if (rAll xs).2.2 = false ∧ May (rAll xs).1 then ((rAll xs).1, xs.length - (rAll xs).2.1.length, true) else (⟨e0, 0, []⟩, 0, false) := by
  have h := rAll_iff xs
  cases hg : gE xs with
  | none =>
    rw [if_neg]
    · rfl
    · rintro ⟨h1, h2⟩
      unfold gE at hg
      cases ha : gA xs with
      | none =>
        rw [ha] at h
        simp only at h
        rw [h1] at h
        cases h
      | some p =>
        obtain ⟨s, m⟩ := p
        rw [ha] at h hg
        simp only at h hg
        rw [h] at h2
        rw [if_pos h2] at hg
        cases hg
  | some p =>
    obtain ⟨s, m⟩ := p
    obtain ⟨k1, k1', k2, k3⟩ := gE_some hb hg
    unfold gE at hg
    cases ha : gA xs with
    | none =>
      rw [ha] at hg
      cases hg
    | some q =>
      obtain ⟨s', m'⟩ := q
      rw [ha] at h hg
      simp only at h hg
      by_cases hm : May s'
      · rw [if_pos hm] at hg
        simp only [Option.some.injEq, Prod.mk.injEq] at hg
        obtain ⟨rfl, rfl⟩ := hg
        rw [h, if_pos ⟨rfl, hm⟩]
        simp only [gotE, List.length_drop]
        congr 2
        omega
      · rw [if_neg hm] at hg
        cases hg

/-- What a reader's value is: no long string, and a number. -/
def Sm (x : V) : Prop := x.s.size ≤ maxLen ∧ Rng x

theorem sm_v0 : Sm v0 := ⟨by unfold maxLen; decide, by decide, by decide⟩

theorem gotP_sm {xs : List Int} (hb : ∀ x ∈ xs, (0 : Int) ≤ x ∧ x < 256) : Sm (gotP (getP xs)).1 ∧ (gotP (getP xs)).2.1 ≤ xs.length := by
  cases hg : getP xs with
  | none => exact ⟨sm_v0, Nat.zero_le _⟩
  | some p =>
    obtain ⟨v, m⟩ := p
    obtain ⟨h1, h2, h3, _⟩ := getP_some hb hg
    refine ⟨⟨?_, h1⟩, h3⟩
    have := may_size h2
    unfold maxLen
    simp only [gotP]
    omega

theorem rNum_bytes {m : Nat} {r : Rs} (hb : ∀ x ∈ r.1, (0 : Int) ≤ x ∧ x < 256) : ∀ x ∈ (rNum m r).2.1, (0 : Int) ≤ x ∧ x < 256 := by
  unfold rNum
  split
  · split
    · exact bytes_drop hb _
    · exact hb
  · exact hb

theorem rVals_good : ∀ (n : Nat) {r : Rs} (_ : ∀ x ∈ r.1, (0 : Int) ≤ x ∧ x < 256), (rVals n r).1.length = n ∧ (∀ x ∈ (rVals n r).1, Sm x) ∧ (∀ x ∈ (rVals n r).2.1, (0 : Int) ≤ x ∧ x < 256) ∧ (rVals n r).2.1.length ≤ r.1.length
  | 0, _, hb => ⟨rfl, (fun f hf => by cases hf), hb, Nat.le_refl _⟩
  | n + 1, r, hb => by
    obtain ⟨h1, h2, h3, h4⟩ := rVals_good n hb
    have h5 := gotP_sm h3
    refine ⟨by show ((rVals n r).1 ++ [_]).length = n + 1; rw [List.length_append, h1]; rfl, fun f hf => ?_, bytes_drop h3 _, ?_⟩
    · rcases List.mem_append.1 hf with h | h
      · exact h2 f h
      · obtain rfl := List.mem_singleton.1 h
        exact h5.1
    · show (List.drop _ (rVals n r).2.1).length ≤ _
      rw [List.length_drop]
      omega

theorem rVals_left : ∀ (n : Nat) (r : Rs), (rVals n r).2.1.length ≤ r.1.length
  | 0, _ => Nat.le_refl _
  | n + 1, r => by
    have h := rVals_left n r
    show (List.drop _ (rVals n r).2.1).length ≤ _
    rw [List.length_drop]
    omega
theorem rAll_left (xs : List Int) : (rAll xs).2.1.length ≤ xs.length :=
  Nat.le_trans (rVals_left _ _) (Nat.le_trans (rNum_left _ _) (Nat.le_trans (rNum_left _ _) (rName_left (xs, false))))
end Go.Proofs.YtbmdkibmfkmjoaaGreat.EvM

namespace Go.Proofs.YtbmdkibmfkmjoaaGreat.ExM
open Go.RowKit Go.Proofs.YtbmdkibmfkmjoaaGreat.LeM Go.Proofs.YtbmdkibmfkmjoaaGreat.VaM Go.Proofs.YtbmdkibmfkmjoaaGreat.BM Go.Proofs.YtbmdkibmfkmjoaaGreat.EvM
open Go.Proofs.YtbmdkibmfkmjoaaGreat.ScM (Rs rNum rNum_short rNum_iff rNum_le bytes_drop)
open Go.Proofs.YtbmdkibmfkmjoaaGreat.Ex (Fin)

def rOne (r : Rs) : Int × Rs :=
  match r.1 with
  | [] => (0, ([], true))
  | x :: t => (x, (t, r.2))
def rPart (r : Rs) : O × Rs :=
  if (rOne r).1 = 0 then (⟨0, 0, (rVal (rOne r).2).1⟩, (rVal (rOne r).2).2)
  else if (rOne r).1 = 1 then (⟨1, (rOne (rOne r).2).1, v0⟩, (rOne (rOne r).2).2)
  else (⟨(rOne r).1, 0, v0⟩, (rOne r).2)
def rParts : Nat → Rs → List O × Rs
  | 0, r => ([], r)
  | n + 1, r => ((rParts n r).1 ++ [(rPart (rParts n r).2).1], (rPart (rParts n r).2).2)
def rExpr (xs : List Int) : List O × Rs := rParts (rNum 12 (xs, false)).1 (rNum 12 (xs, false)).2

theorem rOne_short {r : Rs} (h : r.2 = true) : (rOne r).2.2 = true := by
  unfold rOne
  split
  · rfl
  · exact h
theorem rPart_short {r : Rs} (h : r.2 = true) : (rPart r).2.2 = true := by
  unfold rPart
  split
  · exact rVal_short (rOne_short h)
  · split
    · exact rOne_short (rOne_short h)
    · exact rOne_short h
theorem rParts_short : ∀ {n : Nat} {r : Rs} (_ : r.2 = true), (rParts n r).2.2 = true
  | 0, _, h => h
  | _ + 1, _, h => rPart_short (rParts_short h)

theorem rPart_iff (xs : List Int) : match gO xs with
    | some (o, m) => rPart (xs, false) = (o, (xs.drop m, false))
    | none => (rPart (xs, false)).2.2 = true := by
  cases xs with
  | nil => exact rVal_short (r := ([], true)) rfl
  | cons c t =>
    have h1 : rOne (c :: t, false) = (c, (t, false)) := rfl
    by_cases h0 : c = 0
    · subst h0
      have hv := rVal_iff t
      rw [gO_push]
      unfold rPart
      rw [h1]
      simp only [if_true]
      cases hg : getP t with
      | none =>
        rw [hg] at hv
        exact hv
      | some p =>
        obtain ⟨v, m⟩ := p
        rw [hg] at hv
        simp only at hv ⊢
        rw [hv, Nat.add_comm 1 m, List.drop_succ_cons]
    · by_cases hc : c = 1
      · subst hc
        unfold rPart
        rw [h1]
        cases t with
        | nil => rfl
        | cons a t => rfl
      · rw [gO_other t h0 hc]
        unfold rPart
        rw [h1]
        simp only [if_neg h0, if_neg hc]
        rfl

theorem rParts_cons : ∀ (n : Nat) (r : Rs), rParts (n + 1) r = ((rPart r).1 :: (rParts n (rPart r).2).1, (rParts n (rPart r).2).2)
  | 0, r => rfl
  | n + 1, r => by
    have h := rParts_cons n r
    show ((rParts (n + 1) r).1 ++ [(rPart (rParts (n + 1) r).2).1], (rPart (rParts (n + 1) r).2).2) = _
    rw [h]
    rfl

theorem rParts_iff : ∀ (n : Nat) (xs : List Int), match gOs n xs with
    | some (l, m) => rParts n (xs, false) = (l, (xs.drop m, false))
    | none => (rParts n (xs, false)).2.2 = true
  | 0, xs => rfl
  | n + 1, xs => by
    have h := rPart_iff xs
    rw [rParts_cons]
    simp only [gOs]
    cases hg : gO xs with
    | none =>
      rw [hg] at h
      exact rParts_short h
    | some p =>
      obtain ⟨x, m⟩ := p
      rw [hg] at h
      simp only at h ⊢
      rw [h]
      have h2 := rParts_iff n (xs.drop m)
      cases hr : gOs n (xs.drop m) with
      | none =>
        rw [hr] at h2
        exact h2
      | some q =>
        obtain ⟨l, k⟩ := q
        rw [hr] at h2
        simp only at h2 ⊢
        rw [h2, List.drop_drop]

/-- What Get answers, by the reader. -/
theorem gL_read {xs : List Int} (hb : ∀ x ∈ xs, (0 : Int) ≤ x ∧ x < 256) :
    gotL (gL xs) = if (rExpr xs).2.2 = false ∧ May (rExpr xs).1 then ((rExpr xs).1, xs.length - (rExpr xs).2.1.length, true) else ([], 0, false) := by
  have h1 := rNum_iff 12 xs
  have hsome := fun l m => @gL_some xs hb l m
  unfold gL at hsome ⊢
  unfold rExpr
  cases e1 : getS xs with
  | none =>
    rw [e1] at h1
    simp only at h1
    rw [if_neg]
    · rfl
    · rintro ⟨h, _⟩
      rw [rParts_short h1] at h
      cases h
  | some p =>
    obtain ⟨n, u⟩ := p
    rw [e1] at h1 hsome
    simp only at h1 hsome ⊢
    by_cases hn : n ≤ 12
    · rw [if_pos hn] at h1 ⊢
      simp only [if_pos hn] at hsome
      rw [h1]
      have h2 := rParts_iff n (xs.drop u)
      cases e2 : gOs n (xs.drop u) with
      | none =>
        rw [e2] at h2
        simp only at h2 ⊢
        rw [if_neg]
        · rfl
        · rintro ⟨h, _⟩
          rw [h2] at h
          cases h
      | some q =>
        obtain ⟨l, k⟩ := q
        rw [e2] at h2 hsome
        simp only at h2 hsome ⊢
        rw [h2]
        by_cases hm : May l
        · have hle := (hsome l (u + k) (by rw [if_pos hm])).2.2.1
          rw [if_pos hm, if_pos ⟨rfl, hm⟩]
          simp only [gotL, List.drop_drop, List.length_drop]
          congr 2
          omega
        · rw [if_neg hm, if_neg (fun h => hm h.2)]
          rfl
    · rw [if_neg hn] at h1 ⊢
      rw [if_neg]
      · rfl
      · rintro ⟨h, _⟩
        rw [rParts_short h1] at h
        cases h

theorem rOne_good {r : Rs} (hb : ∀ x ∈ r.1, (0 : Int) ≤ x ∧ x < 256) : (0 ≤ (rOne r).1 ∧ (rOne r).1 < 256) ∧ (∀ x ∈ (rOne r).2.1, (0 : Int) ≤ x ∧ x < 256) ∧ (rOne r).2.1.length ≤ r.1.length := by
  unfold rOne
  split
  · exact ⟨⟨Int.le_refl _, (by decide : (0 : Int) < 256)⟩, (fun x hx => by cases hx), Nat.zero_le _⟩
  · rename_i x t h
    rw [h] at hb ⊢
    exact ⟨hb x (List.mem_cons_self ..), fun y hy => hb y (List.mem_cons_of_mem _ hy), by simp⟩

theorem fin_of {c a : Int} {v : V} (hc : 0 ≤ c ∧ c < 256) (ha : 0 ≤ a ∧ a < 256) (hv : Sm v) : Fin ⟨c, a, v⟩ := ⟨hv.1, hv.2, ⟨by show -9223372036854775808 ≤ c; omega, by show c ≤ 9223372036854775807; omega⟩, by show -9223372036854775808 ≤ a; omega, by show a ≤ 9223372036854775807; omega⟩

theorem rPart_good {r : Rs} (hb : ∀ x ∈ r.1, (0 : Int) ≤ x ∧ x < 256) : Fin (rPart r).1 ∧ (∀ x ∈ (rPart r).2.1, (0 : Int) ≤ x ∧ x < 256) ∧ (rPart r).2.1.length ≤ r.1.length := by
  obtain ⟨h1, h2, h3⟩ := rOne_good hb
  have hz : (0 : Int) ≤ 0 ∧ (0 : Int) < 256 := ⟨Int.le_refl _, by decide⟩
  unfold rPart
  split
  · have h5 := gotP_sm h2
    refine ⟨fin_of hz hz h5.1, bytes_drop h2 _, ?_⟩
    show (List.drop _ (rOne r).2.1).length ≤ _
    rw [List.length_drop]
    omega
  · split
    · obtain ⟨g1, g2, g3⟩ := rOne_good h2
      exact ⟨fin_of ⟨by decide, by decide⟩ g1 sm_v0, g2, Nat.le_trans g3 h3⟩
    · exact ⟨fin_of h1 hz sm_v0, h2, h3⟩

theorem rParts_good : ∀ (n : Nat) {r : Rs} (_ : ∀ x ∈ r.1, (0 : Int) ≤ x ∧ x < 256), (rParts n r).1.length = n ∧ (∀ x ∈ (rParts n r).1, Fin x) ∧ (∀ x ∈ (rParts n r).2.1, (0 : Int) ≤ x ∧ x < 256) ∧ (rParts n r).2.1.length ≤ r.1.length
  | 0, _, hb => ⟨rfl, (fun f hf => by cases hf), hb, Nat.le_refl _⟩
  | n + 1, r, hb => by
    obtain ⟨h1, h2, h3, h4⟩ := rParts_good n hb
    obtain ⟨g1, g2, g3⟩ := rPart_good h3
    refine ⟨by show ((rParts n r).1 ++ [_]).length = n + 1; rw [List.length_append, h1]; rfl, fun f hf => ?_, g2, ?_⟩
    · rcases List.mem_append.1 hf with h | h
      · exact h2 f h
      · obtain rfl := List.mem_singleton.1 h
        exact g1
    · show (rPart (rParts n r).2).2.1.length ≤ _
      omega
end Go.Proofs.YtbmdkibmfkmjoaaGreat.ExM

namespace Go.Proofs.YtbmdkibmfkmjoaaGreat.Va
open Go.RowKit Go.Proofs.YtbmdkibmfkmjoaaGreat.BM Go.Proofs.YtbmdkibmfkmjoaaGreat.LM Go.Proofs.YtbmdkibmfkmjoaaGreat.LeM Go.Proofs.YtbmdkibmfkmjoaaGreat.LeZ Go.Proofs.YtbmdkibmfkmjoaaGreat.VaM

def rdV (k : Int) (n : Nat) (ys : List Int) : V × Nat × Bool :=
  if k = 0 then (⟨0, zag n, e0⟩, 0, true) else if k = 2 then (if n ≤ 40 ∧ n ≤ ys.length then (⟨2, 0, strOfNums (ys.take n)⟩, n, true) else (⟨0, 0, e0⟩, 0, false)) else (⟨k, wrap64 n, e0⟩, 0, true)

/-- A value, how many bytes, and whether. -/
def got3 (r : V × Nat × Bool) : Value := .tuple #[.agg #[.int .i64 r.1.k, .int .i64 r.1.n, .string r.1.s], .int .i64 (r.2.1 : Int), .bool r.2.2]

set_option maxRecDepth 100000 in
theorem read_any (k : Int) (n : Nat) (A : Option Addr) (ys : List Int) (c : Nat) (w : World) (hn : n < 18446744073709551616) (hy : SlB w A ys c) (h64 : ys.length ≤ 9223372036854775807) :
    Calls Tryz.prog 136 #[.int .i64 k, .int .u64 n, .slice A ys.length c] w fun e w' => e = .returned (got3 (rdV k n ys)) ∧ Below w.heap.size w w' := by
  have HB := Lib.hid (fun C => (Below.refl w.heap.size w).alloc (Nat.le_refl _) (.cells C 78))
  by_cases k0 : k = 0
  · subst k0
    have HZ := Lib.hid (fun W => Zag_any (n : Int) W (by omega) (by omega))
    have HR := Lib.hid (show got3 (rdV 0 n ys) = .tuple #[.agg #[.int .i64 0, .int .i64 (zag n), .string ⟨#[]⟩], .int .i64 0, .bool true] from by rw [rdV, if_pos rfl]; rfl)
    clear hy
    go_enter Tryz.func136, Tryz.ntmps136
    go_wp2_with fail
    refine (HZ.out _).mono ?_
    rintro e w1 ⟨rfl, rfl⟩
    go_wp2_with fail
    obtain ⟨⟨r0, r1, r2⟩, _⟩ := bx_new w (.int .i64 0) (.int .i64 (zag n)) (.string ⟨#[]⟩)
    exact bodyPost_ret (v := .tuple #[.agg #[.int .i64 0, .int .i64 (zag n), .string ⟨#[]⟩], .int .i64 0, .bool true]) (by simp [results, Tryz.results136, go_sem]) rfl ⟨ret_v HR.out, HB.out _⟩
  · by_cases k2 : k = 2
    · subst k2
      by_cases hc : n ≤ 40 ∧ n ≤ ys.length
      · have HR := Lib.hid (show got3 (rdV 2 n ys) = .tuple #[.agg #[.int .i64 2, .int .i64 0, .string (strOfNums (ys.take n))], .int .i64 n, .bool true] from by rw [rdV, if_neg k0, if_pos rfl, if_pos hc]; rfl)
        have hcap := hy.2.1
        have hlt : (ys.take n).length = n := by rw [List.length_take]; omega
        have sl := fun W => Cut.slice_hi_k .u64 W A ys.length c n (by omega)
        have cv := fun W (hW : Below w.heap.size w W) => conv_any (isB_take (isB_kept hy.1 hW) n) c 9 Tryz.underlying9
        obtain ⟨L, hL⟩ : ∃ L, L = ys.length := ⟨_, rfl⟩
        obtain ⟨S, hS⟩ : ∃ S, S = strOfNums (ys.take n) := ⟨_, rfl⟩
        rw [← hS] at HR
        simp only [hlt, ← hS] at cv
        rw [← hL] at sl hc h64 ⊢
        have hcv := cv _ (HB.out #[.int .i64 0, .int .i64 0, .string ⟨#[]⟩])
        obtain ⟨hc1, hc2⟩ := hc
        clear hy hL hS hlt hcap cv
        go_enter Tryz.func136, Tryz.ntmps136
        go_wp2_with fail
        obtain ⟨⟨r0, r1, r2⟩, _⟩ := bx_new w (.int .i64 2) (.int .i64 0) (.string S)
        exact bodyPost_ret (v := .tuple #[.agg #[.int .i64 2, .int .i64 0, .string S], .int .i64 n, .bool true]) (by simp [results, Tryz.results136, go_sem]) rfl ⟨ret_v HR.out, HB.out _⟩
      · have HR := Lib.hid (show got3 (rdV 2 n ys) = .tuple #[.agg #[.int .i64 0, .int .i64 0, .string ⟨#[]⟩], .int .i64 0, .bool false] from by rw [rdV, if_neg k0, if_pos rfl, if_neg hc]; rfl)
        obtain ⟨L, hL⟩ : ∃ L, L = ys.length := ⟨_, rfl⟩
        rw [← hL] at hc h64 ⊢
        clear hy hL
        go_enter Tryz.func136, Tryz.ntmps136
        go_wp2_with fail
        obtain ⟨⟨r0, r1, r2⟩, _⟩ := bx_new w (.int .i64 0) (.int .i64 0) (.string ⟨#[]⟩)
        exact bodyPost_ret (v := .tuple #[.agg #[.int .i64 0, .int .i64 0, .string ⟨#[]⟩], .int .i64 0, .bool false]) (by simp [results, Tryz.results136, go_sem]) rfl ⟨ret_v HR.out, HB.out _⟩
    · have HR := Lib.hid (show got3 (rdV k n ys) = .tuple #[.agg #[.int .i64 k, .int .i64 (wrap64 n), .string ⟨#[]⟩], .int .i64 0, .bool true] from by rw [rdV, if_neg k0, if_neg k2]; rfl)
      have b0 : (k == 0) = false := by simpa using k0
      have b2 : (k == 2) = false := by simpa using k2
      clear hy
      go_enter Tryz.func136, Tryz.ntmps136
      go_wp2_with fail
      obtain ⟨⟨r0, r1, r2⟩, _⟩ := bx_new w (.int .i64 k) (.int .i64 (wrap64 n)) (.string ⟨#[]⟩)
      exact bodyPost_ret (v := .tuple #[.agg #[.int .i64 k, .int .i64 (wrap64 n), .string ⟨#[]⟩], .int .i64 0, .bool true]) (by simp [results, Tryz.results136, go_sem]) rfl ⟨ret_v HR.out, HB.out _⟩
end Go.Proofs.YtbmdkibmfkmjoaaGreat.Va

namespace Go.Proofs.YtbmdkibmfkmjoaaGreat.Va
open Go.RowKit Go.Proofs.YtbmdkibmfkmjoaaGreat.BM Go.Proofs.YtbmdkibmfkmjoaaGreat.LM Go.Proofs.YtbmdkibmfkmjoaaGreat.LeM Go.Proofs.YtbmdkibmfkmjoaaGreat.LeZ Go.Proofs.YtbmdkibmfkmjoaaGreat.VaM

/-- Get by read: behind the kind and the number. -/
theorem getP_read {k : Int} {t : List Int} {n u : Nat} (hg : getS t = some (n, u)) (hn : n < 18446744073709551616) :
    getP (k :: t) = if (rdV k n (t.drop u)).2.2 = true ∧ May (rdV k n (t.drop u)).1 then some ((rdV k n (t.drop u)).1, 1 + u + (rdV k n (t.drop u)).2.1) else none := by
  show getB k t (getS t) = _
  rw [hg]
  simp only [getB]
  unfold rdV
  by_cases k0 : k = 0
  · rw [if_pos k0, if_pos k0, if_pos ⟨rfl, Or.inr ⟨rfl, Or.inl rfl⟩⟩]
    rfl
  · rw [if_neg k0, if_neg k0]
    by_cases k2 : k = 2
    · rw [if_pos k2, if_pos k2, List.length_drop]
      by_cases hc : n ≤ 40 ∧ n ≤ t.length - u
      · rw [if_pos hc, if_pos hc, if_pos ⟨rfl, Or.inl ⟨rfl, rfl, by simp only; rw [size_str, List.length_take]; omega⟩⟩]
      · rw [if_neg hc, if_neg hc, if_neg (by simp)]
    · rw [if_neg k2, if_neg k2]
      simp only [true_and, Nat.add_zero]
      by_cases hc : (k = 1 ∧ n ≤ 1) ∨ (k = 3 ∧ n ≤ 1125899906842624)
      · have hw : wrap64 (n : Int) = n := IntWalk.wrap64_in _ (by omega)
        rw [if_pos hc, hw, if_pos]
        refine Or.inr ⟨rfl, Or.inr ?_⟩
        rcases hc with ⟨c1, c2⟩ | ⟨c1, c2⟩
        · exact Or.inl ⟨c1, by simp only; omega⟩
        · exact Or.inr ⟨c1, by simp only; omega, by simp only; omega⟩
      · rw [if_neg hc, if_neg]
        rintro (⟨h1, _⟩ | ⟨_, h1 | ⟨h1, h2⟩ | ⟨h1, h2, h3⟩⟩)
        · exact k2 h1
        · exact k0 h1
        · simp only at h1 h2
          unfold wrap64 at h2
          omega
        · simp only at h1 h2 h3
          unfold wrap64 at h2 h3
          omega

/-- b[0] -/
theorem index_0 (w : World) (b o len cap : Nat) (h : 0 < len) : (Instr.indexAt 26 (.slice (some ⟨b, o, none⟩) len cap) (.int .i64 0)).run Tryz.prog w = .ok (.pointer (some ⟨b, o, none⟩)) w := by
  rw [run_indexAt_slice w _ _ _ _ _ _ elem_b, if_pos (by omega), size_b]
  simp [Result.andThen, Addr.add_lit]

/-- b[1:] -/
theorem slice_1 (w : World) (A : Option Addr) (len cap : Nat) :
    (Instr.sliceAt 26 (.slice A (len + 1) cap) (some (.int .i64 1)) none none).run Tryz.prog w = .ok (.slice (dropA A 1 cap) len (cap - 1)) w := by
  have h := slice_lo w A (len + 1) cap 1 (by omega)
  rw [Nat.add_sub_cancel] at h
  exact h

/-- What Get leaves. -/
def Gots (xs : List Int) (w : World) : Ending → World → Prop := fun e w' => e = .returned (got3 (gotP (getP xs))) ∧ Below w.heap.size w w'

set_option maxRecDepth 100000 in
theorem Get_nil (A : Option Addr) (c : Nat) (w : World) : Calls Tryz.prog 131 #[.slice A 0 c] w (Gots [] w) := by
  go_enter Tryz.func131, Tryz.ntmps131
  go_wp2_with fail
  obtain ⟨⟨r0, r1, r2⟩, _⟩ := bx_new w (.int .i64 0) (.int .i64 0) (.string ⟨#[]⟩)
  exact bodyPost_ret (v := .tuple #[.agg #[.int .i64 0, .int .i64 0, .string ⟨#[]⟩], .int .i64 0, .bool false]) (by simp [results, Tryz.results131, go_sem]) rfl ⟨rfl, (Below.refl _ _).alloc (Nat.le_refl _) _⟩

set_option maxRecDepth 100000 in
theorem Get_no (A : Option Addr) (k : Int) (t : List Int) (c : Nat) (w : World) (h : SlB w A (k :: t) c) (hg : getS t = none) : Calls Tryz.prog 131 #[.slice A (k :: t).length c] w (Gots (k :: t) w) := by
  have hm := h.2.2.2
  have hc := h.2.1
  unfold maxLen at hm
  rw [List.length_cons] at hc ⊢
  have hB := (Below.refl w.heap.size w).alloc (Nat.le_refl _) (.cells #[.int .i64 0, .int .i64 0, .string ⟨#[]⟩] 78)
  have hr : gotP (getP (k :: t)) = (⟨0, 0, e0⟩, 0, false) := by
    rw [show getP (k :: t) = getB k t (getS t) from rfl, hg]
    rfl
  have hsl := fun W => slice_1 W A t.length c
  obtain ⟨D, hD⟩ : ∃ D, D = dropA A 1 c := ⟨_, rfl⟩
  have hd := (Cut.slB_drop h 1 (by simp)).kept hB
  rw [← hD] at hsl hd
  have hGet := LeG.Get_any D t (c - 1) _ (by omega) hd.1
  rw [hg] at hGet
  have HG := Lib.hid hGet
  have HR := Lib.hid hr
  obtain ⟨L, hL⟩ : ∃ L, L = t.length := ⟨_, rfl⟩
  rw [← hL] at hsl HG hc ⊢
  have HB := Lib.hid hB
  clear hB hr hD hd hGet hg hL h
  go_enter Tryz.func131, Tryz.ntmps131
  go_wp2_with fail
  refine HG.out.mono ?_
  rintro e w1 ⟨rfl, rfl⟩
  simp only [LeG.gotV]
  go_wp2_with fail
  obtain ⟨⟨r0, r1, r2⟩, _⟩ := bx_new w (.int .i64 0) (.int .i64 0) (.string ⟨#[]⟩)
  exact bodyPost_ret (v := .tuple #[.agg #[.int .i64 0, .int .i64 0, .string ⟨#[]⟩], .int .i64 0, .bool false]) (by simp [results, Tryz.results131, go_sem]) rfl ⟨ret_v (by rw [HR.out]; rfl), HB.out⟩

set_option maxRecDepth 100000 in
set_option maxHeartbeats 2000000 in
theorem Get_yes (A : Option Addr) (b o : Nat) (hA : A = some ⟨b, o, none⟩) (k : Int) (t : List Int) (c : Nat) (w : World) (h : SlB w A (k :: t) c) (n u : Nat) (hg : getS t = some (n, u)) : Calls Tryz.prog 131 #[.slice A (k :: t).length c] w (Gots (k :: t) w) := by
  have hm := h.2.2.2
  have hc := h.2.1
  unfold maxLen at hm
  rw [List.length_cons] at hc ⊢
  have htb : ∀ x ∈ t, (0 : Int) ≤ x ∧ x < 256 := fun x hx => h.1.1 x (List.mem_cons_of_mem _ hx)
  have hk := h.1.1 k (by simp)
  obtain ⟨hn, hu, hpu⟩ := (getS_iff t htb n u).1 hg
  have hu10 : u ≤ 10 := by
    have h10 := putL_len64 hn
    rw [hpu, List.length_take] at h10
    omega
  clear hpu
  have hB := (Below.refl w.heap.size w).alloc (Nat.le_refl _) (.cells #[.int .i64 0, .int .i64 0, .string ⟨#[]⟩] 78)
  have hr := getP_read (k := k) hg hn
  have hdl : (t.drop u).length = t.length - u := List.length_drop
  obtain ⟨rk, rn, rs, more, is, hrd⟩ : ∃ rk rn rs more is, rdV k n (t.drop u) = (⟨rk, rn, rs⟩, more, is) := ⟨_, _, _, _, _, rfl⟩
  have hsl := fun W => slice_1 W A t.length c
  have hsl2 := fun W => slice_lo W A (t.length + 1) c (1 + u) (by omega)
  have hd := (Cut.slB_drop h 1 (by simp)).kept hB
  have hcell : w.cell? ⟨b, o, none⟩ = some (.int .u8 k) := by
    rw [hA] at h
    have h0 := isB_cell h.1 0 (by simp)
    rw [Nat.add_zero, List.getD_cons_zero] at h0
    exact h0
  have hix : ∀ W, (Instr.indexAt 26 (.slice A (t.length + 1) c) (.int .i64 0)).run Tryz.prog W = .ok (.pointer (some ⟨b, o, none⟩)) W := fun W => by
    rw [hA]
    exact index_0 W b o _ c (by omega)
  obtain ⟨D, hD⟩ : ∃ D, D = dropA A 1 c := ⟨_, rfl⟩
  obtain ⟨E, hE⟩ : ∃ E, E = dropA A (1 + u) c := ⟨_, rfl⟩
  have hd2 := Cut.slB_drop h (1 + u) (by rw [List.length_cons]; omega)
  rw [Nat.add_comm 1 u, List.drop_succ_cons, Nat.add_comm u 1] at hd2
  rw [← hD] at hsl hd
  rw [← hE] at hsl2 hd2
  have hGet := LeG.Get_any D t (c - 1) _ (by omega) hd.1
  rw [hg] at hGet
  have HG := Lib.hid hGet
  have hrd' := fun W (hW : Below w.heap.size w W) => read_any k n E (t.drop u) (c - (1 + u)) W hn (hd2.kept hW) (by omega)
  rw [hrd] at hr
  simp only [hrd, hdl] at hrd'
  simp only at hr
  have hmore : (more : Int) ≤ 40 := by
    have h1 : more = (rdV k n (t.drop u)).2.1 := by rw [hrd]
    rw [h1]
    unfold rdV
    split
    · simp
    · split
      · split
        · simp only; omega
        · simp
      · simp
  obtain ⟨L, hL⟩ : ∃ L, L = t.length := ⟨_, rfl⟩
  rw [← hL] at hsl hsl2 HG hc hu ⊢
  simp only [← hL] at hix
  simp only [← hL] at hrd'
  rw [show L + 1 - (1 + u) = L - u from by omega, show ((1 + u : Nat) : Int) = 1 + (u : Int) from by omega] at hsl2
  have hcell' := fun W (hW : Below (w.alloc (.cells #[.int .i64 0, .int .i64 0, .string ⟨#[]⟩] 78)).heap.size (w.alloc (.cells #[.int .i64 0, .int .i64 0, .string ⟨#[]⟩] 78)) W) => show W.cell? ⟨b, o, none⟩ = some (.int .u8 k) from by
    rw [(bt hB hW).cell (World.block_lt_of_cell? w _ hcell)]
    exact hcell
  have HRd := Lib.hid (fun W (hW : Below (w.alloc (.cells #[.int .i64 0, .int .i64 0, .string ⟨#[]⟩] 78)).heap.size (w.alloc (.cells #[.int .i64 0, .int .i64 0, .string ⟨#[]⟩] 78)) W) => hrd' W (bt hB hW))
  have HC := Lib.hid hcell'
  have HR := Lib.hid hr
  have HB := Lib.hid hB
  have HX := Lib.hid (bx_new w (.int .i64 0) (.int .i64 0) (.string ⟨#[]⟩))
  clear hA hB hr hD hE hd hd2 hGet hg hL h hrd hrd' hcell hcell' htb hdl
  go_enter Tryz.func131, Tryz.ntmps131
  go_wp2_with fail
  refine HG.out.mono ?_
  rintro e w1 ⟨rfl, rfl⟩
  simp only [LeG.gotV]
  obtain ⟨w1, hw1⟩ : ∃ w1, w1 = w.alloc (.cells #[.int .i64 0, .int .i64 0, .string ⟨#[]⟩] 78) := ⟨_, rfl⟩
  rw [← hw1] at HRd HC HB HX ⊢
  have hsz1 : w.heap.size ≤ w1.heap.size := HB.out.size
  clear hw1 HG
  go_wp2_with fail
  refine RegB.GS_start (fun x => Below w1.heap.size w1 x) (by kernel_rfl) (by repeat (first | exact Reg.frameless_bodyPost | refine Reg.frameless_then ?_ | refine Reg.frameless_inBlock ?_)) (fun W hW => hW) (fun W hW => ?_)
  have HW := Lib.hid hW
  have x0 : ∀ x : RegB.At (fun x => Below w1.heap.size w1 x), x.world.cell? ⟨b, o, none⟩ = some (.int .u8 k) := fun x => HC.out _ x.ok
  haveI : Nonempty (RegB.At (fun x => Below w1.heap.size w1 x)) := ⟨⟨W, hW⟩⟩
  clear hW
  first | (refine RegB.GS_step (i := 0) rfl (by kernel_rfl) (by rfl) (fun K hK => ?_); go_big_quiet_op; refine hK _ ?_; clear hK K)
  first | (refine RegB.GS_step (i := 1) rfl (by kernel_rfl) (by rfl) (fun K hK => ?_); go_big_quiet_op; refine hK _ ?_; clear hK K)
  first | (refine RegB.GS_step (i := 2) rfl (by kernel_rfl) (by rfl) (fun K hK => ?_); go_big_quiet_op; refine hK _ ?_; clear hK K)
  first | (refine RegB.GS_step (i := 3) rfl (by kernel_rfl) (by rfl) (fun K hK => ?_); go_big_quiet_op; refine hK _ ?_; clear hK K)
  first | (refine RegB.GS_step (i := 4) rfl (by kernel_rfl) (by rfl) (fun K hK => ?_); go_big_quiet_op; refine hK _ ?_; clear hK K)
  first | (refine RegB.GS_step (i := 5) rfl (by kernel_rfl) (by rfl) (fun K hK => ?_); go_big_quiet_op; refine hK _ ?_; clear hK K)
  first | (refine RegB.GS_step (i := 6) rfl (by kernel_rfl) (by rfl) (fun K hK => ?_); go_big_quiet_op; refine hK _ ?_; clear hK K)
  first | (refine RegB.GS_step (i := 7) rfl (by kernel_rfl) (by rfl) (fun K hK => ?_); go_big_quiet_op; refine hK _ ?_; clear hK K)
  refine RegB.GS_fork (i := 8) (j := 13) rfl rfl (by kernel_rfl) (by rfl) (by rfl) (fun K hK => ?_) (fun K hK => ?_)
  focus
    go_simp
    refine (HRd.out _ HW.out).mono ?_
    rintro e w4 ⟨rfl, hB4⟩
    simp only [got3]
    refine hK _ _ (bt HW.out hB4) ?_
    clear hK K
    first | (refine RegB.GS_step (i := 9) rfl (by kernel_rfl) (by rfl) (fun K hK => ?_); go_big_quiet_op; refine hK _ ?_; clear hK K)
    first | (refine RegB.GS_step (i := 10) rfl (by kernel_rfl) (by rfl) (fun K hK => ?_); go_big_quiet_op; refine hK _ ?_; clear hK K)
    first | (refine RegB.GS_step (i := 11) rfl (by kernel_rfl) (by rfl) (fun K hK => ?_); go_big_quiet_op; refine hK _ ?_; clear hK K)
    first | (refine RegB.GS_step (i := 12) rfl (by kernel_rfl) (by rfl) (fun K hK => ?_); go_big_quiet_op; refine hK _ ?_; clear hK K)
    refine RegB.GS_event (i := 13) rfl (by kernel_rfl) (by rfl) (fun K hK => ?_)
    go_simp
    refine hK _ _ (bt HW.out (bt hB4 ((Below.refl _ _).alloc (Nat.le_refl _) _))) ?_
    clear hK K
    refine RegB.GS_event (i := 14) rfl (by kernel_rfl) (by rfl) (fun K hK => ?_)
    go_simp
    refine hK _ _ (bt HW.out (bt hB4 ((Below.refl _ _).alloc (Nat.le_refl _) _))) ?_
    clear hK K
    first | (refine RegB.GS_step (i := 15) rfl (by kernel_rfl) (by rfl) (fun K hK => ?_); go_big_quiet_op; refine hK _ ?_; clear hK K)
    first | (refine RegB.GS_step (i := 16) rfl (by kernel_rfl) (by rfl) (fun K hK => ?_); go_big_quiet_op; refine hK _ ?_; clear hK K)
    refine RegB.GS_done (by kernel_rfl) ?_
    have hbx := bx_new w4 (.int .i64 rk) (.int .i64 rn) (.string rs)
    have hbel := bt HW.out (bt hB4 ((Below.refl _ w4).alloc (Nat.le_refl _) (.cells #[.int .i64 rk, .int .i64 rn, .string rs] 78)))
    obtain ⟨bk, hbk⟩ : ∃ bk, bk = w4.heap.size := ⟨_, rfl⟩
    obtain ⟨w5, hw5⟩ : ∃ w5, w5 = w4.alloc (.cells #[.int .i64 rk, .int .i64 rn, .string rs] 78) := ⟨_, rfl⟩
    rw [← hw5] at hbx hbel ⊢
    rw [← hbk] at hbx ⊢
    have HBk := Lib.hid hbx
    have HB5 := Lib.hid hbel
    clear hbx hbel hB4 hbk hw5
  rotate_left
  focus
    go_simp
    refine hK _ _ (bt HW.out ((Below.refl _ _).alloc (Nat.le_refl _) _)) ?_
    clear hK K
    refine RegB.GS_event (i := 8) rfl (by kernel_rfl) (by rfl) (fun K hK => ?_)
    go_simp
    refine (HRd.out _ (bt HW.out ((Below.refl _ _).alloc (Nat.le_refl _) _))).mono ?_
    rintro e w4 ⟨rfl, hB4⟩
    simp only [got3]
    refine hK _ _ (bt HW.out (bt ((Below.refl _ _).alloc (Nat.le_refl _) _) hB4)) ?_
    clear hK K
    first | (refine RegB.GS_step (i := 9) rfl (by kernel_rfl) (by rfl) (fun K hK => ?_); go_big_quiet_op; refine hK _ ?_; clear hK K)
    first | (refine RegB.GS_step (i := 10) rfl (by kernel_rfl) (by rfl) (fun K hK => ?_); go_big_quiet_op; refine hK _ ?_; clear hK K)
    first | (refine RegB.GS_step (i := 11) rfl (by kernel_rfl) (by rfl) (fun K hK => ?_); go_big_quiet_op; refine hK _ ?_; clear hK K)
    first | (refine RegB.GS_step (i := 12) rfl (by kernel_rfl) (by rfl) (fun K hK => ?_); go_big_quiet_op; refine hK _ ?_; clear hK K)
    have hbx0 := (bx_new W (.int .i64 0) (.int .i64 0) (.string ⟨#[]⟩)).kept hB4
    obtain ⟨⟨z0, z1, z2⟩, z3, z4, z5⟩ := hbx0
    have hbel : Below w1.heap.size w1 (((w4.setCell ⟨W.heap.size, 0, none⟩ (.int .i64 rk)).setCell ⟨W.heap.size, 1, none⟩ (.int .i64 rn)).setCell ⟨W.heap.size, 2, none⟩ (.string rs)) := stored3 (bt HW.out (bt ((Below.refl _ W).alloc (Nat.le_refl _) (.cells #[.int .i64 0, .int .i64 0, .string ⟨#[]⟩] 78)) hB4)) HW.out.size _ _ _
    refine RegB.GS_event (i := 14) rfl (by kernel_rfl) (by rfl) (fun K hK => ?_)
    go_simp
    refine hK _ _ hbel ?_
    clear hK K
    first | (refine RegB.GS_step (i := 15) rfl (by kernel_rfl) (by rfl) (fun K hK => ?_); go_big_quiet_op; refine hK _ ?_; clear hK K)
    first | (refine RegB.GS_step (i := 16) rfl (by kernel_rfl) (by rfl) (fun K hK => ?_); go_big_quiet_op; refine hK _ ?_; clear hK K)
    refine RegB.GS_done (by kernel_rfl) ?_
    have hbx := bx_store ((bx_new W (.int .i64 0) (.int .i64 0) (.string ⟨#[]⟩)).kept hB4) (.int .i64 rk) (.int .i64 rn) (.string rs)
    obtain ⟨bk, hbk⟩ : ∃ bk, bk = W.heap.size := ⟨_, rfl⟩
    rw [← hbk] at hbx hbel ⊢
    obtain ⟨w5, hw5⟩ : ∃ w5, w5 = ((w4.setCell ⟨bk, 0, none⟩ (.int .i64 rk)).setCell ⟨bk, 1, none⟩ (.int .i64 rn)).setCell ⟨bk, 2, none⟩ (.string rs) := ⟨_, rfl⟩
    rw [← hw5] at hbx hbel ⊢
    have HBk := Lib.hid hbx
    have HB5 := Lib.hid hbel
    clear hbx hbel hB4 hbk hw5 z0 z1 z2 z3 z4 z5
  all_goals
    cases is
    · have HN := Lib.hid (show gotP (getP (k :: t)) = (⟨0, 0, e0⟩, 0, false) from by rw [HR.out, if_neg (by simp)]; rfl)
      have hx := HX.out.kept HB5.out
      have HBB := Lib.hid HB5.out
      have hst := bx_store hx (.int .i64 0) (.int .i64 0) (.string ⟨#[]⟩)
      obtain ⟨⟨r0, r1, r2⟩, _⟩ := hst
      have R0 := Lib.hid r0
      have R1 := Lib.hid r1
      have R2 := Lib.hid r2
      have HF := Lib.hid (stored3 (bt HB.out HBB.out) (Nat.le_refl _) (.int .i64 0) (.int .i64 0) (.string ⟨#[]⟩))
      obtain ⟨⟨p0, p1, p2⟩, p3, p4, p5⟩ := hx
      clear r0 r1 r2
      go_wp2_with fail
      obtain ⟨W2, hW2⟩ : ∃ W2, W2 = ((w5.setCell ⟨w.heap.size, 0, none⟩ (.int .i64 0)).setCell ⟨w.heap.size, 1, none⟩ (.int .i64 0)).setCell ⟨w.heap.size, 2, none⟩ (.string ⟨#[]⟩) := ⟨_, rfl⟩
      rw [← hW2] at HF R0 R1 R2 ⊢
      have r0 := R0.out
      have r1 := R1.out
      have r2 := R2.out
      clear hW2 p0 p1 p2 p3 p4 p5
      exact bodyPost_ret (v := .tuple #[.agg #[.int .i64 0, .int .i64 0, .string ⟨#[]⟩], .int .i64 0, .bool false]) (by simp [results, Tryz.results131, go_sem, r0, r1, r2]) rfl ⟨ret_v (by rw [HN.out]; rfl), HF.out⟩
    · obtain ⟨⟨q0, q1, q2⟩, _⟩ := HBk.out
      go_wp2_with fail
      refine (May_any rk rn rs _).mono ?_
      rintro e w6 ⟨rfl, hb6⟩
      have hx := HX.out.kept (bt HB5.out hb6)
      have HBB := Lib.hid (bt HB5.out hb6)
      have HBk6 := Lib.hid (HBk.out.kept hb6)
      clear q0 q1 q2 hb6 HB5 HBk
      by_cases hmay : May ⟨rk, rn, rs⟩
      · rw [decide_eq_true hmay]
        have HN := Lib.hid (show gotP (getP (k :: t)) = (⟨rk, rn, rs⟩, 1 + u + more, true) from by rw [HR.out, if_pos ⟨trivial, hmay⟩]; rfl)
        have hst := bx_store hx (.int .i64 rk) (.int .i64 rn) (.string rs)
        obtain ⟨⟨r0, r1, r2⟩, _⟩ := hst
        have R0 := Lib.hid r0
        have R1 := Lib.hid r1
        have R2 := Lib.hid r2
        have HF := Lib.hid (stored3 (bt HB.out HBB.out) (Nat.le_refl _) (.int .i64 rk) (.int .i64 rn) (.string rs))
        obtain ⟨⟨p0, p1, p2⟩, p3, p4, p5⟩ := hx
        obtain ⟨⟨q0, q1, q2⟩, _⟩ := HBk6.out
        clear r0 r1 r2 hmay
        go_wp2_with fail
        obtain ⟨W2, hW2⟩ : ∃ W2, W2 = ((w6.setCell ⟨w.heap.size, 0, none⟩ (.int .i64 rk)).setCell ⟨w.heap.size, 1, none⟩ (.int .i64 rn)).setCell ⟨w.heap.size, 2, none⟩ (.string rs) := ⟨_, rfl⟩
        rw [← hW2] at HF R0 R1 R2 ⊢
        have r0 := R0.out
        have r1 := R1.out
        have r2 := R2.out
        clear hW2 p0 p1 p2 p3 p4 p5 q0 q1 q2
        have hw64 : wrap64 (1 + (u : Int) + (more : Int)) = 1 + (u : Int) + (more : Int) := IntWalk.wrap64_in _ (by omega)
        have hcast : ((1 + u + more : Nat) : Int) = 1 + (u : Int) + (more : Int) := by omega
        exact bodyPost_ret (v := .tuple #[.agg #[.int .i64 rk, .int .i64 rn, .string rs], .int .i64 (1 + (u : Int) + more), .bool true]) (by simp [results, Tryz.results131, go_sem, r0, r1, r2]) rfl ⟨ret_v (by rw [HN.out, got3]; simp only [hcast]), HF.out⟩
      · rw [decide_eq_false hmay]
        have HN := Lib.hid (show gotP (getP (k :: t)) = (⟨0, 0, e0⟩, 0, false) from by rw [HR.out, if_neg (fun h => hmay h.2)]; rfl)
        clear hmay
        have hst := bx_store hx (.int .i64 0) (.int .i64 0) (.string ⟨#[]⟩)
        obtain ⟨⟨r0, r1, r2⟩, _⟩ := hst
        have R0 := Lib.hid r0
        have R1 := Lib.hid r1
        have R2 := Lib.hid r2
        have HF := Lib.hid (stored3 (bt HB.out HBB.out) (Nat.le_refl _) (.int .i64 0) (.int .i64 0) (.string ⟨#[]⟩))
        obtain ⟨⟨p0, p1, p2⟩, p3, p4, p5⟩ := hx
        clear r0 r1 r2
        go_wp2_with fail
        obtain ⟨W2, hW2⟩ : ∃ W2, W2 = ((w6.setCell ⟨w.heap.size, 0, none⟩ (.int .i64 0)).setCell ⟨w.heap.size, 1, none⟩ (.int .i64 0)).setCell ⟨w.heap.size, 2, none⟩ (.string ⟨#[]⟩) := ⟨_, rfl⟩
        rw [← hW2] at HF R0 R1 R2 ⊢
        have r0 := R0.out
        have r1 := R1.out
        have r2 := R2.out
        clear hW2 p0 p1 p2 p3 p4 p5
        exact bodyPost_ret (v := .tuple #[.agg #[.int .i64 0, .int .i64 0, .string ⟨#[]⟩], .int .i64 0, .bool false]) (by simp [results, Tryz.results131, go_sem, r0, r1, r2]) rfl ⟨ret_v (by rw [HN.out]; rfl), HF.out⟩

/-- Get of any bytes. -/
theorem Get_any (A : Option Addr) (xs : List Int) (c : Nat) (w : World) (h : SlB w A xs c) : Calls Tryz.prog 131 #[.slice A xs.length c] w (Gots xs w) := by
  cases xs with
  | nil => exact Get_nil A c w
  | cons k t =>
    cases hg : getS t with
    | none => exact Get_no A k t c w h hg
    | some p =>
      obtain ⟨n, u⟩ := p
      obtain ⟨b, o, hA, _⟩ := h.1.2 (by simp)
      exact Get_yes A b o hA k t c w h n u hg
end Go.Proofs.YtbmdkibmfkmjoaaGreat.Va

namespace Go.Proofs.YtbmdkibmfkmjoaaGreat.Ex
open Go.RowKit Go.Proofs.YtbmdkibmfkmjoaaGreat.BM Go.Proofs.YtbmdkibmfkmjoaaGreat.LM Go.Proofs.YtbmdkibmfkmjoaaGreat.LeM Go.Proofs.YtbmdkibmfkmjoaaGreat.EvM Go.Proofs.YtbmdkibmfkmjoaaGreat.ExM
open Go.Proofs.YtbmdkibmfkmjoaaGreat.VaM (V Rng gotP getP e0)
open Go.Proofs.YtbmdkibmfkmjoaaGreat.Va (Bx Bx2 bx_new_t bx2_new bx2_set0 bx2_set1 bx_set2 ret_v bx_store stored3)
open Go.Proofs.YtbmdkibmfkmjoaaGreat.Sc (Rdd grown_set grown_trans)
open Go.Proofs.YtbmdkibmfkmjoaaGreat.ScM (Rs rNum rNum_le)

set_option maxRecDepth 100000 in
theorem number_own (b : Nat) (A : Option Addr) (xs : List Int) (c : Nat) (sh : Bool) (m : Nat) (w : World) (hB : Bx2 w b (.slice A xs.length c) (.bool sh)) (hx : SlB w A xs c) (hm : m ≤ 1000) :
    Calls Tryz.prog 113 #[.pointer (some ⟨b, 0, none⟩), .int .u64 (m : Int)] w fun e w' => e = .returned (.int .i64 ((rNum m (xs, sh)).1 : Int)) ∧ Rdd b A c xs w (rNum m (xs, sh)).2 w' := by
  have hxc := hx.2.1
  have hmx := hx.2.2.2
  unfold maxLen at hmx
  have hget := LeG.Get_any A xs c w (by omega) hx.1
  have HX := Lib.hid hB
  cases hg : getS xs with
  | none =>
    have hr : rNum m (xs, sh) = (0, (xs, true)) := by unfold rNum; simp only [hg]
    rw [hr]
    rw [hg] at hget
    obtain ⟨n, hn⟩ : ∃ n, n = xs.length := ⟨_, rfl⟩
    have HP := Lib.hid (bx2_set1 hB (.bool true))
    rw [← hn] at hB hget
    have HG := Lib.hid hget
    obtain ⟨⟨p0, p1⟩, p2, p3⟩ := hB
    clear hr hx hn hg hget
    go_enter Tryz.func113, Tryz.ntmps113
    go_wp2_with fail
    refine HG.out.mono ?_
    rintro e w1 ⟨rfl, rfl⟩
    simp only [LeG.gotV]
    go_wp2_with fail
    go_ret
    exact ⟨rfl, grown_set _ _ _ _, A, c, HP.out, fun W h => h⟩
  | some p =>
    obtain ⟨v, u⟩ := p
    obtain ⟨h1, h2, h3⟩ := (getS_iff xs hx.1.1 v u).1 hg
    rw [hg] at hget
    by_cases hv : v ≤ m
    · have hr : rNum m (xs, sh) = (v, (xs.drop u, sh)) := by unfold rNum; simp only [hg, if_pos hv]
      rw [hr]
      have hlt2 : (xs.drop u).length = xs.length - u := List.length_drop
      have HP := Lib.hid (bx2_set0 hB (.slice (dropA A u c) (xs.drop u).length (c - u)))
      have HE := Lib.hid hlt2
      have hD := fun W (h : SlB W A xs c) => Cut.slB_drop h u h2
      have hsl2 := fun W => slice_lo W A xs.length c u h2
      obtain ⟨D, hDe⟩ : ∃ D, D = dropA A u c := ⟨_, rfl⟩
      rw [← hDe] at HP hsl2
      simp only [← hDe] at hD
      obtain ⟨n, hn⟩ : ∃ n, n = xs.length := ⟨_, rfl⟩
      rw [← hn] at hB hget hsl2 HE h2
      have HG := Lib.hid hget
      have HD := Lib.hid hD
      obtain ⟨⟨p0, p1⟩, p2, p3⟩ := hB
      clear hr hx hn hg hget hD hDe hlt2 h3 h1
      go_enter Tryz.func113, Tryz.ntmps113
      go_wp2_with fail
      refine HG.out.mono ?_
      rintro e w1 ⟨rfl, rfl⟩
      simp only [LeG.gotV]
      go_wp2_with fail
      go_ret
      refine ⟨rfl, grown_set _ _ _ _, D, c - u, ?_, HD.out⟩
      have h := HP.out
      rw [HE.out] at h
      simp only [HE.out]
      exact h
    · have hr : rNum m (xs, sh) = (0, (xs, true)) := by unfold rNum; simp only [hg, if_neg hv]
      rw [hr]
      obtain ⟨n, hn⟩ : ∃ n, n = xs.length := ⟨_, rfl⟩
      have HP := Lib.hid (bx2_set1 hB (.bool true))
      rw [← hn] at hB hget
      have HG := Lib.hid hget
      obtain ⟨⟨p0, p1⟩, p2, p3⟩ := hB
      clear hr hx hn hg hget h3 h2
      go_enter Tryz.func113, Tryz.ntmps113
      go_wp2_with fail
      refine HG.out.mono ?_
      rintro e w1 ⟨rfl, rfl⟩
      simp only [LeG.gotV]
      go_wp2_with fail
      go_ret
      exact ⟨rfl, grown_set _ _ _ _, A, c, HP.out, fun W h => h⟩

theorem grownB {w w' : World} {r : Option Nat} (h : Below w.heap.size w w') : w.grownBy w' r := ⟨h.os, h.tape, h.output, h.size, fun k hk _ => h.block k hk⟩
theorem grownF {w W : World} {r : Option Nat} {k : Nat} (h : w.grownBy W r) (hk : w.heap.size ≤ k) (i : Nat) (u : Value) : w.grownBy (W.setCell ⟨k, i, none⟩ u) r := by
  have g := grown_set W k i u
  exact ⟨g.os.trans h.os, g.tape.trans h.tape, g.output.trans h.output, Nat.le_trans h.size g.size, fun j hj hne => (g.block j (Nat.lt_of_lt_of_le hj h.size) (fun e => by injection e with e; omega)).trans (h.block j hj hne)⟩

set_option maxRecDepth 100000 in
set_option maxHeartbeats 1000000 in
theorem value_own (b : Nat) (A : Option Addr) (xs : List Int) (c : Nat) (sh : Bool) (w : World) (hB : Bx2 w b (.slice A xs.length c) (.bool sh)) (hx : ∀ W, w.grownBy W (some b) → SlB W A xs c) :
    Calls Tryz.prog 124 #[.pointer (some ⟨b, 0, none⟩)] w fun e w' => e = .returned (.agg #[.int .i64 (rVal (xs, sh)).1.k, .int .i64 (rVal (xs, sh)).1.n, .string (rVal (xs, sh)).1.s]) ∧ Rdd b A c xs w (rVal (xs, sh)).2 w' := by
  have hx0 := hx w (World.grownBy.refl _ _)
  have hxc := hx0.2.1
  have hxm := hx0.2.2.2
  unfold maxLen at hxm
  have hblt := hB.lt
  have hget := fun W (hW : Below w.heap.size w W) => Va.Get_any A xs c W (hx0.kept hW)
  have hle := (gotP_sm hx0.1.1).2
  have hrv : rVal (xs, sh) = ((gotP (getP xs)).1, (xs.drop (gotP (getP xs)).2.1, sh || !(gotP (getP xs)).2.2)) := rfl
  unfold Va.Gots at hget
  obtain ⟨⟨⟨vk, vn, vs⟩, m, is⟩, hr⟩ : ∃ r, r = gotP (getP xs) := ⟨_, rfl⟩
  rw [← hr] at hle hrv
  simp only [← hr, Va.got3] at hget
  simp only at hle hrv
  rw [hrv]
  simp only
  have hdl : (xs.drop m).length = xs.length - m := List.length_drop
  have hD := fun W (h : SlB W A xs c) => Cut.slB_drop h m hle
  have hsl2 := fun W => slice_lo W A xs.length c m hle
  obtain ⟨D, hDe⟩ : ∃ D, D = dropA A m c := ⟨_, rfl⟩
  rw [← hDe] at hsl2
  simp only [← hDe] at hD
  have HDl := Lib.hid hdl
  obtain ⟨r, hrl⟩ : ∃ r, r = xs.length := ⟨_, rfl⟩
  rw [← hrl] at hB hle hxc hsl2 HDl
  simp only [← hrl] at hget
  have HGet := Lib.hid hget
  have HD := Lib.hid hD
  have ha0 := (Below.refl w.heap.size w).alloc (Nat.le_refl _) (.cells #[.int .i64 0, .int .i64 0, .string ⟨#[]⟩] 78)
  have HA0 := Lib.hid ha0
  have HR0 := Lib.hid (bx_new_t w 78 (.int .i64 0) (.int .i64 0) (.string ⟨#[]⟩))
  have HB0 := Lib.hid (hB.kept ha0)
  clear hr hrv hget hD hDe hrl hdl ha0 hx hx0 hB
  obtain ⟨⟨p0, p1⟩, p2, p3⟩ := HB0.out
  go_enter Tryz.func124, Tryz.ntmps124
  go_wp2_with fail
  refine (HGet.out _ HA0.out).mono ?_
  rintro e w1 ⟨rfl, hb1⟩
  have ha1 := (Below.refl w1.heap.size w1).alloc (Nat.le_refl _) (.cells #[.int .i64 vk, .int .i64 vn, .string vs] 78)
  have HB1 := Lib.hid ((HB0.out.kept hb1).kept ha1)
  have HR1 := Lib.hid ((HR0.out.kept hb1).kept ha1)
  have HV1 := Lib.hid (bx_new_t w1 78 (.int .i64 vk) (.int .i64 vn) (.string vs))
  have HG1 := Lib.hid (bt HA0.out (bt hb1 ha1))
  have hwl := Nat.lt_of_lt_of_le HR0.out.lt hb1.size
  clear hb1 ha1 HGet HA0 HR0 HB0 p0 p1 p2 p3
  have hne1 : ¬ b = w1.heap.size := by omega
  have hne2 : ¬ b = w.heap.size := by omega
  have hne3 : ¬ w1.heap.size = w.heap.size := by omega
  obtain ⟨⟨p0, p1⟩, p2, p3⟩ := HB1.out
  obtain ⟨⟨z0, z1, z2⟩, _⟩ := HV1.out
  obtain ⟨⟨y0, y1, y2⟩, y3, y4, y5⟩ := HR1.out
  have hfin : ∀ T : Bool, ∃ W2, W2 = (((((w1.alloc (.cells #[.int .i64 vk, .int .i64 vn, .string vs] 78)).setCell ⟨b, 0, none⟩ (.slice D (r - m) (c - m))).setCell ⟨b, 1, none⟩ (.bool T)).setCell ⟨w.heap.size, 0, none⟩ (.int .i64 vk)).setCell ⟨w.heap.size, 1, none⟩ (.int .i64 vn)).setCell ⟨w.heap.size, 2, none⟩ (.string vs) ∧
      Bx W2 w.heap.size (.int .i64 vk) (.int .i64 vn) (.string vs) ∧ Rdd b A c xs w (xs.drop m, T) W2 := fun T => by
    refine ⟨_, rfl, bx_store ((HR1.out.off (p := ⟨b, 0, none⟩) hne2 _).off (p := ⟨b, 1, none⟩) hne2 _) _ _ _, ?_, D, c - m, ?_, HD.out⟩
    · exact grownF (grownF (grownF (grown_trans (grown_trans (grownB HG1.out) (grown_set _ _ _ _)) (grown_set _ _ _ _)) (Nat.le_refl _) _ _) (Nat.le_refl _) _ _) (Nat.le_refl _) _ _
    · simp only [HDl.out]
      have hn2 : w.heap.size ≠ b := fun e => hne2 e.symm
      exact (((bx2_set1 (bx2_set0 HB1.out (.slice D (r - m) (c - m))) (.bool T)).off (p := ⟨w.heap.size, 0, none⟩) hn2 _).off (p := ⟨w.heap.size, 1, none⟩) hn2 _).off (p := ⟨w.heap.size, 2, none⟩) hn2 _
  have HFin := Lib.hid hfin
  clear hfin
  cases sh
  · obtain ⟨W2, hW2, hb2, hr2⟩ := HFin.out (!is)
    obtain ⟨⟨g0, g1, g2⟩, _⟩ := hb2
    have G0 := Lib.hid g0
    have G1 := Lib.hid g1
    have G2 := Lib.hid g2
    have HRd := Lib.hid hr2
    have HW2 := Lib.hid hW2
    clear hW2 g0 g1 g2 hr2
    go_wp2_with fail
    rw [← HW2.out]
    have g0 := G0.out
    have g1 := G1.out
    have g2 := G2.out
    exact bodyPost_ret (v := .agg #[.int .i64 vk, .int .i64 vn, .string vs]) (by simp [results, Tryz.results124, go_sem, g0, g1, g2]) rfl ⟨rfl, HRd.out⟩
  · obtain ⟨W2, hW2, hb2, hr2⟩ := HFin.out true
    obtain ⟨⟨g0, g1, g2⟩, _⟩ := hb2
    have G0 := Lib.hid g0
    have G1 := Lib.hid g1
    have G2 := Lib.hid g2
    have HRd := Lib.hid hr2
    have HW2 := Lib.hid hW2
    clear hW2 g0 g1 g2 hr2
    go_wp2_with fail
    rw [← HW2.out]
    have g0 := G0.out
    have g1 := G1.out
    have g2 := G2.out
    exact bodyPost_ret (v := .agg #[.int .i64 vk, .int .i64 vn, .string vs]) (by simp [results, Tryz.results124, go_sem, g0, g1, g2]) rfl ⟨rfl, HRd.out⟩
set_option maxRecDepth 100000 in
theorem one_own (b : Nat) (A : Option Addr) (xs : List Int) (c : Nat) (sh : Bool) (w : World) (hB : Bx2 w b (.slice A xs.length c) (.bool sh)) (hx : SlB w A xs c) :
    Calls Tryz.prog 123 #[.pointer (some ⟨b, 0, none⟩)] w fun e w' => e = .returned (.int .i64 (rOne (xs, sh)).1) ∧ Rdd b A c xs w (rOne (xs, sh)).2 w' := by
  cases xs with
  | nil =>
    have hr : rOne ([], sh) = (0, ([], true)) := rfl
    rw [hr]
    have HP := Lib.hid (bx2_set1 hB (.bool true))
    rw [List.length_nil] at hB
    obtain ⟨⟨p0, p1⟩, p2, p3⟩ := hB
    clear hr hx
    go_enter Tryz.func123, Tryz.ntmps123
    go_wp2_with fail
    go_ret
    exact ⟨rfl, grown_set _ _ _ _, A, c, HP.out, fun W h => h⟩
  | cons x t =>
    have hr : rOne (x :: t, sh) = (x, (t, sh)) := rfl
    rw [hr]
    obtain ⟨b1, q1, hix, hc, hx0, hx1⟩ := byte_at hx 0 (by simp)
    have hc0 := hc w (Below.refl _ _)
    rw [List.getD_cons_zero] at hc0 hx0 hx1
    have hi : ∀ W, (Instr.indexAt 26 (.slice A (t.length + 1) c) (.int .i64 0)).run Tryz.prog W = .ok (.pointer (some ⟨b1, q1, none⟩)) W := hix
    have hsl := fun W => Va.slice_1 W A t.length c
    have hD := fun W (h : SlB W A (x :: t) c) => Cut.slB_drop h 1 (by simp)
    simp only [List.drop_succ_cons, List.drop_zero] at hD
    have HP := Lib.hid (bx2_set0 hB (.slice (dropA A 1 c) t.length (c - 1)))
    obtain ⟨D, hDe⟩ : ∃ D, D = dropA A 1 c := ⟨_, rfl⟩
    rw [← hDe] at HP
    simp only [← hDe] at hD hsl
    rw [List.length_cons] at hB
    obtain ⟨n, hn⟩ : ∃ n, n = t.length := ⟨_, rfl⟩
    rw [← hn] at hB
    simp only [← hn] at hi hsl
    have HN := Lib.hid hn
    have HD := Lib.hid hD
    obtain ⟨⟨p0, p1⟩, p2, p3⟩ := hB
    clear hr hx hn hD hDe hix hc
    go_enter Tryz.func123, Tryz.ntmps123
    go_wp2_with fail
    go_ret
    refine ⟨rfl, grown_set _ _ _ _, D, c - 1, ?_, HD.out⟩
    have h := HP.out
    rw [← HN.out] at h
    simp only [← HN.out]
    exact h
end Go.Proofs.YtbmdkibmfkmjoaaGreat.Ex

namespace Go.Proofs.YtbmdkibmfkmjoaaGreat.Ex
open Go.RowKit Go.Proofs.YtbmdkibmfkmjoaaGreat.BM Go.Proofs.YtbmdkibmfkmjoaaGreat.LM Go.Proofs.YtbmdkibmfkmjoaaGreat.LeM Go.Proofs.YtbmdkibmfkmjoaaGreat.EvM Go.Proofs.YtbmdkibmfkmjoaaGreat.ExM
open Go.Proofs.YtbmdkibmfkmjoaaGreat.VaM (V Rng gotP getP e0)
open Go.Proofs.YtbmdkibmfkmjoaaGreat.Va (Bx Bx2 bx_new_t bx2_new bx2_set0 bx2_set1 bx_set2 ret_v bx_store stored3)
open Go.Proofs.YtbmdkibmfkmjoaaGreat.Sc (Rdd grown_set grown_trans)
open Go.Proofs.YtbmdkibmfkmjoaaGreat.ScM (Rs)

/-- Five cells, stored. -/
def put5 (w : World) (b : Nat) (y : O) : World := ((((w.setCell ⟨b, 0, none⟩ (.int .i64 y.c)).setCell ⟨b, 1, none⟩ (.int .i64 y.a)).setCell ⟨b, 2, none⟩ (.int .i64 y.v.k)).setCell ⟨b, 3, none⟩ (.int .i64 y.v.n)).setCell ⟨b, 4, none⟩ (.string y.v.s)

theorem bxO_put {w : World} {b : Nat} {x : O} (h : BxO w b x) (y : O) : BxO (put5 w b y) b y :=
  RG.BxN.set (RG.BxN.set (RG.BxN.set (RG.BxN.set (RG.BxN.set h 0 (show 0 < 5 from by decide) (.int .i64 y.c)) 1 (show 1 < 5 from by decide) (.int .i64 y.a)) 2 (show 2 < 5 from by decide) (.int .i64 y.v.k)) 3 (show 3 < 5 from by decide) (.int .i64 y.v.n)) 4 (show 4 < 5 from by decide) (.string y.v.s)

theorem put5_grown {w W : World} {r : Option Nat} {k : Nat} (h : w.grownBy W r) (hk : w.heap.size ≤ k) (y : O) : w.grownBy (put5 W k y) r := grownF (grownF (grownF (grownF (grownF h hk _ _) hk _ _) hk _ _) hk _ _) hk _ _

theorem put5_off {w : World} {b k : Nat} {v0 v1 : Value} (h : Bx2 w b v0 v1) (hk : k ≠ b) (y : O) : Bx2 (put5 w k y) b v0 v1 :=
  ((((h.off (p := ⟨k, 0, none⟩) hk _).off (p := ⟨k, 1, none⟩) hk _).off (p := ⟨k, 2, none⟩) hk _).off (p := ⟨k, 3, none⟩) hk _).off (p := ⟨k, 4, none⟩) hk _

theorem rPart_push {r : Rs} (h : (rOne r).1 = 0) : rPart r = (⟨0, 0, (rVal (rOne r).2).1⟩, (rVal (rOne r).2).2) := by rw [rPart, if_pos h]
theorem rPart_load {r : Rs} (h : (rOne r).1 = 1) : rPart r = (⟨1, (rOne (rOne r).2).1, v0⟩, (rOne (rOne r).2).2) := by rw [rPart, if_neg (by omega), if_pos h]
theorem rPart_else {r : Rs} (h0 : (rOne r).1 ≠ 0) (h1 : (rOne r).1 ≠ 1) : rPart r = (⟨(rOne r).1, 0, v0⟩, (rOne r).2) := by rw [rPart, if_neg h0, if_neg h1]

set_option maxRecDepth 100000 in
set_option maxHeartbeats 4000000 in
theorem part_own (b : Nat) (A : Option Addr) (xs : List Int) (c : Nat) (sh : Bool) (w : World) (hB : Bx2 w b (.slice A xs.length c) (.bool sh)) (hx : ∀ W, w.grownBy W (some b) → SlB W A xs c) :
    Calls Tryz.prog 114 #[.pointer (some ⟨b, 0, none⟩)] w fun e w' => e = .returned (agO (rPart (xs, sh)).1) ∧ Rdd b A c xs w (rPart (xs, sh)).2 w' := by
  have hblt := hB.lt
  have hpu := @rPart_push (xs, sh)
  have hlo := @rPart_load (xs, sh)
  have hel := @rPart_else (xs, sh)
  have ha0 := (Below.refl w.heap.size w).alloc (Nat.le_refl _) (.cells #[.int .i64 0, .int .i64 0, .int .i64 0, .int .i64 0, .string ⟨#[]⟩] 80)
  have HG0 := Lib.hid (grownB (r := some b) ha0)
  have hR0 := bxO_new w ⟨0, 0, v0⟩
  have hB0 := hB.kept ha0
  obtain ⟨w0, hw0⟩ : ∃ w0, w0 = w.alloc (.cells #[.int .i64 0, .int .i64 0, .int .i64 0, .int .i64 0, .string ⟨#[]⟩] 80) := ⟨_, rfl⟩
  have hR0' : BxO w0 w.heap.size ⟨0, 0, v0⟩ := by rw [hw0]; exact hR0
  rw [← hw0] at HG0 hB0
  have hone := one_own b A xs c sh w0 hB0 (hx w0 HG0.out)
  have HR0 := Lib.hid hR0'
  have HX := Lib.hid hx
  obtain ⟨⟨cd, ys, s1⟩, hr⟩ : ∃ r, r = rOne (xs, sh) := ⟨_, rfl⟩
  rw [← hr] at hone hpu hlo hel
  simp only at hone hpu hlo hel
  obtain ⟨R, hRp⟩ : ∃ R, R = rPart (xs, sh) := ⟨_, rfl⟩
  rw [← hRp] at hpu hlo hel ⊢
  have HOne := Lib.hid hone
  have HPu := Lib.hid hpu
  have HLo := Lib.hid hlo
  have HEl := Lib.hid hel
  have HW0 := Lib.hid hw0
  clear hB hx ha0 hR0 hR0' hB0 hone hr hRp hpu hlo hel hw0
  go_enter Tryz.func114, Tryz.ntmps114
  go_wp2_with fail
  rw [← HW0.out]
  refine HOne.out.mono ?_
  rintro e w1 ⟨rfl, hg1, A1, c1, hb1, hs1⟩
  have hG1 := grown_trans HG0.out hg1
  have hR1 := RG.BxN.grown HR0.out hg1 (fun e => by injection e with e; omega)
  have ha2 := (Below.refl w1.heap.size w1).alloc (Nat.le_refl _) (.cells #[.int .i64 cd, .int .i64 0, .int .i64 0, .int .i64 0, .string ⟨#[]⟩] 80)
  have HG2 := Lib.hid (grown_trans hG1 (grownB (r := some b) ha2))
  have HR2 := Lib.hid (show BxO _ w.heap.size ⟨0, 0, v0⟩ from RG.BxN.kept hR1 ha2)
  have HO2 := Lib.hid (bxO_new w1 ⟨cd, 0, v0⟩)
  have HB2 := Lib.hid (hb1.kept ha2)
  have HS1 := Lib.hid hs1
  have hlt1 : w.heap.size < w1.heap.size := RG.BxN.lt hR1 (by decide : 0 < 5)
  obtain ⟨o, ho⟩ : ∃ o, o = w1.heap.size := ⟨_, rfl⟩
  obtain ⟨w2, hw2⟩ : ∃ w2, w2 = w1.alloc (.cells #[.int .i64 cd, .int .i64 0, .int .i64 0, .int .i64 0, .string ⟨#[]⟩] 80) := ⟨_, rfl⟩
  have HO2' := Lib.hid (show BxO w2 o ⟨cd, 0, v0⟩ from by rw [hw2, ho]; exact HO2.out)
  rw [← hw2] at HG2 HR2 HB2
  rw [← ho] at hlt1
  have HW2 := Lib.hid hw2
  have HOe := Lib.hid ho
  obtain ⟨x0, x1, x2, x3, x4⟩ := HO2.out.cells
  simp only [v0] at x0 x1 x2 x3 x4
  have hne1 : o ≠ b := by omega
  have hne2 : w.heap.size ≠ b := by omega
  have hne3 : ¬ o = w.heap.size := by omega
  have hne4 : ¬ w.heap.size = o := by omega
  clear hg1 hb1 hs1 hG1 hR1 ha2 HO2 ho hw2 HOne HG0 HR0 HW0
  by_cases h0 : cd = 0
  · subst h0
    have hR := HPu.out rfl
    have hval := value_own b A1 ys c1 s1 w2 HB2.out (fun W hg => HS1.out W (HX.out W (grown_trans HG2.out hg)))
    obtain ⟨⟨⟨vk, vn, vs⟩, zs, s2⟩, hr⟩ : ∃ r, r = rVal (ys, s1) := ⟨_, rfl⟩
    rw [← hr] at hval hR
    simp only at hval hR
    have HVal := Lib.hid hval
    have HRe := Lib.hid hR
    clear hval hR hr HPu HLo HEl
    obtain ⟨y0, y1, y2, y3, y4⟩ := HO2'.out.cells
    simp only [v0] at y0 y1 y2 y3 y4
    go_wp2_with fail
    rw [← HW2.out, ← HOe.out]
    refine HVal.out.mono ?_
    rintro e w3 ⟨rfl, hg3, A3, c3, hb3, hs3⟩
    have hO3 : BxO w3 o ⟨0, 0, v0⟩ := RG.BxN.grown HO2'.out hg3 (fun e => by injection e with e; omega)
    have hR3 : BxO w3 w.heap.size ⟨0, 0, v0⟩ := RG.BxN.grown HR2.out hg3 (fun e => by injection e with e; omega)
    have hG3 := grown_trans HG2.out hg3
    obtain ⟨w4, hw4⟩ : ∃ w4, w4 = ((w3.setCell ⟨o, 2, none⟩ (.int .i64 vk)).setCell ⟨o, 3, none⟩ (.int .i64 vn)).setCell ⟨o, 4, none⟩ (.string vs) := ⟨_, rfl⟩
    have hO4 : BxO w4 o ⟨0, 0, ⟨vk, vn, vs⟩⟩ := by rw [hw4]; exact RG.BxN.set (RG.BxN.set (RG.BxN.set hO3 2 (show 2 < 5 from by decide) (.int .i64 vk)) 3 (show 3 < 5 from by decide) (.int .i64 vn)) 4 (show 4 < 5 from by decide) (.string vs)
    have hR4 : BxO w4 w.heap.size ⟨0, 0, v0⟩ := by rw [hw4]; exact ((RG.BxN.off hR3 (p := ⟨o, 2, none⟩) hne3 _).off (p := ⟨o, 3, none⟩) hne3 _).off (p := ⟨o, 4, none⟩) hne3 _
    have hG4 : w.grownBy w4 (some b) := by rw [hw4]; exact grownF (grownF (grownF hG3 (by omega) _ _) (by omega) _ _) (by omega) _ _
    have hB4 : Bx2 w4 b (.slice A3 zs.length c3) (.bool s2) := by rw [hw4]; exact ((hb3.off (p := ⟨o, 2, none⟩) hne1 _).off (p := ⟨o, 3, none⟩) hne1 _).off (p := ⟨o, 4, none⟩) hne1 _
    have HF := Lib.hid (bxO_put hR4 ⟨0, 0, ⟨vk, vn, vs⟩⟩)
    have HRd := Lib.hid (show Rdd b A c xs w (zs, s2) (put5 w4 w.heap.size ⟨0, 0, ⟨vk, vn, vs⟩⟩) from ⟨put5_grown hG4 (Nat.le_refl _) _, A3, c3, put5_off hB4 hne2 _, fun W h => hs3 W (HS1.out W h)⟩)
    have HW4 := Lib.hid hw4
    obtain ⟨z0, z0'⟩ := hO3 0 _ rfl
    obtain ⟨z1, z1'⟩ := hO3 1 _ rfl
    obtain ⟨z2, z2'⟩ := hO3 2 _ rfl
    obtain ⟨z3, z3'⟩ := hO3 3 _ rfl
    obtain ⟨z4, z4'⟩ := hO3 4 _ rfl
    obtain ⟨u0, u0'⟩ := hR3 0 _ rfl
    obtain ⟨u1, u1'⟩ := hR3 1 _ rfl
    obtain ⟨u2, u2'⟩ := hR3 2 _ rfl
    obtain ⟨u3, u3'⟩ := hR3 3 _ rfl
    obtain ⟨u4, u4'⟩ := hR3 4 _ rfl
    simp only [v0] at z0 z1 z2 z3 z4 u0 u1 u2 u3 u4
    clear hg3 hb3 hs3 hO3 hR3 hG3 hO4 hR4 hG4 hB4 hw4 HVal HX HG2 HR2 HB2 HS1 HO2' HW2 x0 x1 x2 x3 x4 y0 y1 y2 y3 y4
    go_wp2_with fail
    change bodyPost _ _ _ _ _ (put5 (((w3.setCell ⟨o, 2, none⟩ (.int .i64 vk)).setCell ⟨o, 3, none⟩ (.int .i64 vn)).setCell ⟨o, 4, none⟩ (.string vs)) w.heap.size ⟨0, 0, ⟨vk, vn, vs⟩⟩)
    rw [← HW4.out]
    obtain ⟨W2, hW2⟩ : ∃ W2, W2 = put5 w4 w.heap.size ⟨0, 0, ⟨vk, vn, vs⟩⟩ := ⟨_, rfl⟩
    rw [← hW2] at HF HRd ⊢
    obtain ⟨g0, g1, g2, g3, g4⟩ := HF.out.cells
    simp only at g0 g1 g2 g3 g4
    clear hW2 z0 z1 z2 z3 z4 u0 u1 u2 u3 u4 z0' z1' z2' z3' z4' u0' u1' u2' u3' u4'
    exact bodyPost_ret (v := .agg #[.int .i64 0, .int .i64 0, .int .i64 vk, .int .i64 vn, .string vs]) (by simp [results, Tryz.results114, go_sem, g0, g1, g2, g3, g4]) rfl ⟨ret_v (by rw [HRe.out]; rfl), by rw [HRe.out]; exact HRd.out⟩
  · have g0' : (cd == 0) = false := by simpa using h0
    by_cases h1 : cd = 1
    · subst h1
      have hR := HLo.out rfl
      have hval := one_own b A1 ys c1 s1 w2 HB2.out (HS1.out w2 (HX.out w2 HG2.out))
      obtain ⟨⟨a, zs, s2⟩, hr⟩ : ∃ r, r = rOne (ys, s1) := ⟨_, rfl⟩
      rw [← hr] at hval hR
      simp only at hval hR
      have HVal := Lib.hid hval
      have HRe := Lib.hid hR
      clear hval hR hr HPu HLo HEl
      obtain ⟨y0, y1, y2, y3, y4⟩ := HO2'.out.cells
      simp only [v0] at y0 y1 y2 y3 y4
      go_wp2_with fail
      rw [← HW2.out, ← HOe.out]
      refine HVal.out.mono ?_
      rintro e w3 ⟨rfl, hg3, A3, c3, hb3, hs3⟩
      have hO3 : BxO w3 o ⟨1, 0, v0⟩ := RG.BxN.grown HO2'.out hg3 (fun e => by injection e with e; omega)
      have hR3 : BxO w3 w.heap.size ⟨0, 0, v0⟩ := RG.BxN.grown HR2.out hg3 (fun e => by injection e with e; omega)
      have hG3 := grown_trans HG2.out hg3
      obtain ⟨w4, hw4⟩ : ∃ w4, w4 = w3.setCell ⟨o, 1, none⟩ (.int .i64 a) := ⟨_, rfl⟩
      have hR4 : BxO w4 w.heap.size ⟨0, 0, v0⟩ := by rw [hw4]; exact RG.BxN.off hR3 (p := ⟨o, 1, none⟩) hne3 _
      have hG4 : w.grownBy w4 (some b) := by rw [hw4]; exact grownF hG3 (by omega) _ _
      have hB4 : Bx2 w4 b (.slice A3 zs.length c3) (.bool s2) := by rw [hw4]; exact hb3.off (p := ⟨o, 1, none⟩) hne1 _
      have HF := Lib.hid (bxO_put hR4 ⟨1, a, v0⟩)
      have HRd := Lib.hid (show Rdd b A c xs w (zs, s2) (put5 w4 w.heap.size ⟨1, a, v0⟩) from ⟨put5_grown hG4 (Nat.le_refl _) _, A3, c3, put5_off hB4 hne2 _, fun W h => hs3 W (HS1.out W h)⟩)
      have HW4 := Lib.hid hw4
      obtain ⟨z0, z0'⟩ := hO3 0 _ rfl
      obtain ⟨z1, z1'⟩ := hO3 1 _ rfl
      obtain ⟨z2, z2'⟩ := hO3 2 _ rfl
      obtain ⟨z3, z3'⟩ := hO3 3 _ rfl
      obtain ⟨z4, z4'⟩ := hO3 4 _ rfl
      obtain ⟨u0, u0'⟩ := hR3 0 _ rfl
      obtain ⟨u1, u1'⟩ := hR3 1 _ rfl
      obtain ⟨u2, u2'⟩ := hR3 2 _ rfl
      obtain ⟨u3, u3'⟩ := hR3 3 _ rfl
      obtain ⟨u4, u4'⟩ := hR3 4 _ rfl
      simp only [v0] at z0 z1 z2 z3 z4 u0 u1 u2 u3 u4
      clear hg3 hb3 hs3 hO3 hR3 hG3 hR4 hG4 hB4 hw4 HVal HX HG2 HR2 HB2 HS1 HO2' HW2 x0 x1 x2 x3 x4 y0 y1 y2 y3 y4
      go_wp2_with fail
      change bodyPost _ _ _ _ _ (put5 (w3.setCell ⟨o, 1, none⟩ (.int .i64 a)) w.heap.size ⟨1, a, v0⟩)
      rw [← HW4.out]
      obtain ⟨W2, hW2⟩ : ∃ W2, W2 = put5 w4 w.heap.size ⟨1, a, v0⟩ := ⟨_, rfl⟩
      rw [← hW2] at HF HRd ⊢
      obtain ⟨g0, g1, g2, g3, g4⟩ := HF.out.cells
      simp only [v0] at g0 g1 g2 g3 g4
      clear hW2 z0 z1 z2 z3 z4 u0 u1 u2 u3 u4 z0' z1' z2' z3' z4' u0' u1' u2' u3' u4'
      exact bodyPost_ret (v := .agg #[.int .i64 1, .int .i64 a, .int .i64 0, .int .i64 0, .string e0]) (by simp [results, Tryz.results114, go_sem, g0, g1, g2, g3, g4]) rfl ⟨ret_v (by rw [HRe.out]; rfl), by rw [HRe.out]; exact HRd.out⟩
    · have g1' : (cd == 1) = false := by simpa using h1
      have hR := HEl.out h0 h1
      have HRe := Lib.hid hR
      have hRs := HR2.out
      have HF := Lib.hid (bxO_put HR2.out ⟨cd, 0, v0⟩)
      have HRd := Lib.hid (show Rdd b A c xs w (ys, s1) (put5 w2 w.heap.size ⟨cd, 0, v0⟩) from ⟨put5_grown HG2.out (Nat.le_refl _) _, A1, c1, put5_off HB2.out hne2 _, HS1.out⟩)
      rw [HW2.out] at hRs
      obtain ⟨u0, u0'⟩ := hRs 0 _ rfl
      obtain ⟨u1, u1'⟩ := hRs 1 _ rfl
      obtain ⟨u2, u2'⟩ := hRs 2 _ rfl
      obtain ⟨u3, u3'⟩ := hRs 3 _ rfl
      obtain ⟨u4, u4'⟩ := hRs 4 _ rfl
      simp only [v0] at u0 u1 u2 u3 u4
      clear hR hRs HPu HLo HEl h0 h1 HX HG2 HR2 HB2 HS1 HO2'
      go_wp2_with fail
      change bodyPost _ _ _ _ _ (put5 (w1.alloc (.cells #[.int .i64 cd, .int .i64 0, .int .i64 0, .int .i64 0, .string ⟨#[]⟩] 80)) w.heap.size ⟨cd, 0, v0⟩)
      rw [← HW2.out]
      obtain ⟨W2, hW2⟩ : ∃ W2, W2 = put5 w2 w.heap.size ⟨cd, 0, v0⟩ := ⟨_, rfl⟩
      rw [← hW2] at HF HRd ⊢
      obtain ⟨g0, g1, g2, g3, g4⟩ := HF.out.cells
      simp only [v0] at g0 g1 g2 g3 g4
      clear hW2 x0 x1 x2 x3 x4 u0 u1 u2 u3 u4 u0' u1' u2' u3' u4'
      exact bodyPost_ret (v := .agg #[.int .i64 cd, .int .i64 0, .int .i64 0, .int .i64 0, .string e0]) (by simp [results, Tryz.results114, go_sem, g0, g1, g2, g3, g4]) rfl ⟨ret_v (by rw [HRe.out]; rfl), by rw [HRe.out]; exact HRd.out⟩
end Go.Proofs.YtbmdkibmfkmjoaaGreat.Ex

namespace Go.Proofs.YtbmdkibmfkmjoaaGreat.Ex
open Go.RowKit Go.Proofs.YtbmdkibmfkmjoaaGreat.BM Go.Proofs.YtbmdkibmfkmjoaaGreat.VaM Go.Proofs.YtbmdkibmfkmjoaaGreat.Va Go.Proofs.YtbmdkibmfkmjoaaGreat.ExM Go.Proofs.YtbmdkibmfkmjoaaGreat.EvM

set_option maxRecDepth 100000 in
set_option maxHeartbeats 4000000 in
theorem mayPart_any (x : O) (w : World) : Calls Tryz.prog 109 #[agO x] w fun e w' => e = .returned (.bool (decide (Ok x))) ∧ Below w.heap.size w w' := by
  obtain ⟨c, a, ⟨k, n, s⟩⟩ := x
  have hq := neq_v k n 0 0 s ⟨#[]⟩
  have hs : same ⟨k, n, s⟩ v0 = true ↔ (⟨k, n, s⟩ : V) = v0 := same_iff
  rw [show same ⟨k, n, s⟩ ⟨0, 0, ⟨#[]⟩⟩ = same ⟨k, n, s⟩ v0 from rfl] at hq
  obtain ⟨z, hz⟩ : ∃ z, z = same ⟨k, n, s⟩ v0 := ⟨_, rfl⟩
  rw [← hz] at hs
  simp only [← hz] at hq
  have HM := Lib.hid (May_any k n s)
  obtain ⟨m, hm⟩ : ∃ m, m = decide (VaM.May ⟨k, n, s⟩) := ⟨_, rfl⟩
  rw [← hm] at HM
  have hm' : m = true ↔ VaM.May ⟨k, n, s⟩ := by rw [hm, decide_eq_true_iff]
  have hok : Ok ⟨c, a, ⟨k, n, s⟩⟩ ↔ 0 ≤ c ∧ c < 10 ∧ 0 ≤ a ∧ a < 6 ∧ (c = 1 ∨ a = 0) ∧ m = true ∧ (c = 0 ∨ z = true) := by
    unfold Ok
    rw [hm', hs]
  obtain ⟨R, hR⟩ : ∃ R, R = decide (Ok ⟨c, a, ⟨k, n, s⟩⟩) := ⟨_, rfl⟩
  rw [← hR]
  have hr : R = true ↔ 0 ≤ c ∧ c < 10 ∧ 0 ≤ a ∧ a < 6 ∧ (c = 1 ∨ a = 0) ∧ m = true ∧ (c = 0 ∨ z = true) := by rw [hR, decide_eq_true_iff, hok]
  have hzm : z = true → m = true := fun h => by rw [hm']; rw [hs.1 h]; decide
  obtain ⟨o0', o1, o2, o3, o4⟩ := (bxO_new w ⟨c, a, ⟨k, n, s⟩⟩).cells
  simp only at o0' o1 o2 o3 o4
  have HB := Lib.hid ((Below.refl w.heap.size w).alloc (Nat.le_refl _) (.cells #[.int .i64 c, .int .i64 a, .int .i64 k, .int .i64 n, .string s] 80))
  unfold agO
  simp only
  clear hs hz hm hm' hok hR
  have hfalse : ¬ (0 ≤ c ∧ c < 10 ∧ 0 ≤ a ∧ a < 6 ∧ (c = 1 ∨ a = 0) ∧ m = true ∧ (c = 0 ∨ z = true)) → R = false := fun h => by
    cases R
    · rfl
    · exact absurd (hr.1 rfl) h
  have htrue := hr.2
  clear hr
  by_cases h1 : c < 0
  · have HR := Lib.hid (hfalse (by omega))
    have g1 : decide (c < 0) = true := decide_eq_true h1
    clear hfalse htrue h1 hzm hq
    go_enter Tryz.func109, Tryz.ntmps109
    go_wp2_with fail
    go_ret
    exact ⟨ret_v (x := .bool false) (by rw [HR.out]), HB.out⟩
  · have g1 : decide (c < 0) = false := decide_eq_false h1
    by_cases h2 : 10 ≤ c
    · have HR := Lib.hid (hfalse (by omega))
      have g2 : decide (10 ≤ c) = true := decide_eq_true h2
      clear hfalse htrue h1 h2 hzm hq
      go_enter Tryz.func109, Tryz.ntmps109
      go_wp2_with fail
      go_ret
      exact ⟨ret_v (x := .bool false) (by rw [HR.out]), HB.out⟩
    · have g2 : decide (10 ≤ c) = false := decide_eq_false h2
      by_cases h0 : c = 0
      · subst h0
        by_cases ha : a = 0
        · subst ha
          have HR := Lib.hid (show R = m from by
            cases m
            · exact hfalse (by simp)
            · exact htrue (by simp))
          clear hfalse htrue h1 h2 hzm hq g1 g2
          go_enter Tryz.func109, Tryz.ntmps109
          go_wp2_with fail
          refine (HM.out _).mono ?_
          rintro e w1 ⟨rfl, hb1⟩
          go_wp2_with fail
          go_ret
          exact ⟨ret_v (x := .bool m) (by rw [HR.out]), bt HB.out hb1⟩
        · have HR := Lib.hid (hfalse (by omega))
          have g3 : (a == 0) = false := by simpa using ha
          clear hfalse htrue h1 h2 hzm hq g1 g2 ha
          go_enter Tryz.func109, Tryz.ntmps109
          go_wp2_with fail
          go_ret
          exact ⟨ret_v (x := .bool false) (by rw [HR.out]), HB.out⟩
      · have g0 : (c == 0) = false := by simpa using h0
        cases z
        · have HR := Lib.hid (hfalse (by simp [h0]))
          clear hfalse htrue h1 h2 hzm h0
          go_enter Tryz.func109, Tryz.ntmps109
          go_wp2_with fail
          go_ret
          exact ⟨ret_v (x := .bool false) (by rw [HR.out]), HB.out⟩
        · have hm := hzm rfl
          by_cases hc1 : c = 1
          · subst hc1
            by_cases ha0 : 0 ≤ a
            · have g3 : decide (0 ≤ a) = true := decide_eq_true ha0
              have HR := Lib.hid (show R = decide (a < 6) from by
                by_cases h6 : a < 6
                · rw [decide_eq_true h6]
                  exact htrue ⟨by omega, by omega, ha0, h6, Or.inl rfl, hm, Or.inr rfl⟩
                · rw [decide_eq_false h6]
                  exact hfalse (by omega))
              clear hfalse htrue h1 h2 hzm h0 ha0 g0 g1 g2
              go_enter Tryz.func109, Tryz.ntmps109
              go_wp2_with fail
              go_ret
              exact ⟨ret_v (x := .bool (decide (a < 6))) (by rw [HR.out]), HB.out⟩
            · have g3 : decide (0 ≤ a) = false := decide_eq_false ha0
              have HR := Lib.hid (hfalse (by omega))
              clear hfalse htrue h1 h2 hzm h0 ha0 g0 g1 g2
              go_enter Tryz.func109, Tryz.ntmps109
              go_wp2_with fail
              go_ret
              exact ⟨ret_v (x := .bool false) (by rw [HR.out]), HB.out⟩
          · have g4 : (c == 1) = false := by simpa using hc1
            have HR := Lib.hid (show R = (a == 0) from by
              by_cases ha : a = 0
              · rw [beq_iff_eq.2 ha]
                exact htrue ⟨by omega, by omega, by omega, by omega, Or.inr ha, hm, Or.inr rfl⟩
              · rw [show (a == 0) = false from by simpa using ha]
                exact hfalse (by omega))
            clear hfalse htrue h1 h2 hzm h0 hc1
            go_enter Tryz.func109, Tryz.ntmps109
            go_wp2_with fail
            go_ret
            exact ⟨ret_v (x := .bool (a == 0)) (by rw [HR.out]), HB.out⟩

set_option maxRecDepth 100000 in
set_option maxHeartbeats 4000000 in
theorem may_own (l : List O) (A : Option Addr) (c : Nat) (w : World) (hS : SlO w A l c) :
    Calls Tryz.prog 98 #[.slice A l.length c] w fun e w' => e = .returned (.bool (decide (May l))) ∧ Below w.heap.size w w' := by
  have hl := slO_len hS
  have hno : 12 < l.length → ¬ May l := fun h k => by have := k.2; omega
  have hno1 : ∀ j, j < l.length → ¬ Ok (l.getD j o0) → ¬ May l := fun j hj h k => h (k.1 j hj)
  have hyes : l.length ≤ 12 → (∀ i, i < l.length → Ok (l.getD i o0)) → May l := fun h k => ⟨k, h⟩
  obtain ⟨n, hn⟩ : ∃ n, n = l.length := ⟨_, rfl⟩
  rw [← hn] at hl hno hno1 hyes ⊢
  have HS := Lib.hid hS
  have HN := Lib.hid hn
  have HNo := Lib.hid hno
  have HNo1 := Lib.hid hno1
  have HYes := Lib.hid hyes
  clear hS hn hno hno1 hyes
  by_cases h12 : n ≤ 12
  · have g1 : decide ((12 : Int) < (n : Int)) = false := by rw [decide_eq_false_iff_not]; omega
    have g2 : decide (12 < n) = false := by rw [decide_eq_false_iff_not]; omega
    go_enter Tryz.func98, Tryz.ntmps98
    go_wp2_with fail
    go_loopw [10] (fun i wr => ∃ j : Nat, i = .int .i64 j ∧ j ≤ n ∧ (∀ x, x < j → Ok (l.getD x o0)) ∧ Below w.heap.size w wr) (fun i _ => n - (intOf i).toNat)
    case atStart => exact ⟨0, rfl, Nat.zero_le _, fun x hx => absurd hx (Nat.not_lt_zero x), Below.refl _ _⟩
    case round =>
      obtain ⟨j, rfl, hj, hall, hbel⟩ := hrel
      have HAl := Lib.hid hall
      have HBl := Lib.hid hbel
      clear hall hbel
      by_cases hjn : j < n
      · obtain ⟨b1, q1, hix, hc, _⟩ := HS.out.at j (by rw [← HN.out]; exact hjn)
        have hi := fun W => hix W n c hjn
        obtain ⟨⟨oc, oa, ⟨k, m, s⟩⟩, hf⟩ : ∃ f, f = l.getD j o0 := ⟨_, rfl⟩
        rw [← hf] at hc
        obtain ⟨c0, c1, c2, c3, c4⟩ := hc wr HBl.out
        simp only at c0 c1 c2 c3 c4
        have HMp := Lib.hid (fun W => mayPart_any ⟨oc, oa, ⟨k, m, s⟩⟩ W)
        unfold agO at HMp
        simp only at HMp
        obtain ⟨o0', o1, o2, o3, o4⟩ := (bxO_new wr ⟨oc, oa, ⟨k, m, s⟩⟩).cells
        simp only at o0' o1 o2 o3 o4
        have HBa := Lib.hid (bt HBl.out ((Below.refl wr.heap.size wr).alloc (Nat.le_refl _) (.cells #[.int .i64 oc, .int .i64 oa, .int .i64 k, .int .i64 m, .string s] 80)))
        have HF := Lib.hid hf
        clear hix hc hf
        go_wp2_with fail
        refine (HMp.out _).mono ?_
        rintro e w3 ⟨rfl, hb3⟩
        have HB3 := Lib.hid (bt HBa.out hb3)
        clear hb3 c0 c1 c2 c3 c4 o0' o1 o2 o3 o4 hi HMp
        by_cases hok : Ok ⟨oc, oa, ⟨k, m, s⟩⟩
        · rw [decide_eq_true hok]
          have HSu := Lib.hid (show ∀ x, x < j + 1 → Ok (l.getD x o0) from fun x hx => by
            by_cases e : x = j
            · rw [e, ← HF.out]
              exact hok
            · exact HAl.out x (by omega))
          clear hok
          go_wp2_with fail
          go_roundw
          case rel => exact ⟨j + 1, by go_num, by omega, HSu.out, HB3.out⟩
          case measure => simp [intOf]; omega
        · rw [decide_eq_false hok]
          have HNm := Lib.hid (HNo1.out j hjn (by rw [← HF.out]; exact hok))
          clear hok
          go_wp2_with fail
          go_ret
          exact ⟨ret_v (x := .bool false) (by rw [decide_eq_false HNm.out]), HB3.out⟩
      · obtain rfl : j = n := by omega
        have HY := Lib.hid (HYes.out h12 HAl.out)
        go_wp2_with fail
        go_ret
        exact ⟨ret_v (x := .bool true) (by rw [decide_eq_true HY.out]), HBl.out⟩
  · have g1 : decide ((12 : Int) < (n : Int)) = true := by rw [decide_eq_true_iff]; omega
    have g2 : decide (12 < n) = true := by rw [decide_eq_true_iff]; omega
    have HN := Lib.hid (HNo.out (by omega))
    go_enter Tryz.func98, Tryz.ntmps98
    go_wp2_with fail
    go_ret
    exact ⟨ret_v (x := .bool false) (by rw [decide_eq_false HN.out]), Below.refl _ _⟩
end Go.Proofs.YtbmdkibmfkmjoaaGreat.Ex

namespace Go.Proofs.YtbmdkibmfkmjoaaGreat.Ex
open Go.RowKit Go.Proofs.YtbmdkibmfkmjoaaGreat.BM Go.Proofs.YtbmdkibmfkmjoaaGreat.LM Go.Proofs.YtbmdkibmfkmjoaaGreat.VaM Go.Proofs.YtbmdkibmfkmjoaaGreat.Va Go.Proofs.YtbmdkibmfkmjoaaGreat.ExM

theorem op_append_o {w : World} {o : Oper} {a : Act} {K' : Act → World → Prop} {Q : Exit → Act → World → Prop} (s x : Operand)
    (ho : o.op = .call { callee := .builtin .append, args := #[s, x], argTypes := #[45, 45] })
    (base : Nat) (v : Value) (n : Nat) (l : List O) (hs : a.eval s = v) (hown : w.ownsRow base 80 5 v n (l.flatMap encO))
    (A : Option Addr) (m c : Nat) (r : List O) (hx : a.eval x = .slice A m c) (hm : r.length = m) (hB : SlO w A r c)
    (hsz : n + m ≤ 1000000000) (hbase : base ≤ w.heap.size)
    (hk : ∀ v' w', w'.ownsRow base 80 5 v' (n + m) ((l ++ r).flatMap encO) → w.grownBy w' v.ownBlock → K' (a.put o.dst v') w') : o.wp Tryz.prog a w K' Q := by
  obtain ⟨⟨⟨us, h1, h2⟩, _, h3, _⟩, _⟩ := hB
  obtain rfl := elems_is h2
  exact tyO.op_append (K := KO) (fun _ => True) s x ho base v n (l.flatMap encO) l hs hown (elems_o _ _ _) A m c (r.flatMap encO) r hx hm h1 (elems_o _ _ _) h3 hsz hbase fun v' w' g1 _ g3 => hk v' w' (by rw [List.flatMap_append]; exact g1) g3

theorem wp_append_o {w : World} {ops : Array Oper} {rest : List Oper} {o : Oper} {a : Act} {Q : Exit → Act → World → Prop} (hgd : o.guard = none) (s x : Operand)
    (ho : o.op = .call { callee := .builtin .append, args := #[s, x], argTypes := #[45, 45] })
    (base : Nat) (v : Value) (n : Nat) (l : List O) (hs : a.eval s = v) (hown : w.ownsRow base 80 5 v n (l.flatMap encO))
    (A : Option Addr) (m c : Nat) (r : List O) (hx : a.eval x = .slice A m c) (hm : r.length = m) (hB : SlO w A r c)
    (hsz : n + m ≤ 1000000000) (hbase : base ≤ w.heap.size)
    (hk : ∀ v' w', w'.ownsRow base 80 5 v' (n + m) ((l ++ r).flatMap encO) → w.grownBy w' v.ownBlock → wpList Tryz.prog ops Q rest (a.put o.dst v') w') : wpList Tryz.prog ops Q (o :: rest) a w :=
  wpList_plain hgd fun _ hK2 => op_append_o s x ho base v n l hs hown A m c r hx hm hB hsz hbase fun v' w' g1 g2 => hK2 _ _ (hk v' w' g1 g2)
end Go.Proofs.YtbmdkibmfkmjoaaGreat.Ex

namespace Go.Proofs.YtbmdkibmfkmjoaaGreat.Ex
open Go.RowKit Go.Proofs.YtbmdkibmfkmjoaaGreat.BM Go.Proofs.YtbmdkibmfkmjoaaGreat.LM Go.Proofs.YtbmdkibmfkmjoaaGreat.LeM Go.Proofs.YtbmdkibmfkmjoaaGreat.EvM Go.Proofs.YtbmdkibmfkmjoaaGreat.ExM
open Go.Proofs.YtbmdkibmfkmjoaaGreat.VaM (V Rng e0)
open Go.Proofs.YtbmdkibmfkmjoaaGreat.Va (Bx Bx2 bx2_new ret_v)
open Go.Proofs.YtbmdkibmfkmjoaaGreat.Sc (Rdd grown_set grown_trans)
open Go.Proofs.YtbmdkibmfkmjoaaGreat.ScM (Rs rNum rNum_le rNum_left)

set_option maxRecDepth 100000 in
set_option maxHeartbeats 8000000 in
theorem GetF_any (A : Option Addr) (xs : List Int) (c : Nat) (w : World) (h : SlB w A xs c) :
    Calls Tryz.prog 103 #[.slice A xs.length c] w (GotsF xs w) := by
  have hrd := gL_read h.1.1
  have hsm := h.2.1
  have hmx := h.2.2.2
  unfold maxLen at hmx
  have HX := Lib.hid (fun W (g : Below w.heap.size w W) => h.kept g)
  have ha0 := (Below.refl w.heap.size w).alloc (Nat.le_refl _) (.cells #[.slice A xs.length c, .bool false] 142)
  have HB1 := Lib.hid ha0
  have hr1 := bx2_new w 142 (.slice A xs.length c) (.bool false)
  obtain ⟨w1, hw1⟩ : ∃ w1, w1 = w.alloc (.cells #[.slice A xs.length c, .bool false] 142) := ⟨_, rfl⟩
  have hs1 : w1.heap.size = w.heap.size + 1 := by rw [hw1]; simp
  rw [← hw1] at HB1 hr1
  have hnum := number_own w.heap.size A xs c false 12 w1 hr1 (HX.out w1 HB1.out) (by omega)
  have hxe : rExpr xs = rParts (rNum 12 (xs, false)).1 (rNum 12 (xs, false)).2 := rfl
  have hnle := rNum_le 12 (xs, false)
  have hyx := rNum_left 12 (xs, false)
  have hyb : ∀ x ∈ (rNum 12 (xs, false)).2.1, (0 : Int) ≤ x ∧ x < 256 := rNum_bytes h.1.1
  obtain ⟨⟨n, ys, s1⟩, hr⟩ : ∃ r, r = rNum 12 (xs, false) := ⟨_, rfl⟩
  rw [← hr] at hnum hxe hnle hyb hyx
  simp only at hnum hxe hnle hyb hyx
  obtain ⟨R, hR⟩ : ∃ R : Nat → List O × Rs, R = fun j => rParts j (ys, s1) := ⟨_, rfl⟩
  have hR0 : R 0 = ([], (ys, s1)) := by rw [hR]; rfl
  have hRs : ∀ j, R (j + 1) = ((R j).1 ++ [(rPart (R j).2).1], (rPart (R j).2).2) := fun j => by rw [hR]; rfl
  have hRg : ∀ j, (R j).1.length = j ∧ (∀ x ∈ (R j).1, Fin x) ∧ (∀ x ∈ (R j).2.1, (0 : Int) ≤ x ∧ x < 256) ∧ (R j).2.1.length ≤ ys.length := fun j => by rw [hR]; exact rParts_good j hyb
  have hRe : rExpr xs = R n := by rw [hxe, hR]
  rw [hRe] at hrd
  have HNum := Lib.hid hnum
  have HRd := Lib.hid hrd
  have HR0 := Lib.hid hR0
  have HRs := Lib.hid hRs
  have HRg := Lib.hid hRg
  have HW1 := Lib.hid hw1
  have HS1 := Lib.hid hs1
  obtain ⟨xn, hxn⟩ : ∃ n, n = xs.length := ⟨_, rfl⟩
  unfold GotsF
  obtain ⟨G, hG⟩ : ∃ G, G = gotL (gL xs) := ⟨_, rfl⟩
  rw [← hG] at HRd ⊢
  rw [← hxn] at HRd HW1 hsm hyx ⊢
  have HXn := Lib.hid hxn
  clear h hrd ha0 hr1 hw1 hs1 hnum hxe hr hR hR0 hRs hRg hRe hyb hG hxn
  go_enter Tryz.func103, Tryz.ntmps103
  go_wp2_with fail
  rw [← HW1.out]
  refine HNum.out.mono ?_
  rintro e w2 ⟨rfl, hg2, A2, c2, hb2, hs2⟩
  have HB2 := Lib.hid (HB1.out.grown hg2 HB1.out.size (fun k e => by injection e with e; omega))
  have HSl2 := Lib.hid hs2
  have HBx2 := Lib.hid hb2
  have HZ2 := Lib.hid (show w.heap.size + 1 ≤ w2.heap.size from by have := hg2.size; have := HS1.out; omega)
  clear hg2 hb2 hs2 HNum HW1
  go_wp2_with fail
  go_loopw [6, 10] (fun u i wr => ∃ (j : Nat) (A' : Option Addr) (c' : Nat), i = .int .i64 j ∧ j ≤ n ∧ Bx2 wr w.heap.size (.slice A' (R j).2.1.length c') (.bool (R j).2.2) ∧ (∀ W, SlB W A xs c → SlB W A' (R j).2.1 c') ∧ wr.ownsRow (w.heap.size + 1) 80 5 u j ((R j).1.flatMap encO) ∧ Below w.heap.size w wr ∧ w.heap.size + 1 ≤ wr.heap.size) (fun _ i _ => n - (intOf i).toNat)
  case atStart =>
    refine ⟨0, A2, c2, rfl, Nat.zero_le _, ?_, ?_, ?_, HB2.out, HZ2.out⟩
    · rw [HR0.out]
      exact HBx2.out
    · rw [HR0.out]
      exact HSl2.out
    · rw [HR0.out]
      exact World.ownsRow_nil _ _ _ _
  case round =>
    obtain ⟨j, A', c', rfl, hj, hbx, hsl, hown, hbel, hsz⟩ := hrel
    have HSl := Lib.hid hsl
    have HBl := Lib.hid hbel
    have HO := Lib.hid hown
    have HBx := Lib.hid hbx
    have hfn := (HRg.out j).2.2.1
    have hln := (HRg.out j).2.2.2
    clear hsl hbel hown hbx HBx2 HSl2 HB2 HZ2
    by_cases hjn : j < n
    · have hRj := HRs.out j
      have hgd := rPart_good (r := (R j).2) hfn
      have hpart := part_own w.heap.size A' (R j).2.1 c' (R j).2.2 wr HBx.out (fun W hg => HSl.out W (HX.out W (HBl.out.grown hg HBl.out.size (fun k e => by injection e with e; omega))))
      obtain ⟨⟨l, qs, sq⟩, hRd⟩ : ∃ r, r = R j := ⟨_, rfl⟩
      rw [← hRd] at hRj hpart HO hgd HSl
      simp only at hRj hpart HO hgd HSl
      obtain ⟨⟨o, q2, t2⟩, hr1⟩ : ∃ r, r = rPart (qs, sq) := ⟨_, rfl⟩
      rw [← hr1] at hpart hRj hgd
      simp only at hpart hRj hgd
      have hfo := hgd.1
      have HRj := Lib.hid hRj
      have HPt := Lib.hid hpart
      unfold agO at HPt
      clear hRj hpart hRd hr1 HBx hfn hgd hln
      go_wp2_with fail
      refine HPt.out.mono ?_
      rintro e w3 ⟨rfl, hg3, A3, c3, hb3, hs3⟩
      have hb3' : Below w.heap.size w w3 := HBl.out.grown hg3 HBl.out.size (fun k e => by injection e with e; omega)
      have ha4 := (Below.refl w3.heap.size w3).alloc (Nat.le_refl _) (.cells #[.int .i64 o.c, .int .i64 o.a, .int .i64 o.v.k, .int .i64 o.v.n, .string o.v.s] 80)
      have HN4 := Lib.hid (slO_1 w3 o hfo)
      have HO4 := Lib.hid (RegA.own_below (HO.out.kept hg3 (Or.inr (fun e => by have := (HO.out.lt _ e).1; omega))) ha4)
      have HB4 := Lib.hid (bt hb3' ha4)
      have HBx4 := Lib.hid (hb3.kept ha4)
      have HS4 := Lib.hid (fun W (h : SlB W A xs c) => hs3 W (HSl.out W h))
      have hsz4 : w.heap.size + 1 ≤ (w3.alloc (.cells #[.int .i64 o.c, .int .i64 o.a, .int .i64 o.v.k, .int .i64 o.v.n, .string o.v.s] 80)).heap.size := Nat.le_trans hsz (Nat.le_trans hg3.size ha4.size)
      have HSz := Lib.hid hsz4
      obtain ⟨oc, oa, ⟨ok, on, os⟩⟩ := o
      simp only at HN4 HO4 HB4 HBx4 HSz
      clear hg3 hb3 hs3 hb3' ha4 hfo HPt HO HSl hsz4
      go_wp2_with (at_builtin; refine wp_append_o rfl (.tmp 12) (.tmp 14) rfl (w.heap.size + 1) _ j l rfl HO4.out (some ⟨w3.heap.size, 0, none⟩) 1 1 [⟨oc, oa, ⟨ok, on, os⟩⟩] rfl rfl HN4.out (by omega) HSz.out ?_; intro u5 w5 hown5 hgrow5; refine pause ?_)
      have HBx5 := Lib.hid (HBx4.out.grown hgrow5 (fun e => by have := (HO4.out.lt _ e.symm).1; omega))
      have HB5 := Lib.hid (HB4.out.grown hgrow5 HB4.out.size (fun k hk => by have := (HO4.out.lt k hk).1; omega))
      have HO5 := Lib.hid hown5
      have HSz5 := Lib.hid (Nat.le_trans HSz.out hgrow5.size)
      clear hown5 hgrow5
      unfold Pause
      go_wp2_with fail
      go_roundw
      case rel =>
        refine ⟨j + 1, A3, c3, by go_num, by omega, ?_, ?_, ?_, HB5.out, HSz5.out⟩
        · rw [HRj.out]
          exact HBx5.out
        · rw [HRj.out]
          exact HS4.out
        · rw [HRj.out]
          exact HO5.out
      case measure => simp [intOf]; omega
    · obtain rfl : j = n := by omega
      obtain ⟨hl1, hl2, _, _⟩ := HRg.out j
      obtain ⟨⟨l, qs, sq⟩, hRd⟩ : ∃ r, r = R j := ⟨_, rfl⟩
      rw [← hRd] at HBx HO hl1 hl2 HRd hln
      simp only at HBx HO hl1 hl2 HRd hln
      obtain ⟨Al, cl, rfl, hjl, hsl, hfar⟩ := own_slO HO.out hl2
      have HFar := Lib.hid (fun a ha => Nat.le_of_succ_le (hfar a ha).1 : ∀ a, Al = some a → w.heap.size ≤ a.block)
      clear hjl hfar
      have HSo := Lib.hid hsl
      have HMy := Lib.hid (may_own l Al cl wr hsl)
      rw [hl1] at HMy
      obtain ⟨m, hm⟩ : ∃ m, m = qs.length := ⟨_, rfl⟩
      rw [← hm] at HBx HRd hln
      have HL1 := Lib.hid hl1
      obtain ⟨⟨p0, p1⟩, _⟩ := HBx.out
      rw [hl1]
      clear hRd hsl hl1 hl2 hm HO HSl hfn
      cases sq
      · go_wp2_with fail
        refine HMy.out.mono ?_
        rintro e w3 ⟨rfl, hb3⟩
        have HB3 := Lib.hid (bt HBl.out hb3)
        have HBx3 := Lib.hid (HBx.out.kept hb3)
        have HSo3 := Lib.hid (HSo.out.kept hb3)
        obtain ⟨⟨p0', p1'⟩, _⟩ := HBx3.out
        clear hb3 p0 p1 HMy
        by_cases hmy : May l
        · rw [decide_eq_true hmy]
          have HGe := Lib.hid (show G = (l, xn - m, true) from by rw [HRd.out, if_pos ⟨trivial, hmy⟩])
          clear hmy HRd
          go_wp2_with fail
          go_quiet (fail)
          go_wp2_with fail
          go_ret3
          have hd := below_drewN (Below.refl w3.heap.size w3) nq
          exact ⟨Al, cl, ret_v (x := .tuple #[.slice Al j cl, .int .i64 ((xn : Int) - m), .bool true]) (by rw [HGe.out]; simp only [HL1.out]; rw [show ((xn - m : Nat) : Int) = (xn : Int) - m from by omega]), by rw [HGe.out]; exact HSo3.out.kept hd, bt HB3.out hd, HFar.out⟩
        · rw [decide_eq_false hmy]
          have HGe := Lib.hid (show G = ([], 0, false) from by rw [HRd.out, if_neg (fun h => hmy h.2)])
          clear hmy HRd
          go_wp2_with fail
          go_ret3
          exact ⟨none, 0, ret_v (x := .tuple #[.slice none 0 0, .int .i64 0, .bool false]) (by rw [HGe.out]; rfl), by rw [HGe.out]; exact slO_none _, HB3.out, fun a ha => by cases ha⟩
      · have HGe := Lib.hid (show G = ([], 0, false) from by rw [HRd.out, if_neg (fun h => by cases h.1)])
        go_wp2_with fail
        go_ret3
        exact ⟨none, 0, ret_v (x := .tuple #[.slice none 0 0, .int .i64 0, .bool false]) (by rw [HGe.out]; rfl), by rw [HGe.out]; exact slO_none _, HBl.out, fun a ha => by cases ha⟩
theorem Get_any (A : Option Addr) (xs : List Int) (c : Nat) (w : World) (h : SlB w A xs c) :
    Calls Tryz.prog 103 #[.slice A xs.length c] w (Gots xs w) := (GetF_any A xs c w h).mono fun _ _ g => gots_of g
end Go.Proofs.YtbmdkibmfkmjoaaGreat.Ex

namespace Go.Proofs.YtbmdkibmfkmjoaaGreat.Qy
open Go.RowKit Go.Proofs.YtbmdkibmfkmjoaaGreat.BM Go.Proofs.YtbmdkibmfkmjoaaGreat.LM Go.Proofs.YtbmdkibmfkmjoaaGreat.LeM Go.Proofs.YtbmdkibmfkmjoaaGreat.VaM Go.Proofs.YtbmdkibmfkmjoaaGreat.ExM Go.Proofs.YtbmdkibmfkmjoaaGreat.QyM
open Go.Proofs.YtbmdkibmfkmjoaaGreat.Ex (SlO slO_none)
open Go.Proofs.YtbmdkibmfkmjoaaGreat.Va (Bx2 bx2_new bx2_set0 bx2_set1 ret_v)
open Go.Proofs.YtbmdkibmfkmjoaaGreat.Sc (Rdd grown_set grown_trans)

/-- What is told of a part. -/
def gt {α : Type} (d : α) : Option (α × Nat) → α × Nat × Bool
  | some (a, m) => (a, m, true)
  | none => (d, 0, false)
theorem tk_gt {α : Type} (g : List Int → Option (α × Nat)) (d : α) (xs : List Int) (sh : Bool) : tk g d (xs, sh) = ((gt d (g xs)).1, (xs.drop (gt d (g xs)).2.1, sh || !(gt d (g xs)).2.2)) := by
  cases h : g xs with
  | none => rw [tk_none h]; simp [gt]
  | some y =>
    obtain ⟨a, m⟩ := y
    rw [tk_some h]
    simp [gt]
theorem gotL_gt (o : Option (List O × Nat)) : gotL o = gt [] o := by cases o <;> rfl
theorem gotV_gt (o : Option (Nat × Nat)) : LeG.gotV o = .tuple #[.int .u64 ((gt 0 o).1 : Nat), .int .i64 ((gt 0 o).2.1 : Nat), .bool (gt 0 o).2.2] := by
  cases o with
  | none => rfl
  | some y => rfl
theorem gt_le {α : Type} {d : α} {o : Option (α × Nat)} {n : Nat} (h : ∀ a m, o = some (a, m) → m ≤ n) : (gt d o).2.1 ≤ n := by
  cases o with
  | none => exact Nat.zero_le _
  | some y => exact h _ _ rfl

theorem below_grown {w w' : World} {r : Option Nat} (h : Below w.heap.size w w') : w.grownBy w' r := ⟨h.os, h.tape, h.output, h.size, fun k hk _ => h.block k hk⟩

set_option maxRecDepth 100000 in
theorem getByte_any (A : Option Addr) (xs : List Int) (c : Nat) (w : World) (hx : SlB w A xs c) :
    Calls Tryz.prog 112 #[.slice A xs.length c] w fun e w' => e = .returned (.tuple #[.int .u8 (gt 0 (gB xs)).1, .int .i64 ((gt 0 (gB xs)).2.1 : Nat), .bool (gt 0 (gB xs)).2.2]) ∧ w = w' := by
  cases xs with
  | nil =>
    simp only [gB, gt, List.length_nil]
    clear hx
    go_enter Tryz.func112, Tryz.ntmps112
    go_wp2_with fail
    go_ret3
    exact ⟨rfl, rfl⟩
  | cons x t =>
    simp only [gB, gt]
    have hl : (x :: t).length ≤ 9223372036854775807 := by have h1 := hx.2.1; have h2 := hx.2.2.2; unfold maxLen at h2; omega
    obtain ⟨b1, q1, hix, hc, hx0, hx1⟩ := Ex.byte_at hx 0 (by simp)
    have hc0 := hc w (Below.refl _ _)
    rw [List.getD_cons_zero] at hc0
    rw [List.length_cons] at hl ⊢
    have hi : ∀ W, (Instr.indexAt 26 (.slice A (t.length + 1) c) (.int .i64 0)).run Tryz.prog W = .ok (.pointer (some ⟨b1, q1, none⟩)) W := hix
    obtain ⟨n, hn⟩ : ∃ n, n = t.length + 1 := ⟨_, rfl⟩
    rw [← hn] at hl ⊢
    simp only [← hn] at hi
    have hn0 : n ≠ 0 := by omega
    have g0 : ((n : Int) == 0) = false := by simpa using (show (n : Int) ≠ 0 by omega)
    have g0' : (n == 0) = false := by simpa using hn0
    clear hx hix hc hn hn0 hx0 hx1
    go_enter Tryz.func112, Tryz.ntmps112
    go_wp2_with fail
    go_ret3
    exact ⟨rfl, rfl⟩

/-- What is stored into the reader. -/
theorem rdd_put {b : Nat} {A : Option Addr} {xs : List Int} {c u : Nat} {sh T : Bool} {w w1 : World} {D : Option Addr} {n : Nat} (h : Below w.heap.size w w1) (hB : Bx2 w b (.slice A n c) (.bool sh)) (hn : n - u = (xs.drop u).length)
    (hD : ∀ W, SlB W A xs c → SlB W D (xs.drop u) (c - u)) : Rdd b A c xs w (xs.drop u, T) ((w1.setCell ⟨b, 0, none⟩ (.slice D (n - u) (c - u))).setCell ⟨b, 1, none⟩ (.bool T)) :=
  ⟨grown_trans (grown_trans (below_grown h) (grown_set _ _ _ _)) (grown_set _ _ _ _), D, c - u, by rw [← hn]; exact bx2_set1 (bx2_set0 (hB.kept h) _) _, hD⟩

set_option maxRecDepth 100000 in
set_option maxHeartbeats 2000000 in
theorem takeNum_any (b : Nat) (A : Option Addr) (xs : List Int) (c : Nat) (sh : Bool) (w : World) (hB : Bx2 w b (.slice A xs.length c) (.bool sh)) (hx : SlB w A xs c) :
    Calls Tryz.prog 84 #[.pointer (some ⟨b, 0, none⟩), .func (.func 85) #[] #[]] w fun e w' => e = .returned (.int .u64 ((oNum (xs, sh)).1 : Nat)) ∧ Rdd b A c xs w (oNum (xs, sh)).2 w' := by
  have hxc := hx.2.1
  have hmx := hx.2.2.2
  unfold maxLen at hmx
  have hget := LeG.Get_any A xs c w (by omega) hx.1
  rw [gotV_gt] at hget
  have hle : (gt 0 (getS xs)).2.1 ≤ xs.length := gt_le fun v u h => ((getS_iff xs hx.1.1 v u).1 h).2.1
  have hdl : (xs.drop (gt 0 (getS xs)).2.1).length = xs.length - (gt 0 (getS xs)).2.1 := List.length_drop
  unfold oNum
  rw [tk_gt]
  obtain ⟨⟨v, u, is⟩, hr⟩ : ∃ r, r = gt 0 (getS xs) := ⟨_, rfl⟩
  rw [← hr] at hle hdl ⊢
  simp only [← hr] at hget
  simp only at hle hdl hget ⊢
  have hD := fun W (h : SlB W A xs c) => Cut.slB_drop h u hle
  have hsl := fun W => slice_lo W A xs.length c u hle
  obtain ⟨D, hDe⟩ : ∃ D, D = dropA A u c := ⟨_, rfl⟩
  rw [← hDe] at hsl
  simp only [← hDe] at hD
  obtain ⟨n, hn⟩ : ∃ n, n = xs.length := ⟨_, rfl⟩
  rw [← hn] at hB hle hdl hxc hsl hget
  have HG := Lib.hid hget
  have HD := Lib.hid hD
  have HDl := Lib.hid hdl
  have HX := Lib.hid hB
  clear hr hx hget hD hDe hdl hn hB
  cases sh
  all_goals
    obtain ⟨⟨p0, p1⟩, p2, p3⟩ := HX.out
    go_enter Tryz.func84, Tryz.ntmps84
    go_wp2_with fail
    refine HG.out.mono ?_
    rintro e w1 ⟨rfl, rfl⟩
    skip
    go_wp2_with fail
    go_ret
    exact ⟨rfl, rdd_put (Below.refl _ _) HX.out HDl.out.symm HD.out⟩

set_option maxRecDepth 100000 in
set_option maxHeartbeats 2000000 in
theorem takeByte_any (b : Nat) (A : Option Addr) (xs : List Int) (c : Nat) (sh : Bool) (w : World) (hB : Bx2 w b (.slice A xs.length c) (.bool sh)) (hx : SlB w A xs c) :
    Calls Tryz.prog 111 #[.pointer (some ⟨b, 0, none⟩), .func (.func 112) #[] #[]] w fun e w' => e = .returned (.int .u8 (oByte (xs, sh)).1) ∧ Rdd b A c xs w (oByte (xs, sh)).2 w' := by
  have hxc := hx.2.1
  have hmx := hx.2.2.2
  unfold maxLen at hmx
  have hget := getByte_any A xs c w hx
  have hle : (gt 0 (gB xs)).2.1 ≤ xs.length := gt_le fun v u h => by
    cases xs with
    | nil => cases h
    | cons x t =>
      simp only [gB, Option.some.injEq, Prod.mk.injEq] at h
      rw [List.length_cons]
      omega
  have hdl : (xs.drop (gt 0 (gB xs)).2.1).length = xs.length - (gt 0 (gB xs)).2.1 := List.length_drop
  unfold oByte
  rw [tk_gt]
  obtain ⟨⟨v, u, is⟩, hr⟩ : ∃ r, r = gt 0 (gB xs) := ⟨_, rfl⟩
  rw [← hr] at hle hdl ⊢
  simp only [← hr] at hget
  simp only at hle hdl hget ⊢
  have hD := fun W (h : SlB W A xs c) => Cut.slB_drop h u hle
  have hsl := fun W => slice_lo W A xs.length c u hle
  obtain ⟨D, hDe⟩ : ∃ D, D = dropA A u c := ⟨_, rfl⟩
  rw [← hDe] at hsl
  simp only [← hDe] at hD
  obtain ⟨n, hn⟩ : ∃ n, n = xs.length := ⟨_, rfl⟩
  rw [← hn] at hB hle hdl hxc hsl hget
  have HG := Lib.hid hget
  have HD := Lib.hid hD
  have HDl := Lib.hid hdl
  have HX := Lib.hid hB
  clear hr hx hget hD hDe hdl hn hB
  cases sh
  all_goals
    obtain ⟨⟨p0, p1⟩, p2, p3⟩ := HX.out
    go_enter Tryz.func111, Tryz.ntmps111
    go_wp2_with fail
    refine HG.out.mono ?_
    rintro e w1 ⟨rfl, rfl⟩
    skip
    go_wp2_with fail
    go_ret
    exact ⟨rfl, rdd_put (Below.refl _ _) HX.out HDl.out.symm HD.out⟩

set_option maxRecDepth 100000 in
set_option maxHeartbeats 2000000 in
theorem takeOps_any (b : Nat) (A : Option Addr) (xs : List Int) (c : Nat) (sh : Bool) (w : World) (hB : Bx2 w b (.slice A xs.length c) (.bool sh)) (hx : SlB w A xs c) :
    Calls Tryz.prog 102 #[.pointer (some ⟨b, 0, none⟩), .func (.func 103) #[] #[]] w fun e w' => ∃ A1 c1, e = .returned (.slice A1 (oExpr (xs, sh)).1.length c1) ∧ SlO w' A1 (oExpr (xs, sh)).1 c1 ∧ (∀ a, A1 = some a → w.heap.size ≤ a.block) ∧ Rdd b A c xs w (oExpr (xs, sh)).2 w' := by
  have hxc := hx.2.1
  have hmx := hx.2.2.2
  unfold maxLen at hmx
  have hget := Ex.GetF_any A xs c w hx
  unfold Ex.GotsF at hget
  simp only [gotL_gt] at hget
  have hblt := hB.lt
  have hle : (gt [] (gL xs)).2.1 ≤ xs.length := gt_le fun v u h => (gL_some hx.1.1 h).2.2.1
  have hdl : (xs.drop (gt [] (gL xs)).2.1).length = xs.length - (gt [] (gL xs)).2.1 := List.length_drop
  unfold oExpr
  rw [tk_gt]
  obtain ⟨⟨v, u, is⟩, hr⟩ : ∃ r, r = gt [] (gL xs) := ⟨_, rfl⟩
  rw [← hr] at hle hdl ⊢
  simp only [← hr] at hget
  simp only at hle hdl hget ⊢
  have hD := fun W (h : SlB W A xs c) => Cut.slB_drop h u hle
  have hsl := fun W => slice_lo W A xs.length c u hle
  obtain ⟨D, hDe⟩ : ∃ D, D = dropA A u c := ⟨_, rfl⟩
  rw [← hDe] at hsl
  simp only [← hDe] at hD
  obtain ⟨n, hn⟩ : ∃ n, n = xs.length := ⟨_, rfl⟩
  rw [← hn] at hB hle hdl hxc hsl hget
  obtain ⟨m, hm⟩ : ∃ m, m = v.length := ⟨_, rfl⟩
  rw [← hm] at hget ⊢
  clear hm
  have HG := Lib.hid hget
  have HD := Lib.hid hD
  have HDl := Lib.hid hdl
  have HX := Lib.hid hB
  clear hr hx hget hD hDe hdl hn hB
  cases sh
  all_goals
    obtain ⟨⟨p0, p1⟩, p2, p3⟩ := HX.out
    go_enter Tryz.func102, Tryz.ntmps102
    go_wp2_with fail
    refine HG.out.mono ?_
    rintro e w1 ⟨A1, c1, rfl, hs1, hb1, hf1⟩
    have HB1 := Lib.hid hb1
    have HS1 := Lib.hid hs1
    have HF1 := Lib.hid hf1
    clear p0 p1 p2 p3
    obtain ⟨⟨p0, p1⟩, p2, p3⟩ := HX.out.kept hb1
    clear hb1 hs1 hf1
    go_wp2_with fail
    go_ret
    exact ⟨A1, c1, rfl, slO_grown' HS1.out (grown_trans (grown_set _ b 0 _) (grown_set _ b 1 _)) (fun _ a h e => by injection e with e; exact Nat.ne_of_gt (Nat.lt_of_lt_of_le hblt (HF1.out a h)) e), HF1.out, rdd_put HB1.out HX.out HDl.out.symm HD.out⟩
end Go.Proofs.YtbmdkibmfkmjoaaGreat.Qy

namespace Go.Proofs.YtbmdkibmfkmjoaaGreat.Qy
open Go.RowKit Go.Proofs.YtbmdkibmfkmjoaaGreat.BM Go.Proofs.YtbmdkibmfkmjoaaGreat.LM Go.Proofs.YtbmdkibmfkmjoaaGreat.LeM Go.Proofs.YtbmdkibmfkmjoaaGreat.VaM Go.Proofs.YtbmdkibmfkmjoaaGreat.ExM Go.Proofs.YtbmdkibmfkmjoaaGreat.QyM
open Go.Proofs.YtbmdkibmfkmjoaaGreat.Ex (SlO slO_none)
open Go.Proofs.YtbmdkibmfkmjoaaGreat.Va (Bx2 bx2_new bx2_set0 bx2_set1 ret_v)
open Go.Proofs.YtbmdkibmfkmjoaaGreat.Sc (Rdd grown_set grown_trans)

theorem wrp_64 {v : Nat} (h : v ≤ 18446744073709551615) : wrp v = wrap64 (v : Int) := by
  unfold wrp wrap64
  split <;> omega

set_option maxRecDepth 100000 in
theorem number_any (b : Nat) (A : Option Addr) (xs : List Int) (c : Nat) (sh : Bool) (w : World) (hB : Bx2 w b (.slice A xs.length c) (.bool sh)) (hx : SlB w A xs c) :
    Calls Tryz.prog 56 #[.pointer (some ⟨b, 0, none⟩)] w fun e w' => e = .returned (.int .i64 (wrp (oNum (xs, sh)).1)) ∧ Rdd b A c xs w (oNum (xs, sh)).2 w' := by
  have ht := takeNum_any b A xs c sh w hB hx
  have hle := oNum_le (s := (xs, sh)) hx.1.1
  obtain ⟨⟨v, s⟩, hr⟩ : ∃ r, r = oNum (xs, sh) := ⟨_, rfl⟩
  rw [← hr] at ht hle ⊢
  simp only at ht hle ⊢
  have HT := Lib.hid ht
  clear ht hr hB hx
  go_enter Tryz.func56, Tryz.ntmps56
  go_wp2_with fail
  refine HT.out.mono ?_
  rintro e w1 ⟨rfl, hrd⟩
  have HRd := Lib.hid hrd
  clear hrd
  go_wp2_with fail
  go_ret
  exact ⟨ret_v (x := .int .i64 (wrap64 (v : Int))) (by rw [wrp_64 hle]), HRd.out⟩

set_option maxRecDepth 100000 in
theorem one_any (b : Nat) (A : Option Addr) (xs : List Int) (c : Nat) (sh : Bool) (w : World) (hB : Bx2 w b (.slice A xs.length c) (.bool sh)) (hx : SlB w A xs c) :
    Calls Tryz.prog 101 #[.pointer (some ⟨b, 0, none⟩)] w fun e w' => e = .returned (.int .u8 (oByte (xs, sh)).1) ∧ Rdd b A c xs w (oByte (xs, sh)).2 w' := by
  have HT := Lib.hid (takeByte_any b A xs c sh w hB hx)
  clear hB hx
  go_enter Tryz.func101, Tryz.ntmps101
  go_wp2_with fail
  refine HT.out.mono ?_
  rintro e w1 ⟨rfl, hrd⟩
  have HRd := Lib.hid hrd
  clear hrd
  go_wp2_with fail
  go_ret
  exact ⟨rfl, HRd.out⟩

set_option maxRecDepth 100000 in
theorem expression_any (b : Nat) (A : Option Addr) (xs : List Int) (c : Nat) (sh : Bool) (w : World) (hB : Bx2 w b (.slice A xs.length c) (.bool sh)) (hx : SlB w A xs c) :
    Calls Tryz.prog 87 #[.pointer (some ⟨b, 0, none⟩)] w fun e w' => ∃ A1 c1, e = .returned (.slice A1 (oExpr (xs, sh)).1.length c1) ∧ SlO w' A1 (oExpr (xs, sh)).1 c1 ∧ (∀ a, A1 = some a → w.heap.size ≤ a.block) ∧ Rdd b A c xs w (oExpr (xs, sh)).2 w' := by
  have HT := Lib.hid (takeOps_any b A xs c sh w hB hx)
  clear hB hx
  go_enter Tryz.func87, Tryz.ntmps87
  go_wp2_with fail
  refine HT.out.mono ?_
  rintro e w1 ⟨A1, c1, rfl, hs, hf, hrd⟩
  have HS := Lib.hid hs
  have HF := Lib.hid hf
  have HRd := Lib.hid hrd
  clear hrd hs hf
  go_wp2_with fail
  go_ret
  exact ⟨A1, c1, rfl, HS.out, HF.out, HRd.out⟩

theorem rdd_short {b : Nat} {A : Option Addr} {c : Nat} {xs ys : List Int} {s1 : Bool} {w w1 : World} (h : Rdd b A c xs w (ys, s1) w1) (T : Bool) : Rdd b A c xs w (ys, T) (w1.setCell ⟨b, 1, none⟩ (.bool T)) := by
  obtain ⟨h1, A', c', h2, h3⟩ := h
  exact ⟨grown_trans h1 (grown_set _ _ _ _), A', c', bx2_set1 h2 _, h3⟩

set_option maxRecDepth 100000 in
set_option maxHeartbeats 1000000 in
theorem guarded_any (b : Nat) (A : Option Addr) (xs : List Int) (c : Nat) (sh : Bool) (w : World) (hB : Bx2 w b (.slice A xs.length c) (.bool sh)) (hx : SlB w A xs c) :
    Calls Tryz.prog 88 #[.pointer (some ⟨b, 0, none⟩)] w fun e w' => e = .returned (.bool (decide ((oGuard (xs, sh)).1 = 1))) ∧ Rdd b A c xs w (oGuard (xs, sh)).2 w' := by
  have ht := takeNum_any b A xs c sh w hB hx
  have hle := oNum_le (s := (xs, sh)) hx.1.1
  have hg : oGuard (xs, sh) = if (oNum (xs, sh)).1 ≤ 1 then oNum (xs, sh) else (0, ((oNum (xs, sh)).2.1, true)) := rfl
  rw [hg]
  clear hg
  obtain ⟨⟨v, ys, s1⟩, hr⟩ : ∃ r, r = oNum (xs, sh) := ⟨_, rfl⟩
  rw [← hr] at ht hle ⊢
  simp only at ht hle ⊢
  have HT := Lib.hid ht
  clear ht hr hB hx
  by_cases hv : v ≤ 1
  · rw [if_pos hv]
    have g1 : decide ((1 : Int) < (v : Int)) = false := by rw [decide_eq_false_iff_not]; omega
    have g1' : decide (1 < v) = false := by rw [decide_eq_false_iff_not]; omega
    obtain ⟨z, gz⟩ : ∃ z, ((v : Int) == 1) = z := ⟨_, rfl⟩
    have gz' : (v == 1) = z := by rw [← gz, Bool.eq_iff_iff, beq_iff_eq, beq_iff_eq]; omega
    rw [show decide (v = 1) = z from by rw [← gz']; rfl]
    clear hv
    cases s1
    all_goals
      go_enter Tryz.func88, Tryz.ntmps88
      go_wp2_with fail
      refine HT.out.mono ?_
      rintro e w1 ⟨rfl, hrd⟩
      have HRd := Lib.hid hrd
      obtain ⟨_, A1, c1, ⟨⟨p0, p1⟩, p2, p3⟩, _⟩ := hrd
      go_wp2_with fail
      go_ret
      exact ⟨rfl, rdd_short HRd.out _⟩
  · rw [if_neg hv]
    have g1 : decide ((1 : Int) < (v : Int)) = true := by rw [decide_eq_true_iff]; omega
    have g1' : decide (1 < v) = true := by rw [decide_eq_true_iff]; omega
    have gz : ((v : Int) == 1) = false := by rw [beq_eq_false_iff_ne]; omega
    have gz' : (v == 1) = false := by rw [beq_eq_false_iff_ne]; omega
    clear hv
    cases s1
    all_goals
      go_enter Tryz.func88, Tryz.ntmps88
      go_wp2_with fail
      refine HT.out.mono ?_
      rintro e w1 ⟨rfl, hrd⟩
      have HRd := Lib.hid hrd
      obtain ⟨_, A1, c1, ⟨⟨p0, p1⟩, p2, p3⟩, _⟩ := hrd
      go_wp2_with fail
      go_ret
      exact ⟨rfl, rdd_short HRd.out _⟩
end Go.Proofs.YtbmdkibmfkmjoaaGreat.Qy

namespace Go.Proofs.YtbmdkibmfkmjoaaGreat.Qy
open Go.RowKit Go.Proofs.YtbmdkibmfkmjoaaGreat.BM Go.Proofs.YtbmdkibmfkmjoaaGreat.LM Go.Proofs.YtbmdkibmfkmjoaaGreat.LeM Go.Proofs.YtbmdkibmfkmjoaaGreat.VaM Go.Proofs.YtbmdkibmfkmjoaaGreat.ExM Go.Proofs.YtbmdkibmfkmjoaaGreat.QyM
open Go.Proofs.YtbmdkibmfkmjoaaGreat.Ex (SlO slO_none)
open Go.Proofs.YtbmdkibmfkmjoaaGreat.Va (Bx2 bx2_new bx2_set0 bx2_set1 ret_v)
open Go.Proofs.YtbmdkibmfkmjoaaGreat.Sc (Rdd grown_set grown_trans)

theorem grown_own {w W W' : World} {b : Nat} {r : Option Nat} (h : w.grownBy W (some b)) (k : W.grownBy W' r) (hr : ∀ q, r = some q → w.heap.size ≤ q) : w.grownBy W' (some b) :=
  ⟨k.os.trans h.os, k.tape.trans h.tape, k.output.trans h.output, Nat.le_trans h.size k.size, fun q hq hne => (k.block q (Nat.lt_of_lt_of_le hq h.size) (fun e => by
    have := hr q e.symm
    omega)).trans (h.block q hq hne)⟩
theorem grown_below {w W W' : World} {r : Option Nat} (h : w.grownBy W r) (k : Below W.heap.size W W') : w.grownBy W' r := grown_trans h (below_grown k)

/-- The bytes, in whatever world differs in the reader's block alone. -/
def Bytes (w : World) (b : Nat) (A : Option Addr) (xs : List Int) (c : Nat) : Prop := ∀ W, w.grownBy W (some b) → SlB W A xs c

section
variable {b : Nat} {A : Option Addr} {c : Nat} {xs : List Int} {s : ScM.Rs} {w W W' : World}
theorem rdd_first (hB : Bx2 w b (.slice A xs.length c) (.bool s.2)) (hs : s.1 = xs) : Rdd b A c xs w s w := by
  subst hs
  exact ⟨World.grownBy.refl _ _, A, c, hB, fun _ h => h⟩
theorem rdd_below (h : Rdd b A c xs w s W) (hb : Below W.heap.size W W') : Rdd b A c xs w s W' := by
  obtain ⟨h1, A', c', h2, h3⟩ := h
  exact ⟨grown_below h1 hb, A', c', h2.kept hb, h3⟩
theorem rdd_own {r : Option Nat} (h : Rdd b A c xs w s W) (hg : W.grownBy W' r) (hr : ∀ q, r = some q → w.heap.size ≤ q) (hb : b < w.heap.size) : Rdd b A c xs w s W' := by
  obtain ⟨h1, A', c', h2, h3⟩ := h
  refine ⟨grown_own h1 hg hr, A', c', h2.grown hg (fun e => ?_), h3⟩
  have := hr b e.symm
  omega
theorem rdd_set {k i : Nat} (h : Rdd b A c xs w s W) (hk : w.heap.size ≤ k) (hb : b < w.heap.size) (u : Value) : Rdd b A c xs w s (W.setCell ⟨k, i, none⟩ u) :=
  rdd_own h (grown_set W k i u) (fun q e => by injection e with e; omega) hb
theorem rdd_by (h : Rdd b A c xs w s W) (hx : Bytes w b A xs c) : Gr.By s.1 := by
  obtain ⟨h1, A', c', _, h3⟩ := h
  exact (h3 W (hx W h1)).1.1
end

/-- A method, wherever the reader is. -/
theorem acc {b : Nat} {A : Option Addr} {c : Nat} {xs : List Int} {s s2 : ScM.Rs} {w W : World} {f : FuncId} {args : Array Value} {P : Ending → World → Prop} (h : Rdd b A c xs w s W) (hx : Bytes w b A xs c)
    (hc : ∀ A' c', Bx2 W b (.slice A' s.1.length c') (.bool s.2) → SlB W A' s.1 c' → Calls Tryz.prog f args W fun e w' => P e w' ∧ Rdd b A' c' s.1 W s2 w') :
    Calls Tryz.prog f args W fun e w' => P e w' ∧ Rdd b A c xs w s2 w' ∧ W.grownBy w' (some b) := by
  obtain ⟨h1, A', c', h2, h3⟩ := h
  refine (hc A' c' h2 (h3 W (hx W h1))).mono fun _ _ k => ⟨k.1, Rdd.trans h1 h3 k.2, k.2.1⟩

/-- The same, where the method stores more than once. -/
theorem acc2 {b : Nat} {A : Option Addr} {c : Nat} {xs : List Int} {s s2 : ScM.Rs} {w W : World} {f : FuncId} {args : Array Value} {P : Ending → World → Prop} (h : Rdd b A c xs w s W) (hx : Bytes w b A xs c)
    (hc : ∀ A' c', Rdd b A' c' s.1 W s W → Bytes W b A' s.1 c' → Calls Tryz.prog f args W fun e w' => P e w' ∧ Rdd b A' c' s.1 W s2 w') :
    Calls Tryz.prog f args W fun e w' => P e w' ∧ Rdd b A c xs w s2 w' ∧ W.grownBy w' (some b) := by
  obtain ⟨h1, A', c', h2, h3⟩ := h
  refine (hc A' c' (rdd_first h2 rfl) (fun W2 g => h3 W2 (hx W2 (grown_trans h1 g)))).mono fun _ _ k => ⟨k.1, Rdd.trans h1 h3 k.2, k.2.1⟩

section
variable {b : Nat} {A : Option Addr} {c : Nat} {xs : List Int} {s : ScM.Rs} {w W : World}
theorem number_acc (h : Rdd b A c xs w s W) (hx : Bytes w b A xs c) : Calls Tryz.prog 56 #[.pointer (some ⟨b, 0, none⟩)] W fun e w' => (e = .returned (.int .i64 (wrp (oNum s).1))) ∧ Rdd b A c xs w (oNum s).2 w' ∧ W.grownBy w' (some b) :=
  acc h hx fun A' c' hB hs => number_any b A' s.1 c' s.2 W hB hs
theorem one_acc (h : Rdd b A c xs w s W) (hx : Bytes w b A xs c) : Calls Tryz.prog 101 #[.pointer (some ⟨b, 0, none⟩)] W fun e w' => (e = .returned (.int .u8 (oByte s).1)) ∧ Rdd b A c xs w (oByte s).2 w' ∧ W.grownBy w' (some b) :=
  acc h hx fun A' c' hB hs => one_any b A' s.1 c' s.2 W hB hs
theorem guarded_acc (h : Rdd b A c xs w s W) (hx : Bytes w b A xs c) : Calls Tryz.prog 88 #[.pointer (some ⟨b, 0, none⟩)] W fun e w' => (e = .returned (.bool (decide ((oGuard s).1 = 1)))) ∧ Rdd b A c xs w (oGuard s).2 w' ∧ W.grownBy w' (some b) :=
  acc h hx fun A' c' hB hs => guarded_any b A' s.1 c' s.2 W hB hs
theorem takeNum_acc (h : Rdd b A c xs w s W) (hx : Bytes w b A xs c) : Calls Tryz.prog 84 #[.pointer (some ⟨b, 0, none⟩), .func (.func 85) #[] #[]] W fun e w' => (e = .returned (.int .u64 ((oNum s).1 : Nat))) ∧ Rdd b A c xs w (oNum s).2 w' ∧ W.grownBy w' (some b) :=
  acc h hx fun A' c' hB hs => takeNum_any b A' s.1 c' s.2 W hB hs
theorem expression_acc (h : Rdd b A c xs w s W) (hx : Bytes w b A xs c) : Calls Tryz.prog 87 #[.pointer (some ⟨b, 0, none⟩)] W fun e w' => (∃ A1 c1, e = .returned (.slice A1 (oExpr s).1.length c1) ∧ SlO w' A1 (oExpr s).1 c1 ∧ (∀ a, A1 = some a → W.heap.size ≤ a.block)) ∧ Rdd b A c xs w (oExpr s).2 w' ∧ W.grownBy w' (some b) :=
  acc h hx fun A' c' hB hs => (expression_any b A' s.1 c' s.2 W hB hs).mono fun _ _ ⟨A1, c1, h1, h2, h3, h4⟩ => ⟨⟨A1, c1, h1, h2, h3⟩, h4⟩
end
end Go.Proofs.YtbmdkibmfkmjoaaGreat.Qy

namespace Go.Proofs.YtbmdkibmfkmjoaaGreat.Qy
open Go.RowKit Go.Proofs.YtbmdkibmfkmjoaaGreat.BM Go.Proofs.YtbmdkibmfkmjoaaGreat.LM Go.Proofs.YtbmdkibmfkmjoaaGreat.LeM Go.Proofs.YtbmdkibmfkmjoaaGreat.VaM Go.Proofs.YtbmdkibmfkmjoaaGreat.ExM Go.Proofs.YtbmdkibmfkmjoaaGreat.QyM
open Go.Proofs.YtbmdkibmfkmjoaaGreat.Ex (SlO slO_none)
open Go.Proofs.YtbmdkibmfkmjoaaGreat.Va (Bx2 bx2_new bx2_set0 bx2_set1 ret_v)
open Go.Proofs.YtbmdkibmfkmjoaaGreat.Sc (Rdd grown_set grown_trans)

theorem oByte_by {s : ScM.Rs} (h : Gr.By s.1) : 0 ≤ (oByte s).1 ∧ (oByte s).1 < 256 := by
  obtain ⟨xs, sh⟩ := s
  cases xs with
  | nil => exact ⟨Int.le_refl _, show (0 : Int) < 256 by decide⟩
  | cons x t => exact h x (List.mem_cons_self ..)
theorem reps_bytes {n : Nat} {s : ScM.Rs} (h : Gr.By s.1) : ∀ x ∈ (reps oByte n s).1, (0 : Int) ≤ x ∧ x < 256 := by
  intro x hx
  obtain ⟨j, _, rfl⟩ := reps_mem hx
  exact oByte_by ((rdr_tk gB 0).r_by j h)

set_option maxRecDepth 100000 in
set_option maxHeartbeats 4000000 in
theorem bytes_any (b : Nat) (A : Option Addr) (xs : List Int) (c : Nat) (s : ScM.Rs) (w : World) (R : Rdd b A c xs w s w) (hx : Bytes w b A xs c) (hb : b < w.heap.size) :
    Calls Tryz.prog 100 #[.pointer (some ⟨b, 0, none⟩), .int .u64 12, .func (.func 101) #[.pointer (some ⟨b, 0, none⟩)] #[]] w fun e w' =>
      (∃ v, e = .returned v ∧ w'.ownsRow w.heap.size 5 1 v (several oByte 12 s).1.length (cs (several oByte 12 s).1)) ∧ Rdd b A c xs w (several oByte 12 s).2 w' := by
  have ht := takeNum_acc R hx
  have hby0 := rdr_num.bytes (rdd_by R hx)
  have hsv : several oByte 12 s = if (oNum s).1 ≤ 12 then reps oByte (oNum s).1 (oNum s).2 else ([], ((oNum s).2.1, true)) := rfl
  rw [hsv]
  clear hsv
  obtain ⟨⟨n, ys, s1⟩, hr⟩ : ∃ r, r = oNum s := ⟨_, rfl⟩
  rw [← hr] at ht hby0 ⊢
  simp only at ht hby0 ⊢
  have HT := Lib.hid ht
  clear ht hr
  by_cases hn : n ≤ 12
  rotate_left
  · rw [if_neg hn]
    have g1 : decide ((12 : Int) < (n : Int)) = true := by rw [decide_eq_true_iff]; omega
    have g1' : decide (12 < n) = true := by rw [decide_eq_true_iff]; omega
    clear hn R hx hby0
    go_enter Tryz.func100, Tryz.ntmps100
    go_wp2_with fail
    refine HT.out.mono ?_
    rintro e w1 ⟨rfl, hrd, _⟩
    have HRd := Lib.hid hrd
    obtain ⟨_, A1, c1, ⟨⟨p0, p1⟩, p2, p3⟩, _⟩ := hrd
    go_wp2_with fail
    go_ret
    exact ⟨⟨_, rfl, World.ownsRow_nil _ _ _ _⟩, rdd_short HRd.out true⟩
  rw [if_pos hn]
  have g1 : decide ((12 : Int) < (n : Int)) = false := by rw [decide_eq_false_iff_not]; omega
  have g1' : decide (12 < n) = false := by rw [decide_eq_false_iff_not]; omega
  obtain ⟨Q, hQ⟩ : ∃ Q : Nat → List Int × ScM.Rs, Q = fun j => reps oByte j (ys, s1) := ⟨_, rfl⟩
  have hQ0 : Q 0 = ([], (ys, s1)) := by rw [hQ]; rfl
  have hQs : ∀ j, Q (j + 1) = ((Q j).1 ++ [(oByte (Q j).2).1], (oByte (Q j).2).2) := fun j => by rw [hQ]; rfl
  have hQb : ∀ j, Gr.By (Q j).2.1 := fun j => by rw [hQ]; exact (rdr_tk gB 0).r_by j hby0
  have hQl : ∀ j, (Q j).1.length = j := fun j => by rw [hQ]; exact reps_len _ _
  rw [show reps oByte n (ys, s1) = Q n from by rw [hQ]]
  have HX := Lib.hid hx
  have HQ0 := Lib.hid hQ0
  have HQs := Lib.hid hQs
  have HQb := Lib.hid hQb
  have HQl := Lib.hid hQl
  clear hQ hQ0 hQs hQb hQl hx R hby0
  go_enter Tryz.func100, Tryz.ntmps100
  go_wp2_with fail
  refine HT.out.mono ?_
  rintro e w1 ⟨rfl, hrd, _⟩
  have HRd := Lib.hid hrd
  clear hrd HT
  go_wp2_with fail
  go_loopw [8, 18] (fun u i wr => ∃ j : Nat, i = .int .u64 (j : Int) ∧ j ≤ n ∧ wr.ownsRow w.heap.size 5 1 u j (cs (Q j).1) ∧ Rdd b A c xs w (Q j).2 wr) (fun _ i _ => n - (intOf i).toNat)
  case atStart => exact ⟨0, rfl, Nat.zero_le _, by rw [HQ0.out]; exact World.ownsRow_nil _ _ _ _, by rw [HQ0.out]; exact HRd.out⟩
  case round =>
    obtain ⟨j, rfl, hj, hown, hrd⟩ := hrel
    have HO := Lib.hid hown
    have HR := Lib.hid hrd
    clear hown hrd HRd
    by_cases hjn : j < n
    · have hone := one_acc HR.out HX.out
      have hob := oByte_by (HQb.out j)
      have hs := HQs.out j
      obtain ⟨⟨l, q⟩, hq⟩ : ∃ r, r = Q j := ⟨_, rfl⟩
      rw [← hq] at hone hob hs HO
      simp only at hone hob hs HO
      obtain ⟨⟨x, q2⟩, hq2⟩ : ∃ r, r = oByte q := ⟨_, rfl⟩
      rw [← hq2] at hone hob hs
      simp only at hone hob hs
      have HOne := Lib.hid hone
      have HS := Lib.hid hs
      clear hone hs hq hq2 HR
      go_wp2_with fail
      refine HOne.out.mono ?_
      rintro e w3 ⟨rfl, hr3, hg3⟩
      have ha4 := (Below.refl w3.heap.size w3).alloc (Nat.le_refl _) (.cells #[.int .u8 x] 5)
      have HN4 := Lib.hid (isB_new w3 [x] (by intro y hy; simp only [List.mem_singleton] at hy; omega))
      have HO4 := Lib.hid (RegA.own_below (HO.out.kept hg3 (Or.inr (fun e => by have := (HO.out.lt _ e).1; omega))) ha4)
      have HR4 := Lib.hid (rdd_below hr3 ha4)
      have hz4 : w.heap.size ≤ (w3.alloc (.cells #[.int .u8 x] 5)).heap.size := Nat.le_trans hr3.1.size ha4.size
      clear hr3 hg3 ha4 HOne HO
      go_wp2_with (at_builtin; refine wp_append_b rfl (.tmp 20) (.tmp 23) rfl w.heap.size _ j l rfl HO4.out (some ⟨w3.heap.size, 0, none⟩) 1 1 [x] rfl rfl HN4.out (fun h => by cases h) (by omega) hz4 ?_; intro u5 w5 hown5 hgrow5; refine pause ?_)
      have HR5 := Lib.hid (rdd_own HR4.out hgrow5 (fun q hq => (HO4.out.lt q hq).1) hb)
      have HO5 := Lib.hid hown5
      clear hown5 hgrow5
      unfold Pause
      go_wp2_with fail
      go_roundw
      case rel =>
        refine ⟨j + 1, by go_num, by omega, ?_, ?_⟩
        · rw [HS.out]
          exact HO5.out
        · rw [HS.out]
          exact HR5.out
      case measure => simp [intOf]; omega
    · obtain rfl : j = n := by omega
      go_wp2_with fail
      go_ret
      exact ⟨⟨_, rfl, by rw [HQl.out j]; exact HO.out⟩, HR.out⟩

set_option maxRecDepth 100000 in
set_option maxHeartbeats 2000000 in
theorem name_any (b : Nat) (A : Option Addr) (xs : List Int) (c : Nat) (s : ScM.Rs) (w : World) (R : Rdd b A c xs w s w) (hx : Bytes w b A xs c) (hb : b < w.heap.size) :
    Calls Tryz.prog 86 #[.pointer (some ⟨b, 0, none⟩)] w fun e w' => (e = .returned (.string (oName s).1)) ∧ Rdd b A c xs w (oName s).2 w' := by
  have hmf : ∀ (fn : Fn) (first cap : Array Value) (w : World), (Instr.makeFunc fn first cap).run Tryz.prog w = .ok (.func fn first cap) w := fun _ _ _ _ => rfl
  have hsv := bytes_any b A xs c s w R hx hb
  have hby : ∀ x ∈ (several oByte 12 s).1, (0 : Int) ≤ x ∧ x < 256 := by
    unfold several
    split
    · exact reps_bytes (rdr_num.bytes (rdd_by R hx))
    · intro x hx
      cases hx
  have hnm : oName s = (strOfNums (several oByte 12 s).1, (several oByte 12 s).2) := rfl
  rw [hnm]
  clear hnm
  obtain ⟨⟨l, q⟩, hq⟩ : ∃ r, r = several oByte 12 s := ⟨_, rfl⟩
  rw [← hq] at hsv hby ⊢
  simp only at hsv hby ⊢
  have HS := Lib.hid hsv
  have HBy := Lib.hid hby
  clear hsv hby hq R hx
  go_enter Tryz.func86, Tryz.ntmps86
  go_wp2_with fail
  refine HS.out.mono ?_
  rintro e w1 ⟨⟨v, rfl, ho⟩, hr⟩
  obtain ⟨A1, c1, rfl, _, hs1, _⟩ := own_slB ho HBy.out
  have hcv := fun (dst : TypeId) hd => conv_any (w := w1) hs1.1 c1 dst hd
  have hcv2 := hcv 9 Tryz.underlying9
  have HR := Lib.hid hr
  obtain ⟨m, hm⟩ : ∃ m, m = l.length := ⟨_, rfl⟩
  rw [← hm] at hcv2 ⊢
  clear hr ho hs1 hm hcv HS
  go_wp2_with fail
  go_ret
  exact ⟨rfl, HR.out⟩
end Go.Proofs.YtbmdkibmfkmjoaaGreat.Qy

namespace Go.Proofs.YtbmdkibmfkmjoaaGreat.Qy
open Go.RowKit Go.Proofs.YtbmdkibmfkmjoaaGreat.BM Go.Proofs.YtbmdkibmfkmjoaaGreat.LM Go.Proofs.YtbmdkibmfkmjoaaGreat.LeM Go.Proofs.YtbmdkibmfkmjoaaGreat.VaM Go.Proofs.YtbmdkibmfkmjoaaGreat.ExM Go.Proofs.YtbmdkibmfkmjoaaGreat.QyM
open Go.Proofs.YtbmdkibmfkmjoaaGreat.Ex (SlO slO_none)
open Go.Proofs.YtbmdkibmfkmjoaaGreat.Va (Bx2 bx2_new bx2_set0 bx2_set1 ret_v)
open Go.Proofs.YtbmdkibmfkmjoaaGreat.Sc (Rdd grown_set grown_trans)

theorem name_acc {b : Nat} {A : Option Addr} {c : Nat} {xs : List Int} {s : ScM.Rs} {w W : World} (h : Rdd b A c xs w s W) (hx : Bytes w b A xs c) (hb : b < W.heap.size) : Calls Tryz.prog 86 #[.pointer (some ⟨b, 0, none⟩)] W fun e w' => (e = .returned (.string (oName s).1)) ∧ Rdd b A c xs w (oName s).2 w' ∧ W.grownBy w' (some b) :=
  acc2 h hx fun A' c' R hB => name_any b A' s.1 c' s W R hB hb

/-- Seven cells, stored. -/
def put7 (w : World) (b : Nat) (v0 v1 v2 v3 v4 v5 v6 : Value) : World := ((((((w.setCell ⟨b, 0, none⟩ v0).setCell ⟨b, 1, none⟩ v1).setCell ⟨b, 2, none⟩ v2).setCell ⟨b, 3, none⟩ v3).setCell ⟨b, 4, none⟩ v4).setCell ⟨b, 5, none⟩ v5).setCell ⟨b, 6, none⟩ v6
theorem bx7_put {w : World} {b : Nat} {u0 u1 u2 u3 u4 u5 u6 : Value} (h : RG.BxN w b [u0, u1, u2, u3, u4, u5, u6]) (v0 v1 v2 v3 v4 v5 v6 : Value) : RG.BxN (put7 w b v0 v1 v2 v3 v4 v5 v6) b [v0, v1, v2, v3, v4, v5, v6] :=
  RG.BxN.set (RG.BxN.set (RG.BxN.set (RG.BxN.set (RG.BxN.set (RG.BxN.set (RG.BxN.set h 0 (show 0 < 7 from by decide) v0) 1 (show 1 < 7 from by decide) v1) 2 (show 2 < 7 from by decide) v2) 3 (show 3 < 7 from by decide) v3) 4 (show 4 < 7 from by decide) v4) 5 (show 5 < 7 from by decide) v5) 6 (show 6 < 7 from by decide) v6
theorem bx7_free {w : World} {b : Nat} {v0 v1 v2 v3 v4 v5 v6 : Value} (h : RG.BxN w b [v0, v1, v2, v3, v4, v5, v6]) : w.frozen? ⟨b, 0, none⟩ = false ∧ w.frozen? ⟨b, 1, none⟩ = false ∧ w.frozen? ⟨b, 2, none⟩ = false ∧ w.frozen? ⟨b, 3, none⟩ = false ∧ w.frozen? ⟨b, 4, none⟩ = false ∧ w.frozen? ⟨b, 5, none⟩ = false ∧ w.frozen? ⟨b, 6, none⟩ = false :=
  ⟨(h 0 _ rfl).2, (h 1 _ rfl).2, (h 2 _ rfl).2, (h 3 _ rfl).2, (h 4 _ rfl).2, (h 5 _ rfl).2, (h 6 _ rfl).2⟩
theorem grown7 (w : World) (b : Nat) (v0 v1 v2 v3 v4 v5 v6 : Value) : w.grownBy (put7 w b v0 v1 v2 v3 v4 v5 v6) (some b) :=
  grown_trans (grown_trans (grown_trans (grown_trans (grown_trans (grown_trans (grown_set _ b 0 _) (grown_set _ b 1 _)) (grown_set _ b 2 _)) (grown_set _ b 3 _)) (grown_set _ b 4 _)) (grown_set _ b 5 _)) (grown_set _ b 6 _)

theorem oStep_of {s s1 s2 s3 s4 s5 : ScM.Rs} {nm : ByteArray} {f : List O} {v3 v4 v5 : Nat} (e1 : oName s = (nm, s1)) (e2 : oExpr s1 = (f, s2)) (e3 : oNum s2 = (v3, s3)) (e4 : oNum s3 = (v4, s4)) (e5 : oGuard s4 = (v5, s5)) :
    oStep s = (⟨nm, f, wrp v3, wrp v4, decide (v5 = 1), (oG v5 s5).1.1, (oG v5 s5).1.2⟩, (oG v5 s5).2) := by
  unfold oStep oStP
  simp only [both, e1, e2, e3, e4, e5, stOfL]
theorem oG_yes {g : Nat} {s : ScM.Rs} (h : decide (g = 1) = true) : oG g s = (((oName s).1, (oExpr (oName s).2).1), (oExpr (oName s).2).2) := by
  rw [oG, if_pos (of_decide_eq_true h)]
  rfl
theorem oG_no {g : Nat} {s : ScM.Rs} (h : decide (g = 1) = false) : oG g s = ((e0, []), s) := by rw [oG, if_neg (of_decide_eq_false h)]

set_option maxRecDepth 100000 in
set_option maxHeartbeats 8000000 in
theorem step_any (b : Nat) (A : Option Addr) (xs : List Int) (c : Nat) (s : ScM.Rs) (w : World) (R : Rdd b A c xs w s w) (hx : Bytes w b A xs c) (hb : b < w.heap.size) :
    Calls Tryz.prog 55 #[.pointer (some ⟨b, 0, none⟩)] w fun e w' =>
      (∃ A1 c1 B1 d1, e = .returned (agSt (oStep s).1 A1 c1 B1 d1) ∧ SlO w' A1 (oStep s).1.f c1 ∧ SlO w' B1 (oStep s).1.h d1 ∧ (∀ a, A1 = some a → w.heap.size ≤ a.block) ∧ (∀ a, B1 = some a → w.heap.size ≤ a.block)) ∧ Rdd b A c xs w (oStep s).2 w' := by
  have hN0 := RG.bxN_new w 47 [.string ⟨#[]⟩, .slice none 0 0, .int .i64 0, .int .i64 0, .bool false, .string ⟨#[]⟩, .slice none 0 0]
  have ha0 := (Below.refl w.heap.size w).alloc (Nat.le_refl _) (.cells #[.string ⟨#[]⟩, .slice none 0 0, .int .i64 0, .int .i64 0, .bool false, .string ⟨#[]⟩, .slice none 0 0] 47)
  have hR0 := rdd_below R ha0
  have HX := Lib.hid hx
  -- the parts, by name
  obtain ⟨⟨nm, s1⟩, e1⟩ : ∃ r, r = oName s := ⟨_, rfl⟩
  obtain ⟨⟨f, s2⟩, e2⟩ : ∃ r, r = oExpr s1 := ⟨_, rfl⟩
  obtain ⟨⟨v3, s3⟩, e3⟩ : ∃ r, r = oNum s2 := ⟨_, rfl⟩
  obtain ⟨⟨v4, s4⟩, e4⟩ : ∃ r, r = oNum s3 := ⟨_, rfl⟩
  obtain ⟨⟨v5, s5⟩, e5⟩ : ∃ r, r = oGuard s4 := ⟨_, rfl⟩
  rw [oStep_of e1.symm e2.symm e3.symm e4.symm e5.symm]
  have c1' := fun W (h : Rdd b A c xs w s W) hbW => name_acc (W := W) h hx hbW
  have c2' := fun W (h : Rdd b A c xs w s1 W) => expression_acc (W := W) h hx
  have c3' := fun W (h : Rdd b A c xs w s2 W) => number_acc (W := W) h hx
  have c4' := fun W (h : Rdd b A c xs w s3 W) => number_acc (W := W) h hx
  have c5' := fun W (h : Rdd b A c xs w s4 W) => guarded_acc (W := W) h hx
  simp only [← e1] at c1'
  simp only [← e2] at c2'
  simp only [← e3] at c3'
  simp only [← e4] at c4'
  simp only [← e5] at c5'
  obtain ⟨lo, hlo⟩ : ∃ z, z = wrp v3 := ⟨_, rfl⟩
  obtain ⟨hi, hhi⟩ : ∃ z, z = wrp v4 := ⟨_, rfl⟩
  simp only [← hlo] at c3' ⊢
  simp only [← hhi] at c4' ⊢
  have hyes := @oG_yes v5 s5
  have hno := @oG_no v5 s5
  obtain ⟨g, hg⟩ : ∃ g, g = decide (v5 = 1) := ⟨_, rfl⟩
  rw [← hg] at hyes hno
  simp only [← hg] at c5' ⊢
  obtain ⟨th, hth⟩ : ∃ t, t = oG v5 s5 := ⟨_, rfl⟩
  rw [← hth] at hyes hno ⊢
  have c6' := fun W (h : Rdd b A c xs w s5 W) hbW => name_acc (W := W) h hx hbW
  obtain ⟨⟨nt, s6⟩, e6⟩ : ∃ r, r = oName s5 := ⟨_, rfl⟩
  rw [← e6] at hyes
  simp only [← e6] at c6' hyes
  have c7' := fun W (h : Rdd b A c xs w s6 W) => expression_acc (W := W) h hx
  obtain ⟨⟨fh, s7⟩, e7⟩ : ∃ r, r = oExpr s6 := ⟨_, rfl⟩
  simp only [← e7] at c7' hyes
  clear e1 e2 e3 e4 e5 e6 e7 hlo hhi hg hth R hx
  obtain ⟨n, hn⟩ : ∃ n, n = f.length := ⟨_, rfl⟩
  obtain ⟨m, hm⟩ : ∃ n, n = fh.length := ⟨_, rfl⟩
  simp only [← hn] at c2'
  simp only [← hm] at c7'
  have HC1 := Lib.hid c1'
  have HC2 := Lib.hid c2'
  have HC3 := Lib.hid c3'
  have HC4 := Lib.hid c4'
  have HC5 := Lib.hid c5'
  have HC6 := Lib.hid c6'
  have HC7 := Lib.hid c7'
  have HYes := Lib.hid hyes
  have HNo := Lib.hid hno
  have HNn := Lib.hid hn
  have HMm := Lib.hid hm
  have HN0 := Lib.hid hN0
  have HR0 := Lib.hid hR0
  clear c1' c2' c3' c4' c5' c6' c7' hyes hno hn hm hN0 hR0 ha0
  go_enter Tryz.func55, Tryz.ntmps55
  go_wp2_with fail
  obtain ⟨w0, hw0⟩ : ∃ w0, w0 = w.alloc (.cells #[.string ⟨#[]⟩, .slice none 0 0, .int .i64 0, .int .i64 0, .bool false, .string ⟨#[]⟩, .slice none 0 0] 47) := ⟨_, rfl⟩
  have hz0 : w0.heap.size = w.heap.size + 1 := by rw [hw0]; simp
  rw [show (List.toArray [Value.string ⟨#[]⟩, .slice none 0 0, .int .i64 0, .int .i64 0, .bool false, .string ⟨#[]⟩, .slice none 0 0]) = #[Value.string ⟨#[]⟩, .slice none 0 0, .int .i64 0, .int .i64 0, .bool false, .string ⟨#[]⟩, .slice none 0 0] from rfl, ← hw0] at HN0
  rw [← hw0] at HR0 ⊢
  clear hw0
  refine (HC1.out w0 HR0.out (by omega)).mono ?_
  rintro e w1 ⟨rfl, hr1, hg1⟩
  have HR1 := Lib.hid hr1
  have HN1 := Lib.hid (RG.BxN.grown HN0.out hg1 (fun e => by injection e with e; omega))
  have hz1 : w.heap.size + 1 ≤ w1.heap.size := by have := hg1.size; omega
  clear hr1 hg1 HN0 HR0 HC1
  go_wp2_with fail
  refine (HC2.out w1 HR1.out).mono ?_
  rintro e w2 ⟨⟨A1, c1, rfl, hs2, hf2⟩, hr2, hg2⟩
  have HR2 := Lib.hid hr2
  have HS2 := Lib.hid hs2
  have HF2 := Lib.hid (fun a ha => Nat.le_trans hz1 (hf2 a ha) : ∀ a, A1 = some a → w.heap.size + 1 ≤ a.block)
  have HN2 := Lib.hid (RG.BxN.grown HN1.out hg2 (fun e => by injection e with e; omega))
  have hz2 : w.heap.size + 1 ≤ w2.heap.size := by have := hg2.size; omega
  clear hr2 hg2 hs2 hf2 HN1 HR1 HC2
  go_wp2_with fail
  refine (HC3.out w2 HR2.out).mono ?_
  rintro e w3 ⟨rfl, hr3, hg3⟩
  have HR3 := Lib.hid hr3
  have HS3 := Lib.hid (slO_grown' HS2.out hg3 (fun _ a ha e => by injection e with e; have := HF2.out a ha; omega))
  have HN3 := Lib.hid (RG.BxN.grown HN2.out hg3 (fun e => by injection e with e; omega))
  have hz3 : w.heap.size + 1 ≤ w3.heap.size := by have := hg3.size; omega
  clear hr3 hg3 HN2 HR2 HS2 HC3
  go_wp2_with fail
  refine (HC4.out w3 HR3.out).mono ?_
  rintro e w4 ⟨rfl, hr4, hg4⟩
  have HR4 := Lib.hid hr4
  have HS4 := Lib.hid (slO_grown' HS3.out hg4 (fun _ a ha e => by injection e with e; have := HF2.out a ha; omega))
  have HN4 := Lib.hid (RG.BxN.grown HN3.out hg4 (fun e => by injection e with e; omega))
  have hz4 : w.heap.size + 1 ≤ w4.heap.size := by have := hg4.size; omega
  clear hr4 hg4 HN3 HR3 HS3 HC4
  go_wp2_with fail
  refine (HC5.out w4 HR4.out).mono ?_
  rintro e w5 ⟨rfl, hr5, hg5⟩
  have ha6 := (Below.refl w5.heap.size w5).alloc (Nat.le_refl _) (.cells #[.string nm, .slice A1 n c1, .int .i64 lo, .int .i64 hi, .bool g, .string ⟨#[]⟩, .slice none 0 0] 47)
  have HR6 := Lib.hid (rdd_below hr5 ha6)
  have HS6 := Lib.hid ((slO_grown' HS4.out hg5 (fun _ a ha e => by injection e with e; have := HF2.out a ha; omega)).kept ha6)
  have HN6 := Lib.hid ((RG.BxN.grown HN4.out hg5 (fun e => by injection e with e; omega)).kept ha6)
  have HM6 := Lib.hid (RG.bxN_new w5 47 [.string nm, .slice A1 n c1, .int .i64 lo, .int .i64 hi, .bool g, .string ⟨#[]⟩, .slice none 0 0])
  have hz5 : w.heap.size + 1 ≤ w5.heap.size := by have := hg5.size; omega
  have HS6lt := Lib.hid (fun h0 a ha => slO_lt (slO_grown' HS4.out hg5 (fun _ a ha e => by injection e with e; have := HF2.out a ha; omega)) h0 ha : 0 < f.length → ∀ a, A1 = some a → a.block < w5.heap.size)
  have hz6 : (w5.alloc (.cells #[.string nm, .slice A1 n c1, .int .i64 lo, .int .i64 hi, .bool g, .string ⟨#[]⟩, .slice none 0 0] 47)).heap.size = w5.heap.size + 1 := by simp
  clear hr5 hg5 ha6 HN4 HR4 HS4 HC5
  obtain ⟨w6, hw6⟩ : ∃ w6, w6 = w5.alloc (.cells #[.string nm, .slice A1 n c1, .int .i64 lo, .int .i64 hi, .bool g, .string ⟨#[]⟩, .slice none 0 0] 47) := ⟨_, rfl⟩
  rw [show (List.toArray [Value.string nm, .slice A1 n c1, .int .i64 lo, .int .i64 hi, .bool g, .string ⟨#[]⟩, .slice none 0 0]) = #[Value.string nm, .slice A1 n c1, .int .i64 lo, .int .i64 hi, .bool g, .string ⟨#[]⟩, .slice none 0 0] from rfl, ← hw6] at HM6
  rw [← hw6] at HR6 HS6 HN6 hz6
  have HW6 := Lib.hid hw6
  clear hw6
  cases g
  · have hth := HNo.out rfl
    have HFr := Lib.hid (fun a ha => Nat.le_of_succ_le (HF2.out a ha) : ∀ a, A1 = some a → w.heap.size ≤ a.block)
    clear HYes HNo HC6 HC7
    subst hth
    obtain ⟨W7, hW7⟩ : ∃ W7, W7 = put7 w6 w.heap.size (.string nm) (.slice A1 n c1) (.int .i64 lo) (.int .i64 hi) (.bool false) (.string ⟨#[]⟩) (.slice none 0 0) := ⟨_, rfl⟩
    have hb7 := bx7_put HN6.out (.string nm) (.slice A1 n c1) (.int .i64 lo) (.int .i64 hi) (.bool false) (.string ⟨#[]⟩) (.slice none 0 0)
    have hg7 := grown7 w6 w.heap.size (.string nm) (.slice A1 n c1) (.int .i64 lo) (.int .i64 hi) (.bool false) (.string ⟨#[]⟩) (.slice none 0 0)
    rw [← hW7] at hb7 hg7
    have HR7 := Lib.hid (rdd_own HR6.out hg7 (fun q e => by injection e with e; omega) hb)
    have HS7 := Lib.hid (slO_grown' HS6.out hg7 (fun _ a ha e => by injection e with e; have := HF2.out a ha; omega))
    have HB7 := Lib.hid hb7
    obtain ⟨p0, p1, p2, p3, p4, p5, p6⟩ := bx7 HM6.out
    obtain ⟨n0, n1, n2, n3, n4, n5, n6⟩ := bx7 HN6.out
    obtain ⟨m0, m1, m2, m3, m4, m5, m6⟩ := bx7_free HN6.out
    unfold put7 at hW7
    rw [HW6.out] at p0 p1 p2 p3 p4 p5 p6 n0 n1 n2 n3 n4 n5 n6 m0 m1 m2 m3 m4 m5 m6 hW7
    have HW7 := Lib.hid hW7
    clear hb7 hg7 hW7
    go_wp2_with fail
    rw [← HW7.out]
    obtain ⟨g0, g1, g2, g3, g4, g5, g6⟩ := bx7 HB7.out
    exact bodyPost_ret (v := .agg #[.string nm, .slice A1 n c1, .int .i64 lo, .int .i64 hi, .bool false, .string ⟨#[]⟩, .slice none 0 0]) (by simp [results, Tryz.results55, go_sem, g0, g1, g2, g3, g4, g5, g6]) rfl
      ⟨⟨A1, c1, none, 0, by rw [HNn.out]; rfl, HS7.out, slO_none _, HFr.out, (fun a ha => by cases ha)⟩, HR7.out⟩
  · have hth := HYes.out rfl
    have HFr := Lib.hid (fun a ha => Nat.le_of_succ_le (HF2.out a ha) : ∀ a, A1 = some a → w.heap.size ≤ a.block)
    clear HYes HNo
    subst hth
    obtain ⟨p0, p1, p2, p3, p4, p5, p6⟩ := bx7 HM6.out
    rw [HW6.out] at p0 p1 p2 p3 p4 p5 p6
    go_wp2_with fail
    rw [← HW6.out]
    refine (HC6.out w6 HR6.out (by omega)).mono ?_
    rintro e w8 ⟨rfl, hr8, hg8⟩
    have HR8 := Lib.hid hr8
    have HS8 := Lib.hid (slO_grown' HS6.out hg8 (fun _ a ha e => by injection e with e; have := HF2.out a ha; omega))
    have HN8 := Lib.hid (RG.BxN.grown HN6.out hg8 (fun e => by injection e with e; omega))
    have HM8 := Lib.hid (RG.BxN.grown HM6.out hg8 (fun e => by injection e with e; omega))
    have hz8 : w5.heap.size + 1 ≤ w8.heap.size := by have := hg8.size; omega
    clear hr8 hg8 HR6 HS6 HN6 HM6 HC6 p0 p1 p2 p3 p4 p5 p6 HW6
    go_wp2_with fail
    refine (HC7.out w8 HR8.out).mono ?_
    rintro e w9 ⟨⟨A2, c2, rfl, hs9, hf9⟩, hr9, hg9⟩
    have hf9' : ∀ a, A2 = some a → w5.heap.size + 1 ≤ a.block := fun a ha => Nat.le_trans hz8 (hf9 a ha)
    have HFt := Lib.hid (fun a ha => by have := hf9' a ha; omega : ∀ a, A2 = some a → w.heap.size ≤ a.block)
    have hs9a := slO_grown' HS8.out hg9 (fun _ a ha e => by injection e with e; have := HF2.out a ha; omega)
    have hn9 := RG.BxN.grown HN8.out hg9 (fun e => by injection e with e; omega)
    have hm9 := RG.BxN.grown HM8.out hg9 (fun e => by injection e with e; omega)
    have hz9 : w5.heap.size + 1 ≤ w9.heap.size := by have := hg9.size; omega
    have hlt9 : 0 < f.length → ∀ a, A1 = some a → a.block ≠ w5.heap.size := fun h0 a ha e => by
      have h1 := HS6lt.out h0 a ha
      omega
    obtain ⟨p0, p1, p2, p3, p4, p5, p6⟩ := bx7 hm9
    obtain ⟨q0, q1, q2, q3, q4, q5, q6⟩ := bx7_free hm9
    obtain ⟨n0, n1, n2, n3, n4, n5, n6⟩ := bx7 hn9
    obtain ⟨m0, m1, m2, m3, m4, m5, m6⟩ := bx7_free hn9
    have hne : ¬ w5.heap.size = w.heap.size := by omega
    have hne' : ¬ w.heap.size = w5.heap.size := by omega
    obtain ⟨v10, hv10⟩ : ∃ v, v = (w9.setCell ⟨w5.heap.size, 5, none⟩ (.string nt)).setCell ⟨w5.heap.size, 6, none⟩ (.slice A2 m c2) := ⟨_, rfl⟩
    have hg10 : w9.grownBy v10 (some w5.heap.size) := by rw [hv10]; exact grown_trans (grown_set _ _ 5 _) (grown_set _ _ 6 _)
    have hn10 := RG.BxN.grown hn9 hg10 (fun e => by injection e with e; omega)
    have hr10 := rdd_own hr9 hg10 (fun q e => by injection e with e; omega) hb
    have hs10 := slO_grown' hs9a hg10 (fun h0 a ha e => by injection e with e; exact hlt9 h0 a ha e)
    have ht10 := slO_grown' hs9 hg10 (fun _ a ha e => by injection e with e; have := hf9' a ha; omega)
    obtain ⟨W7, hW7⟩ : ∃ W7, W7 = put7 v10 w.heap.size (.string nm) (.slice A1 n c1) (.int .i64 lo) (.int .i64 hi) (.bool true) (.string nt) (.slice A2 m c2) := ⟨_, rfl⟩
    have hb7 := bx7_put hn10 (.string nm) (.slice A1 n c1) (.int .i64 lo) (.int .i64 hi) (.bool true) (.string nt) (.slice A2 m c2)
    have hg7 := grown7 v10 w.heap.size (.string nm) (.slice A1 n c1) (.int .i64 lo) (.int .i64 hi) (.bool true) (.string nt) (.slice A2 m c2)
    rw [← hW7] at hb7 hg7
    have HR7 := Lib.hid (rdd_own hr10 hg7 (fun q e => by injection e with e; omega) hb)
    have HS7 := Lib.hid (slO_grown' hs10 hg7 (fun _ a ha e => by injection e with e; have := HF2.out a ha; omega))
    have HT7 := Lib.hid (slO_grown' ht10 hg7 (fun _ a ha e => by injection e with e; have := hf9' a ha; omega))
    have HB7 := Lib.hid hb7
    unfold put7 at hW7
    rw [hv10] at hW7
    have HW7 := Lib.hid hW7
    clear hs9 hf9 hr9 hg9 hf9' hs9a hn9 hm9 hlt9 hv10 hg10 hn10 hr10 hs10 ht10 hb7 hg7 hW7 HS8 HN8 HM8 HR8 HC7
    go_wp2_with fail
    rw [← HW7.out]
    obtain ⟨g0, g1, g2, g3, g4, g5, g6⟩ := bx7 HB7.out
    exact bodyPost_ret (v := .agg #[.string nm, .slice A1 n c1, .int .i64 lo, .int .i64 hi, .bool true, .string nt, .slice A2 m c2]) (by simp [results, Tryz.results55, go_sem, g0, g1, g2, g3, g4, g5, g6]) rfl
      ⟨⟨A1, c1, A2, c2, by rw [HNn.out, HMm.out]; rfl, HS7.out, HT7.out, HFr.out, HFt.out⟩, HR7.out⟩
end Go.Proofs.YtbmdkibmfkmjoaaGreat.Qy

namespace Go.Proofs.YtbmdkibmfkmjoaaGreat.Qy
open Go.RowKit Go.Proofs.YtbmdkibmfkmjoaaGreat.BM Go.Proofs.YtbmdkibmfkmjoaaGreat.LM Go.Proofs.YtbmdkibmfkmjoaaGreat.LeM Go.Proofs.YtbmdkibmfkmjoaaGreat.VaM Go.Proofs.YtbmdkibmfkmjoaaGreat.ExM Go.Proofs.YtbmdkibmfkmjoaaGreat.QyM
open Go.Proofs.YtbmdkibmfkmjoaaGreat.Ex (SlO slO_none)
open Go.Proofs.YtbmdkibmfkmjoaaGreat.Va (Bx2 bx2_new bx2_set0 bx2_set1 ret_v)
open Go.Proofs.YtbmdkibmfkmjoaaGreat.Sc (Rdd grown_set grown_trans)

theorem step_acc {b : Nat} {A : Option Addr} {c : Nat} {xs : List Int} {s : ScM.Rs} {w W : World} (h : Rdd b A c xs w s W) (hx : Bytes w b A xs c) (hb : b < W.heap.size) : Calls Tryz.prog 55 #[.pointer (some ⟨b, 0, none⟩)] W fun e w' =>
    (∃ A1 c1 B1 d1, e = .returned (agSt (oStep s).1 A1 c1 B1 d1) ∧ SlO w' A1 (oStep s).1.f c1 ∧ SlO w' B1 (oStep s).1.h d1 ∧ (∀ a, A1 = some a → W.heap.size ≤ a.block) ∧ (∀ a, B1 = some a → W.heap.size ≤ a.block)) ∧ Rdd b A c xs w (oStep s).2 w' ∧ W.grownBy w' (some b) :=
  acc2 h hx fun A' c' R hB => step_any b A' s.1 c' s W R hB hb

theorem fine_step {s : ScM.Rs} (h : Gr.By s.1) : FineSt (oStep s).1 := by
  obtain ⟨⟨h1, h2⟩, h3, h4⟩ := oStep_like h
  exact ⟨⟨by unfold maxLen; omega, by unfold maxLen; omega⟩, h3, h4⟩

/-- Steps that lie above a place. -/
def SlUp (H : Nat) (w : World) (A : Option Addr) (l : List St) (c : Nat) : Prop := RG.SlG KSt (fun k => H ≤ k) w A l c ∧ ∀ a, A = some a → H ≤ a.block
theorem SlUp.st {H : Nat} {w : World} {A : Option Addr} {l : List St} {c : Nat} (h : SlUp H w A l c) : SlSt w A l c := RG.SlG.mono h.1 fun _ _ _ => trivial
theorem SlUp.grown {H b : Nat} {w w' : World} {A : Option Addr} {l : List St} {c : Nat} (h : SlUp H w A l c) (hg : w.grownBy w' (some b)) (hb : b < H) : SlUp H w' A l c :=
  ⟨RG.SlG.grown h.1 hg (fun a ha e => by have := h.2 a ha; omega) (fun k hk e => by omega), h.2⟩
theorem SlUp.kept {H : Nat} {w w' : World} {A : Option Addr} {l : List St} {c : Nat} (h : SlUp H w A l c) (hb : Below w.heap.size w w') : SlUp H w' A l c := ⟨RG.SlG.kept h.1 hb, h.2⟩
theorem slUp_none (H : Nat) (w : World) : SlUp H w none [] 0 := ⟨RG.slG_none _ _ _, fun a ha => by cases ha⟩

set_option maxRecDepth 100000 in
set_option maxHeartbeats 8000000 in
theorem steps_any (b : Nat) (A : Option Addr) (xs : List Int) (c : Nat) (s : ScM.Rs) (w : World) (R : Rdd b A c xs w s w) (hx : Bytes w b A xs c) (hb : b < w.heap.size) :
    Calls Tryz.prog 54 #[.pointer (some ⟨b, 0, none⟩), .int .u64 4, .func (.func 55) #[.pointer (some ⟨b, 0, none⟩)] #[]] w fun e w' =>
      (∃ A1 c1, e = .returned (.slice A1 (several oStep 4 s).1.length c1) ∧ SlUp w.heap.size w' A1 (several oStep 4 s).1 c1) ∧ Rdd b A c xs w (several oStep 4 s).2 w' := by
  have ht := takeNum_acc R hx
  have hby0 := rdr_num.bytes (rdd_by R hx)
  have hsv : several oStep 4 s = if (oNum s).1 ≤ 4 then reps oStep (oNum s).1 (oNum s).2 else ([], ((oNum s).2.1, true)) := rfl
  rw [hsv]
  clear hsv
  obtain ⟨⟨n, ys, s1⟩, hr⟩ : ∃ r, r = oNum s := ⟨_, rfl⟩
  rw [← hr] at ht hby0 ⊢
  simp only at ht hby0 ⊢
  have HT := Lib.hid ht
  clear ht hr
  by_cases hn : n ≤ 4
  rotate_left
  · rw [if_neg hn]
    have g1 : decide ((4 : Int) < (n : Int)) = true := by rw [decide_eq_true_iff]; omega
    have g1' : decide (4 < n) = true := by rw [decide_eq_true_iff]; omega
    clear hn R hx hby0
    go_enter Tryz.func54, Tryz.ntmps54
    go_wp2_with fail
    refine HT.out.mono ?_
    rintro e w1 ⟨rfl, hrd, _⟩
    have HRd := Lib.hid hrd
    obtain ⟨_, A1, c1, ⟨⟨p0, p1⟩, p2, p3⟩, _⟩ := hrd
    go_wp2_with fail
    go_ret
    exact ⟨⟨none, 0, rfl, slUp_none _ _⟩, rdd_short HRd.out true⟩
  rw [if_pos hn]
  have g1 : decide ((4 : Int) < (n : Int)) = false := by rw [decide_eq_false_iff_not]; omega
  have g1' : decide (4 < n) = false := by rw [decide_eq_false_iff_not]; omega
  obtain ⟨Q, hQ⟩ : ∃ Q : Nat → List St × ScM.Rs, Q = fun j => reps oStep j (ys, s1) := ⟨_, rfl⟩
  have hQ0 : Q 0 = ([], (ys, s1)) := by rw [hQ]; rfl
  have hQs : ∀ j, Q (j + 1) = ((Q j).1 ++ [(oStep (Q j).2).1], (oStep (Q j).2).2) := fun j => by rw [hQ]; rfl
  have hQb : ∀ j, Gr.By (Q j).2.1 := fun j => by rw [hQ]; exact rdr_step.r_by j hby0
  have hQl : ∀ j, (Q j).1.length = j := fun j => by rw [hQ]; exact reps_len _ _
  rw [show reps oStep n (ys, s1) = Q n from by rw [hQ]]
  have HX := Lib.hid hx
  have HQ0 := Lib.hid hQ0
  have HQs := Lib.hid hQs
  have HQb := Lib.hid hQb
  have HQl := Lib.hid hQl
  clear hQ hQ0 hQs hQb hQl hx R hby0
  go_enter Tryz.func54, Tryz.ntmps54
  go_wp2_with fail
  refine HT.out.mono ?_
  rintro e w1 ⟨rfl, hrd, _⟩
  have HRd := Lib.hid hrd
  clear hrd HT
  go_wp2_with fail
  go_loopw [8, 18] (fun u i wr => ∃ (j : Nat) (vs : List Value), i = .int .u64 (j : Int) ∧ j ≤ n ∧ wr.ownsRow w.heap.size 47 7 u j vs ∧ RG.Elems KSt (fun k => w.heap.size ≤ k ∧ ne u k) wr (Q j).1 vs ∧ Rdd b A c xs w (Q j).2 wr) (fun _ i _ => n - (intOf i).toNat)
  case atStart => exact ⟨0, [], rfl, Nat.zero_le _, World.ownsRow_nil _ _ _ _, by rw [HQ0.out]; rfl, by rw [HQ0.out]; exact HRd.out⟩
  case round =>
    obtain ⟨j, vs, rfl, hj, hown, hel, hrd⟩ := hrel
    have HO := Lib.hid hown
    have HE := Lib.hid hel
    have HR := Lib.hid hrd
    have hzr := hrd.1.size
    clear hown hel hrd HRd
    by_cases hjn : j < n
    · have hone := step_acc HR.out HX.out (Nat.lt_of_lt_of_le hb hzr)
      have hfin := fine_step (HQb.out j)
      have hs := HQs.out j
      obtain ⟨⟨l, q⟩, hq⟩ : ∃ r, r = Q j := ⟨_, rfl⟩
      rw [← hq] at hone hfin hs HE
      simp only at hone hfin hs HE
      obtain ⟨⟨x, q2⟩, hq2⟩ : ∃ r, r = oStep q := ⟨_, rfl⟩
      rw [← hq2] at hone hfin hs
      simp only at hone hfin hs
      have HOne := Lib.hid hone
      have HS := Lib.hid hs
      have HFin := Lib.hid hfin
      clear hone hs hq hq2 HR hfin
      go_wp2_with fail
      refine HOne.out.mono ?_
      rintro e w3 ⟨⟨A1, c1, B1, d1, rfl, hs1, ht1, hf1, hf2⟩, hr3, hg3⟩
      have ha4 := (Below.refl w3.heap.size w3).alloc (Nat.le_refl _) (.cells #[.string x.s, .slice A1 x.f.length c1, .int .i64 x.lo, .int .i64 x.hi, .bool x.g, .string x.t, .slice B1 x.h.length d1] 47)
      have hrel : KSt.rel (fun k => w.heap.size ≤ k ∧ ne u8 k) w3 x (encSt x A1 c1 B1 d1) := ⟨A1, c1, B1, d1, rfl, hs1, ht1, HFin.out,
        fun _ a ha => ⟨Nat.le_trans hzr (hf1 a ha), fun e => by have h1 := (HO.out.lt _ e.symm).2; have h2 := hf1 a ha; omega⟩,
        fun _ a ha => ⟨Nat.le_trans hzr (hf2 a ha), fun e => by have h1 := (HO.out.lt _ e.symm).2; have h2 := hf2 a ha; omega⟩⟩
      have hnew := RG.elem_new w3 47 x (encSt x A1 c1 B1 d1) hrel
      have HRow := Lib.hid hnew.1
      have HNew := Lib.hid hnew.2
      have HO4 := Lib.hid (RegA.own_below (HO.out.kept hg3 (Or.inr (fun e => by have := (HO.out.lt _ e).1; omega))) ha4)
      have hel3 : RG.Elems KSt (fun k => w.heap.size ≤ k ∧ ne u8 k) w3 l vs := HE.out.map fun _ _ h => KSt.grown h hg3 (fun k hk e => by injection e with e; omega)
      have HE4 := Lib.hid (hel3.map (w' := w3.alloc (.cells #[.string x.s, .slice A1 x.f.length c1, .int .i64 x.lo, .int .i64 x.hi, .bool x.g, .string x.t, .slice B1 x.h.length d1] 47)) (q := fun k => w.heap.size ≤ k ∧ ne u8 k) fun _ _ h => KSt.kept h ha4)
      have HR4 := Lib.hid (rdd_below hr3 ha4)
      have hz4 : w.heap.size ≤ (w3.alloc (.cells #[.string x.s, .slice A1 x.f.length c1, .int .i64 x.lo, .int .i64 x.hi, .bool x.g, .string x.t, .slice B1 x.h.length d1] 47)).heap.size := Nat.le_trans hr3.1.size ha4.size
      clear hr3 hg3 ha4 HOne HO HE hs1 ht1 hf1 hf2 hrel hnew hel3 HFin
      unfold agSt
      unfold encSt at HRow HNew
      go_wp2_with (at_builtin; refine RG.Ty.wp_append (K := KSt) tySt (fun k => w.heap.size ≤ k) rfl (.tmp 20) (.tmp 23) rfl w.heap.size _ j vs l rfl HO4.out HE4.out (some ⟨w3.heap.size, 0, none⟩) 1 1 _ [x] rfl rfl HRow.out HNew.out (fun h => by cases h) (by omega) hz4 ?_; intro u5 w5 hown5 hel5 hgrow5; refine pause ?_)
      have HR5 := Lib.hid (rdd_own HR4.out hgrow5 (fun q hq => (HO4.out.lt q hq).1) hb)
      have HO5 := Lib.hid hown5
      have HE5 := Lib.hid hel5
      clear hown5 hgrow5 hel5
      unfold Pause
      go_wp2_with fail
      go_roundw
      case rel =>
        refine ⟨j + 1, _, by go_num, by omega, HO5.out, ?_, ?_⟩
        · rw [HS.out]
          exact HE5.out
        · rw [HS.out]
          exact HR5.out
      case measure => simp [intOf]; omega
    · obtain rfl : j = n := by omega
      obtain ⟨A1, c1, hu, hl1, hsl, hfar⟩ := RG.own_slG (K := KSt) HO.out HE.out (by decide)
      have HUp := Lib.hid (show SlUp w.heap.size wr A1 (Q j).1 c1 from ⟨RG.SlG.mono hsl fun _ _ h => h.1, fun a ha => (hfar a ha).2.1⟩)
      rw [HQl.out j] at hu
      subst hu
      clear hl1 hsl hfar HO HE
      go_wp2_with fail
      go_ret
      exact ⟨⟨A1, c1, by rw [HQl.out j]; rfl, HUp.out⟩, HR.out⟩
end Go.Proofs.YtbmdkibmfkmjoaaGreat.Qy

namespace Go.Proofs.YtbmdkibmfkmjoaaGreat.Sc
open Go.RowKit Go.Proofs.YtbmdkibmfkmjoaaGreat.BM Go.Proofs.YtbmdkibmfkmjoaaGreat.VaM Go.Proofs.YtbmdkibmfkmjoaaGreat.Va Go.Proofs.YtbmdkibmfkmjoaaGreat.ScM

theorem letter_any (c : Int) (w : World) : Calls Tryz.prog 93 #[.int .i32 c] w fun e w' => e = .returned (.bool (smallB c)) ∧ w = w' := by
  by_cases h1 : 97 ≤ c <;> by_cases h2 : c ≤ 122
  all_goals
    go_enter Tryz.func93, Tryz.ntmps93
    go_wp2_with fail
    go_ret
    exact ⟨ret_v (by simp [smallB, h1, h2]), rfl⟩

theorem beh_any (c : Int) (w : World) : Calls Tryz.prog 94 #[.int .i32 c] w fun e w' => e = .returned (.bool (behB c)) ∧ w = w' := by
  by_cases h0 : c = 95
  · subst h0
    go_enter Tryz.func94, Tryz.ntmps94
    go_wp2_with fail
    go_ret
    exact ⟨ret_v (by simp [behB]), rfl⟩
  · have hb : (c == 95) = false := by simpa using h0
    by_cases h1 : 48 ≤ c <;> by_cases h2 : c ≤ 57
    all_goals
      go_enter Tryz.func94, Tryz.ntmps94
      go_wp2_with fail
      go_ret
      exact ⟨ret_v (by simp [behB, h0, h1, h2]), rfl⟩

/-- A sign of more bytes than one. -/
theorem high_no {x : Int} (h : 128 ≤ x) : smallB x = false ∧ behB x = false := by
  have h1 : ¬ x ≤ 122 := by omega
  have h2 : ¬ x ≤ 57 := by omega
  have h3 : ¬ x = 95 := by omega
  simp [smallB, behB, h1, h2, h3]

theorem byte_at (s : ByteArray) (pos : Nat) (h : pos < s.size) : (bl s).getD pos 0 = ((s[pos]'h).toNat : Int) := by
  have hl : pos < (bl s).length := by rw [bl_len]; exact h
  rw [List.getD_eq_getElem?_getD, List.getElem?_eq_getElem hl, Option.getD_some]
  simp only [bl, List.getElem_map, Array.getElem_toList]
  rfl

set_option maxRecDepth 100000 in
theorem Name_any (s : ByteArray) (w : World) (hs : s.size ≤ maxLen) : Calls Tryz.prog 66 #[.string s] w fun e w' => e = .returned (.bool (decide (Nm s))) ∧ Below w.heap.size w w' := by
  unfold maxLen at hs
  by_cases h12 : s.size ≤ 12
  · go_enter Tryz.func66, Tryz.ntmps66
    go_wp2_with fail
    go_loopw [10] (fun _ wr => ∃ pos : Nat, wr = w.iter s pos ∧ pos ≤ s.size ∧ okPre (bl s) pos) (fun _ wr => s.size - wr.iterPos w.heap.size)
    case atStart => exact ⟨0, rfl, Nat.zero_le _, fun j hj => absurd hj (Nat.not_lt_zero j)⟩
    case round =>
      obtain ⟨pos, rfl, hpos, hpre⟩ := hrel
      have HPre := Lib.hid hpre
      clear hpre
      by_cases hp : pos < s.size
      · obtain ⟨x, hx⟩ : ∃ x, x = (bl s).getD pos 0 := ⟨_, rfl⟩
        have hxb := byte_at s pos hp
        rw [← hx] at hxb
        have no : smallB x = false → (pos = 0 ∨ behB x = false) → ¬ Nm s := fun h1 h2 hn => by
          have h := hn.2.2 pos (by rw [bl_len]; exact hp)
          unfold okAt at h
          rw [← hx, h1] at h
          rcases h with h | ⟨h3, h4⟩
          · cases h
          · rcases h2 with h2 | h2
            · exact h3 h2
            · rw [h2] at h4
              cases h4
        have yes : (smallB x = true ∨ (pos ≠ 0 ∧ behB x = true)) → okPre (bl s) (pos + 1) := fun h => okPre_succ HPre.out (by unfold okAt; rw [← hx]; exact h)
        have HNo := Lib.hid no
        have HYes := Lib.hid yes
        clear no yes
        by_cases ha : (s[pos]'hp).toNat < 128
        · have hnx : ∀ ty, (Instr.next (.pointer (some ⟨w.heap.size, 0, none⟩)) true ty).run Tryz.prog (w.iter s pos) = .ok (.tuple #[.bool true, .int .i64 pos, .int .i32 x]) (w.iter s (pos + 1)) := fun ty => by
            rw [hxb]
            exact run_next_ascii w s pos ty hp ha
          have HL := Lib.hid (fun W => letter_any x W)
          have HBh := Lib.hid (fun W => beh_any x W)
          obtain ⟨S, hS⟩ : ∃ S, S = smallB x := ⟨_, rfl⟩
          obtain ⟨T, hT⟩ : ∃ T, T = behB x := ⟨_, rfl⟩
          rw [← hS] at HL HNo HYes
          rw [← hT] at HBh HNo HYes
          clear hx hxb hS hT ha
          go_wp2_with fail
          refine (HL.out _).mono ?_
          rintro e w1 ⟨rfl, rfl⟩
          cases S
          · by_cases h0 : pos = 0
            · subst h0
              go_wp2_with fail
              go_ret
              exact ⟨ret_v (x := .bool false) (by rw [decide_eq_false (HNo.out (by trivial) (Or.inl (by trivial)))]), (Below.refl _ _).alloc (Nat.le_refl _) _⟩
            · have hz : ((pos : Int) == 0) = false := by rw [beq_eq_false_iff_ne]; omega
              go_wp2_with fail
              refine (HBh.out _).mono ?_
              rintro e w1 ⟨rfl, rfl⟩
              cases T
              · go_wp2_with fail
                go_ret
                exact ⟨ret_v (x := .bool false) (by rw [decide_eq_false (HNo.out (by trivial) (Or.inr (by trivial)))]), (Below.refl _ _).alloc (Nat.le_refl _) _⟩
              · go_wp2_with fail
                go_roundw
                case rel => exact ⟨pos + 1, rfl, by omega, HYes.out (Or.inr ⟨h0, by trivial⟩)⟩
                case measure => simp; omega
          · go_wp2_with fail
            go_roundw
            case rel => exact ⟨pos + 1, rfl, by omega, HYes.out (Or.inl (by trivial))⟩
            case measure => simp; omega
        · have hdh := decode_high s pos hp (by omega)
          have hxh := high_no (x := x) (by omega)
          have hnx : ∀ ty, (Instr.next (.pointer (some ⟨w.heap.size, 0, none⟩)) true ty).run Tryz.prog (w.iter s pos) = _ := fun ty => run_next_any w s pos ty hp
          obtain ⟨d, hd⟩ : ∃ d, d = (Utf8.decode s pos).1 := ⟨_, rfl⟩
          obtain ⟨e, he⟩ : ∃ e, e = (Utf8.decode s pos).2 := ⟨_, rfl⟩
          simp only [← hd, ← he] at hnx hdh
          have hdn := high_no (x := (d : Int)) (by omega)
          have HL := Lib.hid (fun W => letter_any (d : Int) W)
          have HBh := Lib.hid (fun W => beh_any (d : Int) W)
          rw [hdn.1] at HL
          rw [hdn.2] at HBh
          have HX := Lib.hid hxh
          clear hx hxb ha hdh hxh hdn hd he
          go_wp2_with fail
          refine (HL.out _).mono ?_
          rintro e w1 ⟨rfl, rfl⟩
          by_cases h0 : pos = 0
          · subst h0
            go_wp2_with fail
            go_ret
            exact ⟨ret_v (x := .bool false) (by rw [decide_eq_false (HNo.out HX.out.1 (Or.inl (by trivial)))]), (Below.refl _ _).alloc (Nat.le_refl _) _⟩
          · have hz : ((pos : Int) == 0) = false := by rw [beq_eq_false_iff_ne]; omega
            go_wp2_with fail
            refine (HBh.out _).mono ?_
            rintro e w1 ⟨rfl, rfl⟩
            go_wp2_with fail
            go_ret
            exact ⟨ret_v (x := .bool false) (by rw [decide_eq_false (HNo.out HX.out.1 (Or.inr HX.out.2))]), (Below.refl _ _).alloc (Nat.le_refl _) _⟩
      · obtain rfl : pos = s.size := by omega
        have hnx : ∀ ty, (Instr.next (.pointer (some ⟨w.heap.size, 0, none⟩)) true ty).run Tryz.prog (w.iter s s.size) = _ := fun ty => run_next_end w s s.size ty hp
        by_cases h0 : s.size = 0
        · rw [h0] at hnx
          obtain rfl : s = ⟨#[]⟩ := size_e0.1 h0
          have he : (ByteArray.mk #[]).toList.isEmpty = true := by rw [ByteArray.toList_eq]; rfl
          go_wp2_with fail
          go_ret
          exact ⟨ret_v (x := .bool false) (by rw [decide_eq_false (fun h => by have := (nm_size h).1; omega)]), (Below.refl _ _).alloc (Nat.le_refl _) _⟩
        · have hse := str_e0 h0
          have HN := Lib.hid (show Nm s from ⟨by rw [bl_len]; omega, by rw [bl_len]; omega, by rw [bl_len]; exact HPre.out⟩)
          go_wp2_with fail
          go_ret
          exact ⟨ret_v (x := .bool true) (by rw [decide_eq_true HN.out]), (Below.refl _ _).alloc (Nat.le_refl _) _⟩
  · have HN := Lib.hid (show ¬ Nm s from fun h => by have := (nm_size h).2; omega)
    go_enter Tryz.func66, Tryz.ntmps66
    go_wp2_with fail
    go_ret
    exact ⟨ret_v (x := .bool false) (by rw [decide_eq_false HN.out]), Below.refl _ _⟩

end Go.Proofs.YtbmdkibmfkmjoaaGreat.Sc

namespace Go.Proofs.YtbmdkibmfkmjoaaGreat.Ex
open Go.RowKit Go.Proofs.YtbmdkibmfkmjoaaGreat.BM Go.Proofs.YtbmdkibmfkmjoaaGreat.LM Go.Proofs.YtbmdkibmfkmjoaaGreat.LeM Go.Proofs.YtbmdkibmfkmjoaaGreat.ExM Go.Proofs.YtbmdkibmfkmjoaaGreat.EvM
open Go.Proofs.YtbmdkibmfkmjoaaGreat.VaM (putV)

/-- What Put answers. -/
def Putted (l : List O) (w : World) : Ending → World → Prop := fun r w' => ∃ A c, r = .returned (.tuple #[.slice A (ExM.pv l).length c, .bool (decide (ExM.May l))]) ∧ SlB w' A (ExM.pv l) c ∧ Below w.heap.size w w'

/-- The same, and where the bytes lie. -/
def PuttedF (l : List O) (w : World) : Ending → World → Prop := fun r w' => ∃ A c, r = .returned (.tuple #[.slice A (ExM.pv l).length c, .bool (decide (ExM.May l))]) ∧ SlB w' A (ExM.pv l) c ∧ (∀ a, A = some a → w.heap.size ≤ a.block ∧ a.block < w'.heap.size) ∧ Below w.heap.size w w'
theorem putted_of {l : List O} {w : World} {r : Ending} {w' : World} (h : PuttedF l w r w') : Putted l w r w' := by
  obtain ⟨A, c, h1, h2, _, h4⟩ := h
  exact ⟨A, c, h1, h2, h4⟩

theorem take_snocO {l : List O} {j : Nat} (hj : j < l.length) : l.take (j + 1) = l.take j ++ [l.getD j o0] := by
  rw [List.take_succ_eq_append_getElem hj]
  simp [List.getD_eq_getElem?_getD, hj]

theorem pO_push {o : O} (h : o.c = 0) : pO o = o.c :: putV o.v := by rw [pO, if_pos h]
theorem pO_load {o : O} (h : o.c = 1) : pO o = [o.c, o.a] := by rw [pO, if_neg (by omega), if_pos h]
theorem pO_none {o : O} (h0 : o.c ≠ 0) (h1 : o.c ≠ 1) : pO o = [o.c] := by rw [pO, if_neg h0, if_neg h1]
end Go.Proofs.YtbmdkibmfkmjoaaGreat.Ex

namespace Go.Proofs.YtbmdkibmfkmjoaaGreat.Va
open Go.RowKit Go.Proofs.YtbmdkibmfkmjoaaGreat.BM Go.Proofs.YtbmdkibmfkmjoaaGreat.LM Go.Proofs.YtbmdkibmfkmjoaaGreat.LeM Go.Proofs.YtbmdkibmfkmjoaaGreat.LeZ Go.Proofs.YtbmdkibmfkmjoaaGreat.VaM

def Putted (v : V) (w : World) : Ending → World → Prop := fun e w' => ∃ A c, e = .returned (.tuple #[.slice A (pv v).length c, .bool (decide (May v))]) ∧ SlB w' A (pv v) c ∧ (∀ a, A = some a → w.heap.size ≤ a.block) ∧ Below w.heap.size w w'

theorem putted_v {v : V} {ys : List Int} (hm : May v) (ht : pv v = ys) (A : Option Addr) (c : Nat) : Value.tuple #[.slice A (pv v).length c, .bool (decide (May v))] = .tuple #[.slice A ys.length c, .bool true] := by rw [ht, decide_eq_true hm]

theorem putted_n {v : V} (hm : ¬ May v) : Value.tuple #[.slice none (pv v).length 0, .bool (decide (May v))] = .tuple #[.slice none 0 0, .bool false] := by rw [decide_eq_false hm, pv, if_neg hm]; rfl

set_option maxRecDepth 100000 in
set_option maxHeartbeats 1000000 in
theorem Put_any (k n : Int) (s : ByteArray) (w : World) (hr : Rng ⟨k, n, s⟩) :
    Calls Tryz.prog 110 #[.agg #[.int .i64 k, .int .i64 n, .string s]] w (Putted ⟨k, n, s⟩ w) := by
  have HB := Lib.hid ((Below.refl w.heap.size w).alloc (Nat.le_refl _) (.cells #[.int .i64 k, .int .i64 n, .string s] 78))
  have HX := Lib.hid (bx_new w (.int .i64 k) (.int .i64 n) (.string s))
  have HT := Lib.hid (fun W => tail_any ⟨k, n, s⟩ W hr)
  have HR := Lib.hid hr
  clear hr
  go_enter Tryz.func110, Tryz.ntmps110
  go_wp2_with fail
  refine (held_any k n s _).mono ?_
  rintro e w1 ⟨rfl, hb1⟩
  have HB1 := Lib.hid (bt HB.out hb1)
  have HX1 := Lib.hid (HX.out.kept hb1)
  obtain ⟨h, hh⟩ : ∃ h, h = heldV ⟨k, n, s⟩ := ⟨_, rfl⟩
  rw [← hh] at HT ⊢
  clear hb1 HB HX hh
  go_wp2_with fail
  refine (HT.out _).mono ?_
  rintro e w2 ⟨A, c, rfl, h2, hb2⟩
  have HB2 := Lib.hid (bt HB1.out hb2)
  have hx2 := HX1.out.kept hb2
  have HS := Lib.hid h2
  clear hb2 HB1 HX1 h2 HT
  by_cases hm : May ⟨k, n, s⟩
  · have ht : tl ⟨k, n, s⟩ = putL (num ⟨k, n, s⟩) ++ bl s := by rw [tl, if_pos hm]
    have hp : pv ⟨k, n, s⟩ = [k] ++ tl ⟨k, n, s⟩ := by rw [pv, if_pos hm, ht]; rfl
    have hk := may_kind hm
    simp only at hk
    have hl : (tl ⟨k, n, s⟩).length ≤ 60 := by
      have := putV_len hm HR.out
      rw [show putV ⟨k, n, s⟩ = [k] ++ tl ⟨k, n, s⟩ from by rw [ht]; rfl, List.length_append] at this
      omega
    obtain ⟨t, hT⟩ : ∃ t, t = tl ⟨k, n, s⟩ := ⟨_, rfl⟩
    rw [← hT] at hl hp HS ⊢
    obtain ⟨m, hM⟩ : ∃ m, m = t.length := ⟨_, rfl⟩
    rw [← hM] at hl ⊢
    have HM := Lib.hid hM
    have HP := Lib.hid hp
    have HMay := Lib.hid hm
    rw [decide_eq_true hm]
    have hcap := HS.out.2.2.1
    have HC := Lib.hid hcap
    obtain ⟨⟨c0, c1, c2⟩, _⟩ := hx2
    have hz2 := HB2.out.size
    have hown0 := World.ownsRow_lit (base := w.heap.size) (e := 5) (size := 1) w2 #[.int .u8 k] 1 hz2 (by decide) rfl
    have HO := Lib.hid hown0
    have HS' := Lib.hid (HS.out.kept ((Below.refl _ _).alloc (Nat.le_refl _) (.cells #[.int .u8 k] 5)))
    clear hm hp hM hT ht hcap c1 c2 hown0
    go_wp2_with (at_builtin; refine wp_append_b rfl (.tmp 17) (.tmp 18) rfl w.heap.size _ 1 [k] rfl HO.out A m c t rfl HM.out.symm HS'.out.1 HC.out (by omega) (by simp; omega) ?_; intro v1 w3 hown3 hgrow3; refine pause ?_)
    have hB3 : Below w.heap.size w w3 := (HB2.out.alloc (HB2.out.size) _).grown hgrow3 (by simp; omega) (fun q hq => (HO.out.lt q hq).1)
    rw [show [k] ++ t = pv ⟨k, n, s⟩ from HP.out.symm] at hown3
    obtain ⟨A', c', rfl, hl3, h3, h4⟩ := own_slB hown3 (pv_bytes _)
    have hz3 := hB3.size
    have HS3 := Lib.hid h3
    have HB3 := Lib.hid hB3
    have HL3 := Lib.hid hl3
    have H4 := Lib.hid (fun a ha => (h4 a ha).2.1)
    clear h3 hB3 hown3 hgrow3 h4 hl3
    unfold Pause
    go_wp2_with fail
    go_ret2
    exact ⟨A', c', ret_v (putted_v HMay.out rfl A' c'), HS3.out, H4.out, HB3.out⟩
  · rw [decide_eq_false hm]
    have HMay := Lib.hid hm
    have hp : pv ⟨k, n, s⟩ = [] := by rw [pv, if_neg hm]
    have HP := Lib.hid hp
    clear hm hp hx2
    go_wp2_with fail
    go_ret2
    exact ⟨none, 0, ret_v (putted_n HMay.out), by rw [HP.out]; exact slB_none _, (fun a ha => by cases ha), HB2.out⟩
end Go.Proofs.YtbmdkibmfkmjoaaGreat.Va

namespace Go.Proofs.YtbmdkibmfkmjoaaGreat.Ex
open Go.RowKit Go.Proofs.YtbmdkibmfkmjoaaGreat.BM Go.Proofs.YtbmdkibmfkmjoaaGreat.LM Go.Proofs.YtbmdkibmfkmjoaaGreat.LeM Go.Proofs.YtbmdkibmfkmjoaaGreat.ExM Go.Proofs.YtbmdkibmfkmjoaaGreat.EvM
open Go.Proofs.YtbmdkibmfkmjoaaGreat.VaM (V Rng putV putV_len putV_bytes)
open Go.Proofs.YtbmdkibmfkmjoaaGreat.Va (PutSl Put_sl ret_v)

/-- What stands behind the byte of the code. -/
def tlO (o : O) : List Int := if o.c = 0 then putV o.v else if o.c = 1 then [o.a] else []
theorem pO_tl (o : O) : pO o = o.c :: tlO o := rfl
theorem tlO_len {o : O} (h : Ok o) (hr : Rng o.v) : (tlO o).length ≤ 51 := by
  have := (pO_len h hr).2
  rw [pO_tl, List.length_cons] at this
  omega

set_option maxRecDepth 100000 in
set_option maxHeartbeats 4000000 in
theorem behindCode_any (o : O) (w : World) (ho : Ok o) (hr : Rng o.v) : Calls Tryz.prog 99 #[agO o] w fun e w' => ∃ A c, e = .returned (.slice A (tlO o).length c) ∧ SlB w' A (tlO o) c ∧ Below w.heap.size w w' := by
  obtain ⟨c, a, ⟨k, n, s⟩⟩ := o
  obtain ⟨k1, k2, k3, k4, _, hvm, _⟩ := ho
  simp only at k1 k2 k3 k4 hvm hr
  obtain ⟨o0, o1, o2, o3, o4⟩ := (bxO_new w ⟨c, a, ⟨k, n, s⟩⟩).cells
  simp only at o0 o1 o2 o3 o4
  have ha := (Below.refl w.heap.size w).alloc (Nat.le_refl _) (.cells #[.int .i64 c, .int .i64 a, .int .i64 k, .int .i64 n, .string s] 80)
  unfold agO
  simp only
  by_cases h0 : c = 0
  · subst h0
    have ht : tlO ⟨0, a, ⟨k, n, s⟩⟩ = putV ⟨k, n, s⟩ := rfl
    rw [ht]
    have hput := fun W => Va.Put_any k n s W hr
    have hpp := (show VaM.pv ⟨k, n, s⟩ = putV ⟨k, n, s⟩ from by rw [VaM.pv, if_pos hvm])
    unfold Va.Putted at hput
    rw [hpp, decide_eq_true hvm] at hput
    obtain ⟨ys, hys⟩ : ∃ y, y = putV ⟨k, n, s⟩ := ⟨_, rfl⟩
    rw [← hys] at hput ⊢
    obtain ⟨m, hm⟩ : ∃ m, m = ys.length := ⟨_, rfl⟩
    rw [← hm] at hput ⊢
    have HP := Lib.hid hput
    have HB := Lib.hid ha
    clear hput hpp hys hm ht ha hvm hr k1 k2
    go_enter Tryz.func99, Tryz.ntmps99
    go_wp2_with fail
    refine (HP.out _).mono ?_
    rintro e w1 ⟨A, d, rfl, hs, _, hb⟩
    go_wp2_with fail
    go_ret
    exact ⟨A, d, rfl, hs, bt HB.out hb⟩
  · have g0 : (c == 0) = false := by simpa using h0
    by_cases h1 : c = 1
    · subst h1
      have ht : tlO ⟨1, a, ⟨k, n, s⟩⟩ = [a] := rfl
      rw [ht]
      have ha256 : a % 256 = a := by omega
      obtain ⟨w1, hw1⟩ : ∃ w1, w1 = w.alloc (.cells #[.int .i64 1, .int .i64 a, .int .i64 k, .int .i64 n, .string s] 80) := ⟨_, rfl⟩
      have hsz : w1.heap.size = w.heap.size + 1 := by rw [hw1]; simp
      have hnew := isB_new w1 [a] (by intro x hx; simp only [List.mem_singleton] at hx; omega)
      have hb2 := (Below.refl w1.heap.size w1).alloc (Nat.le_refl _) (.cells #[.int .u8 a] 5)
      rw [← hw1] at ha
      have hbb := bt ha hb2
      rw [hsz] at hnew
      rw [hw1] at hnew hbb
      have HN := Lib.hid hnew
      have HB := Lib.hid hbb
      clear ht hvm hr k1 k2 h0 hw1 hsz hnew hb2 ha hbb w1
      go_enter Tryz.func99, Tryz.ntmps99
      go_wp2_with fail
      go_ret
      exact ⟨some ⟨w.heap.size + 1, 0, none⟩, 1, rfl, ⟨HN.out, Nat.le_refl _, (fun h => by cases h), by decide⟩, HB.out⟩
    · have g1 : (c == 1) = false := by simpa using h1
      have ht : tlO ⟨c, a, ⟨k, n, s⟩⟩ = [] := by unfold tlO; rw [if_neg h0, if_neg h1]
      rw [ht]
      have HB := Lib.hid ha
      clear ht hvm hr k1 k2 h0 h1 ha
      go_enter Tryz.func99, Tryz.ntmps99
      go_wp2_with fail
      go_ret
      exact ⟨none, 0, rfl, slB_none _, HB.out⟩

set_option maxRecDepth 100000 in
set_option maxHeartbeats 8000000 in
theorem PutF_any (l : List O) (A : Option Addr) (c : Nat) (w : World) (hS : SlO w A l c) :
    Calls Tryz.prog 80 #[.slice A l.length c] w (PuttedF l w) := by
  have hm1 := may_own l A c w hS
  have hl := slO_len hS
  have HS := Lib.hid hS
  have hrn : ExM.Rngs l := hS.rngs
  by_cases hmay : ExM.May l
  · have HMay := Lib.hid hmay
    have hpv : ExM.pv l = pL l := by rw [ExM.pv, if_pos hmay]
    have hl12 := hmay.2
    have hok := fun x hx => hmay.ok (x := x) hx
    have hlen := fun j => (show (pOs (l.take j)).length ≤ 52 * 12 from Nat.le_trans (pOs_len (fun x hx => hok x (List.mem_of_mem_take hx)) (fun x hx => hrn x (List.mem_of_mem_take hx))) (Nat.mul_le_mul_left 52 (by rw [List.length_take]; omega)))
    rw [decide_eq_true hmay] at hm1
    have HPv := Lib.hid hpv
    have HOk := Lib.hid hok
    have HPl := Lib.hid (fun W => Put_sl l.length W (by omega))
    have hq3 := putL_len64 (n := l.length) (by omega)
    have HLe := Lib.hid hlen
    have HRn := Lib.hid hrn
    clear hpv hok hS hlen hrn hmay
    obtain ⟨P, hP⟩ : ∃ P, P = putL l.length := ⟨_, rfl⟩
    have HPre := Lib.hid hP
    obtain ⟨n, hn⟩ : ∃ n, n = l.length := ⟨_, rfl⟩
    rw [← hn] at hl hl12 hm1 HPl hq3 ⊢
    have HN := Lib.hid hn
    rw [← hn] at hP
    rw [← hP] at hq3
    have HPn := Lib.hid hP
    have HM1 := Lib.hid hm1
    clear hn hm1 hP
    go_enter Tryz.func80, Tryz.ntmps80
    go_wp2_with fail
    refine HM1.out.mono ?_
    rintro e w1 ⟨rfl, hb1⟩
    have HB1 := Lib.hid hb1
    clear hb1 HM1
    go_wp2_with fail
    refine (HPl.out w1).mono ?_
    rintro e w2 ⟨A2, c2, rfl, _, hown2, hb2⟩
    rw [← HPn.out] at hown2 ⊢
    have hsz : w.heap.size ≤ w1.heap.size := HB1.out.size
    have HO2 := Lib.hid hown2
    have HB2 := Lib.hid hb2
    clear hown2 hb2 HPl
    obtain ⟨m3, hm3⟩ : ∃ m, m = P.length := ⟨_, rfl⟩
    rw [← hm3] at HO2 hq3 ⊢
    have HM3 := Lib.hid hm3
    clear hm3
    go_wp2_with fail
    go_loopw [4, 16] (fun u i wr => ∃ (j k : Nat), i = .int .i64 j ∧ j ≤ n ∧ k = (P ++ pOs (l.take j)).length ∧ wr.ownsRow w1.heap.size 5 1 u k (cs (P ++ pOs (l.take j))) ∧ Below w1.heap.size w1 wr) (fun _ i _ => n - (intOf i).toNat)
    case atStart => exact ⟨0, m3, rfl, Nat.zero_le _, by simpa [pOs] using HM3.out, by simpa [pOs] using HO2.out, HB2.out⟩
    case round =>
      obtain ⟨j, k, rfl, hj, hk, hown, hbel⟩ := hrel
      have hk2 : k ≤ 700 := by
        rw [hk, List.length_append, ← HM3.out]
        have := HLe.out j
        omega
      have HO := Lib.hid hown
      have HK := Lib.hid hk
      have HBl2 := Lib.hid hbel
      clear hown hk hbel HO2 HB2
      by_cases hjn : j < n
      · obtain ⟨b, q, hix, hc, hfz⟩ := HS.out.at j (by rw [← HN.out]; exact hjn)
        have hfok := HOk.out _ (ExM.getD_mem (l := l) (i := j) (by rw [← HN.out]; exact hjn))
        have hsn := take_snocO (l := l) (j := j) (by rw [← HN.out]; exact hjn)
        obtain ⟨⟨fc, fa, fk, fn, fs⟩, hf⟩ : ∃ f, f = l.getD j o0 := ⟨_, rfl⟩
        rw [← hf] at hc hfok hsn hfz
        have hrg := hfz.2.1
        obtain ⟨c0, c1', c2', c3', c4'⟩ := hc wr (bt HB1.out HBl2.out)
        simp only at c0 c1' c2' c3' c4' hrg
        have hi := fun W => hix W n c hjn
        have hfok' := hfok
        obtain ⟨k1, k2, k3, k4, _, hvm, _⟩ := hfok
        simp only at k1 k2 k3 k4 hvm
        have HSn := Lib.hid hsn
        have hc256 : fc % 256 = fc := by omega
        have ha256 : fa % 256 = fa := by omega
        have HBc := Lib.hid (fun W => behindCode_any ⟨fc, fa, ⟨fk, fn, fs⟩⟩ W hfok' hrg)
        have hml := tlO_len (o := ⟨fc, fa, ⟨fk, fn, fs⟩⟩) hfok' hrg
        unfold agO at HBc
        simp only at HBc
        obtain ⟨m, hm⟩ : ∃ m, m = (tlO ⟨fc, fa, ⟨fk, fn, fs⟩⟩).length := ⟨_, rfl⟩
        rw [← hm] at HBc hml
        have HM := Lib.hid hm
        have ha1 := (Below.refl wr.heap.size wr).alloc (Nat.le_refl _) (.cells #[.int .i64 fc, .int .i64 fa, .int .i64 fk, .int .i64 fn, .string fs] 80)
        have hx1 := bxO_new wr ⟨fc, fa, ⟨fk, fn, fs⟩⟩
        obtain ⟨x0, x1, x2, x3, x4⟩ := hx1.cells
        simp only at x0 x1 x2 x3 x4 hx1
        obtain ⟨w2', hw2'⟩ : ∃ w2', w2' = wr.alloc (.cells #[.int .i64 fc, .int .i64 fa, .int .i64 fk, .int .i64 fn, .string fs] 80) := ⟨_, rfl⟩
        have hsz2 : w2'.heap.size = wr.heap.size + 1 := by rw [hw2']; simp
        rw [← hw2'] at ha1 hx1
        have ha2 := (Below.refl w2'.heap.size w2').alloc (Nat.le_refl _) (.cells #[.int .u8 fc] 5)
        have hnew := isB_new w2' [fc] (by intro x hx; simp only [List.mem_singleton] at hx; omega)
        have hx2 := hx1.kept ha2
        have ha3 := bt ha1 ha2
        rw [hsz2] at hnew
        rw [hw2'] at hnew ha3 hx2
        have HNew := Lib.hid hnew
        have HXo := Lib.hid hx2
        have HO3 := Lib.hid (RegA.own_below HO.out ha3)
        have HB3 := Lib.hid (bt HBl2.out ha3)
        have hz3 := HB3.out.size
        have HFar := Lib.hid (HO.out.lt)
        clear hix hf hsn ha1 ha2 ha3 hfz hc hx1 hx2 hnew hsz2 hw2' w2' hm
        go_wp2_with (at_builtin; refine wp_append_b rfl (.tmp 20) (.tmp 24) rfl w1.heap.size _ k _ rfl HO3.out (some ⟨wr.heap.size + 1, 0, none⟩) 1 1 [fc] rfl rfl HNew.out (fun h => by cases h) (by omega) hz3 ?_; intro u4 w4 hown4 hgrow4; refine pause ?_)
        have HB4 := Lib.hid (HB3.out.grown hgrow4 hz3 (fun q hq => (HO3.out.lt q hq).1))
        have HO4 := Lib.hid hown4
        have hx4 := RG.BxN.grown HXo.out hgrow4 (fun e => by have := (HFar.out _ e.symm).2; omega)
        obtain ⟨o0, o1, o2, o3, o4⟩ := (show BxO w4 wr.heap.size ⟨fc, fa, ⟨fk, fn, fs⟩⟩ from hx4).cells
        simp only at o0 o1 o2 o3 o4
        clear hown4 hgrow4 HO3 HB3 HNew c0 c1' c2' c3' c4' hx4 x0 x1 x2 x3 x4
        unfold Pause
        go_wp2_with fail
        refine (HBc.out _).mono ?_
        rintro e w5 ⟨A5, c5, rfl, hs5, hb5⟩
        have HO5 := Lib.hid (RegA.own_below HO4.out hb5)
        have HB5 := Lib.hid (bt HB4.out hb5)
        have HS5 := Lib.hid hs5
        have hz5 := HB5.out.size
        clear hs5 hb5 o0 o1 o2 o3 o4 HBc HO4
        go_wp2_with (at_builtin; refine wp_append_b rfl (.tmp 26) (.tmp 28) rfl w1.heap.size _ (k + 1) _ rfl HO5.out A5 m c5 (tlO ⟨fc, fa, ⟨fk, fn, fs⟩⟩) rfl HM.out.symm HS5.out.1 HS5.out.2.2.1 (by omega) hz5 ?_; intro u6 w6 hown6 hgrow6; refine pause ?_)
        have hB6 : Below w1.heap.size w1 w6 := HB5.out.grown hgrow6 hz5 (fun q hq => (HO5.out.lt q hq).1)
        have he6 : (P ++ pOs (l.take j) ++ [fc]) ++ tlO ⟨fc, fa, ⟨fk, fn, fs⟩⟩ = P ++ pOs (l.take (j + 1)) := by
          rw [HSn.out, pOs_snoc, pO_tl, List.append_assoc, List.append_assoc]
          rfl
        rw [he6] at hown6
        have hk6 : k + 1 + m = (P ++ pOs (l.take (j + 1))).length := by
          rw [← he6, List.length_append, List.length_append, ← HM.out, ← HK.out]
          rfl
        have HO6 := Lib.hid hown6
        have HB6 := Lib.hid hB6
        have HK6 := Lib.hid hk6
        clear hown6 hgrow6 hB6 he6 hk6
        unfold Pause
        go_wp2_with fail
        go_roundw
        case rel => exact ⟨j + 1, k + 1 + m, by go_num, by omega, HK6.out, HO6.out, HB6.out⟩
        case measure => simp [intOf]; omega
      · obtain rfl : j = n := by omega
        have hall : P ++ pOs (l.take j) = ExM.pv l := by
          rw [HPv.out, HN.out, List.take_length, HPre.out]
          rfl
        have hown := HO.out
        rw [hall] at hown
        obtain ⟨A5, c5, rfl, hl5, h5, h6⟩ := own_slB hown (ExM.pv_bytes _)
        have HS5 := Lib.hid h5
        have HD := Lib.hid (decide_eq_true HMay.out)
        have HFr := Lib.hid (fun a ha => ⟨Nat.le_trans hsz (h6 a ha).2.1, (h6 a ha).2.2⟩ : ∀ a, A5 = some a → w.heap.size ≤ a.block ∧ a.block < wr.heap.size)
        clear hall hown h5 h6 hl5
        go_wp2_with fail
        go_ret2
        exact ⟨A5, c5, ret_v (x := .tuple #[.slice A5 (ExM.pv l).length c5, .bool true]) (by rw [HD.out]), HS5.out, HFr.out, bt HB1.out HBl2.out⟩
  · have hpv : ExM.pv l = [] := by rw [ExM.pv, if_neg hmay]
    rw [decide_eq_false hmay] at hm1
    have HPv := Lib.hid hpv
    have HD := Lib.hid (decide_eq_false hmay)
    obtain ⟨n, hn⟩ : ∃ n, n = l.length := ⟨_, rfl⟩
    rw [← hn] at hm1 ⊢
    have HM1 := Lib.hid hm1
    clear hn hm1 hpv hmay hS hl hrn
    go_enter Tryz.func80, Tryz.ntmps80
    go_wp2_with fail
    refine HM1.out.mono ?_
    rintro e w1 ⟨rfl, hb1⟩
    have HB1 := Lib.hid hb1
    clear hb1 HM1
    go_wp2_with fail
    go_ret2
    exact ⟨none, 0, ret_v (by rw [HD.out, HPv.out]; rfl), by rw [HPv.out]; exact slB_none _, (fun a ha => by cases ha), HB1.out⟩

theorem Put_any (l : List O) (A : Option Addr) (c : Nat) (w : World) (hS : SlO w A l c) : Calls Tryz.prog 80 #[.slice A l.length c] w (Putted l w) := (PutF_any l A c w hS).mono fun _ _ h => putted_of h
end Go.Proofs.YtbmdkibmfkmjoaaGreat.Ex

namespace Go.Proofs.YtbmdkibmfkmjoaaGreat.Qy
open Go.RowKit Go.Proofs.YtbmdkibmfkmjoaaGreat.BM Go.Proofs.YtbmdkibmfkmjoaaGreat.LM Go.Proofs.YtbmdkibmfkmjoaaGreat.VaM Go.Proofs.YtbmdkibmfkmjoaaGreat.ExM Go.Proofs.YtbmdkibmfkmjoaaGreat.QyM
open Go.Proofs.YtbmdkibmfkmjoaaGreat.Ex (SlO slO_none slO_len)
open Go.Proofs.YtbmdkibmfkmjoaaGreat.Va (ret_v str_e0)
open Go.Proofs.YtbmdkibmfkmjoaaGreat.ScM (Nm)

theorem below_any (n e : Int) (w : World) : Calls Tryz.prog 78 #[.int .i64 n, .int .i64 e] w fun r w' => r = .returned (.bool (decide (0 ≤ n ∧ n < e))) ∧ w = w' := by
  obtain ⟨z1, g1⟩ : ∃ z, decide (0 ≤ n) = z := ⟨_, rfl⟩
  obtain ⟨z2, g2⟩ : ∃ z, decide (n < e) = z := ⟨_, rfl⟩
  rw [show decide (0 ≤ n ∧ n < e) = (z1 && z2) from by rw [← g1, ← g2, Bool.decide_and]]
  cases z1
  all_goals
    go_enter Tryz.func78, Tryz.ntmps78
    go_wp2_with fail
    go_ret
    exact ⟨rfl, rfl⟩

set_option maxRecDepth 100000 in
set_option maxHeartbeats 1000000 in
theorem mayAsk_any (s : ByteArray) (f : List O) (A : Option Addr) (c : Nat) (w : World) (hz : s.size ≤ maxLen) (hA : SlO w A f c) :
    Calls Tryz.prog 76 #[.string s, .slice A f.length c] w fun e w' => e = .returned (.bool (decide (ExM.May f ∧ Nm s))) ∧ Below w.heap.size w w' := by
  have hp := Ex.Put_any f A c w hA
  unfold Ex.Putted at hp
  have hn := fun W => Sc.Name_any s W hz
  obtain ⟨my, g1⟩ : ∃ b, decide (ExM.May f) = b := ⟨_, rfl⟩
  obtain ⟨nm, g2⟩ : ∃ b, decide (Nm s) = b := ⟨_, rfl⟩
  rw [show decide (ExM.May f ∧ Nm s) = (my && nm) from by rw [← g1, ← g2, Bool.decide_and]]
  simp only [g1] at hp
  simp only [g2] at hn
  obtain ⟨k, hk⟩ : ∃ k, k = (ExM.pv f).length := ⟨_, rfl⟩
  simp only [← hk] at hp
  obtain ⟨n, hn'⟩ : ∃ n, n = f.length := ⟨_, rfl⟩
  rw [← hn'] at hp ⊢
  have HP := Lib.hid hp
  have HN := Lib.hid hn
  clear hp hn hk hn' g1 g2 hA hz
  go_enter Tryz.func76, Tryz.ntmps76
  go_wp2_with fail
  refine HP.out.mono ?_
  rintro e w1 ⟨A1, c1, rfl, _, hb⟩
  have HB := Lib.hid hb
  clear hb HP
  cases my
  · go_wp2_with fail
    go_ret
    exact ⟨rfl, HB.out⟩
  · go_wp2_with fail
    refine (HN.out _).mono ?_
    rintro e w2 ⟨rfl, hb2⟩
    have HB2 := Lib.hid (bt HB.out hb2)
    clear hb2
    go_wp2_with fail
    go_ret
    exact ⟨rfl, HB2.out⟩

/-- Has a step all of a guard, or nothing of it? -/
def GuMay (x : St) : Prop := (x.g = false → x.t = e0 ∧ x.h = []) ∧ (x.g = true → ExM.May x.h ∧ Nm x.t)
instance (x : St) : Decidable (GuMay x) := by unfold GuMay; infer_instance

set_option maxRecDepth 100000 in
set_option maxHeartbeats 2000000 in
theorem mayGuard_any (x : St) (A : Option Addr) (c : Nat) (B : Option Addr) (d : Nat) (w : World) (hB : SlO w B x.h d) (hz : FineSt x) :
    Calls Tryz.prog 77 #[agSt x A c B d] w fun e w' => e = .returned (.bool (decide (GuMay x))) ∧ Below w.heap.size w w' := by
  have hX := (bxSt_new w x A c B d).cells
  have ha := (Below.refl w.heap.size w).alloc (Nat.le_refl _) (.cells #[.string x.s, .slice A x.f.length c, .int .i64 x.lo, .int .i64 x.hi, .bool x.g, .string x.t, .slice B x.h.length d] 47)
  have hm := mayAsk_any x.t x.h B d _ hz.1.2 (hB.kept ha)
  have g11 := e0_iff x.t
  have g12 : ((x.h.length : Int) == 0) = decide (x.h = []) := by
    rw [Bool.eq_iff_iff, beq_iff_eq, decide_eq_true_iff, ← List.length_eq_zero_iff]
    omega
  obtain ⟨R, hR⟩ : ∃ R, R = decide (GuMay x) := ⟨_, rfl⟩
  rw [← hR]
  have hf : x.g = false → R = (decide (x.t = e0) && decide (x.h = [])) := fun h => by
    rw [hR, ← Bool.decide_and]
    exact decide_eq_decide.2 ⟨fun k => k.1 h, fun k => ⟨fun _ => k, fun e => by rw [h] at e; cases e⟩⟩
  have ht : x.g = true → R = decide (ExM.May x.h ∧ Nm x.t) := fun h => by
    rw [hR]
    exact decide_eq_decide.2 ⟨fun k => k.2 h, fun k => ⟨(fun e => by rw [h] at e; cases e), fun _ => k⟩⟩
  obtain ⟨z1, e1⟩ : ∃ z, z = decide (x.t = e0) := ⟨_, rfl⟩
  obtain ⟨z2, e2⟩ : ∃ z, z = decide (x.h = []) := ⟨_, rfl⟩
  obtain ⟨z3, e3⟩ : ∃ z, z = decide (ExM.May x.h ∧ Nm x.t) := ⟨_, rfl⟩
  rw [← e1] at g11 hf
  rw [← e2] at g12 hf
  rw [← e3] at hm ht
  clear e1 e2 e3 hR hB hz
  obtain ⟨xs, xf, lo, hi, xg, xt, xh⟩ := x
  unfold agSt
  unfold CellSt at hX
  simp only at g11 g12 hf ht hm hX ha ⊢
  obtain ⟨n1, hn1⟩ : ∃ n, n = xf.length := ⟨_, rfl⟩
  obtain ⟨n2, hn2⟩ : ∃ n, n = xh.length := ⟨_, rfl⟩
  simp only [← hn1, ← hn2] at hm hX ha g12 ⊢
  have HB := Lib.hid ha
  have HM := Lib.hid hm
  have HF := Lib.hid hf
  have HT := Lib.hid ht
  obtain ⟨p0, p1, p2, p3, p4, p5, p6⟩ := hX
  clear ha hm hf ht hn1 hn2
  cases xg
  · have HR := Lib.hid (HF.out rfl)
    clear HF HT HM
    cases z1
    all_goals
      go_enter Tryz.func77, Tryz.ntmps77
      go_wp2_with fail
      go_ret
      exact ⟨ret_v (by rw [HR.out]; rfl), HB.out⟩
  · have HR := Lib.hid (HT.out rfl)
    clear HF HT g11 g12
    go_enter Tryz.func77, Tryz.ntmps77
    go_wp2_with fail
    refine HM.out.mono ?_
    rintro e w2 ⟨rfl, hb2⟩
    have HB2 := Lib.hid (bt HB.out hb2)
    clear hb2
    go_wp2_with fail
    go_ret
    exact ⟨ret_v (x := .bool z3) (by rw [HR.out]), HB2.out⟩

/-- May a step be, wherever it stands? -/
def StMay (x : St) : Prop := (1 ≤ x.lo ∧ x.lo ≤ x.hi ∧ x.hi ≤ 4) ∧ (ExM.May x.f ∧ Nm x.s) ∧ GuMay x
instance (x : St) : Decidable (StMay x) := by unfold StMay; infer_instance

theorem stOk_may {x : St} {first last : Prop} : StOk x first last ↔ StMay x ∧ (last → x.lo = x.hi) ∧ (x.g = true → ¬ first) := by
  unfold StOk StMay GuMay
  constructor
  · rintro ⟨h1, h2, h3, h4, h5, h6, h7, h8⟩
    exact ⟨⟨⟨h3, h4, h5⟩, ⟨h2, h1⟩, h7, fun e => ⟨(h8 e).2.2, (h8 e).2.1⟩⟩, h6, fun e => (h8 e).1⟩
  · rintro ⟨⟨⟨h3, h4, h5⟩, ⟨h2, h1⟩, h7, h8⟩, h6, h9⟩
    exact ⟨h1, h2, h3, h4, h5, h6, h7, fun e => ⟨h9 e, (h8 e).2, (h8 e).1⟩⟩

theorem mayWays (z1 z2 z3 z4 : Bool) : (z1 = false ∨ (z1 = true ∧ z2 = false) ∨ (z1 = true ∧ z2 = true ∧ z3 = false)) ∨ (z1 = true ∧ z2 = true ∧ z3 = true ∧ z4 = false) ∨ (z1 = true ∧ z2 = true ∧ z3 = true ∧ z4 = true) := by
  cases z1 <;> cases z2 <;> cases z3 <;> cases z4 <;> simp

set_option maxRecDepth 100000 in
set_option maxHeartbeats 4000000 in
theorem mayStep_any (x : St) (A : Option Addr) (c : Nat) (B : Option Addr) (d : Nat) (w : World) (hA : SlO w A x.f c) (hB : SlO w B x.h d) (hz : FineSt x) :
    Calls Tryz.prog 46 #[agSt x A c B d] w fun e w' => e = .returned (.bool (decide (StMay x))) ∧ Below w.heap.size w w' := by
  have hX := (bxSt_new w x A c B d).cells
  have ha := (Below.refl w.heap.size w).alloc (Nat.le_refl _) (.cells #[.string x.s, .slice A x.f.length c, .int .i64 x.lo, .int .i64 x.hi, .bool x.g, .string x.t, .slice B x.h.length d] 47)
  have hm := mayAsk_any x.s x.f A c _ hz.1.1 (hA.kept ha)
  have hgu := fun W (h : Below w.heap.size w W) => mayGuard_any x A c B d W (hB.kept h) hz
  obtain ⟨z1, g1⟩ : ∃ z, decide (1 ≤ x.lo) = z := ⟨_, rfl⟩
  obtain ⟨z2, g2⟩ : ∃ z, decide (x.lo ≤ x.hi) = z := ⟨_, rfl⟩
  obtain ⟨z3, g3⟩ : ∃ z, decide (x.hi ≤ 4) = z := ⟨_, rfl⟩
  obtain ⟨z4, g4⟩ : ∃ z, decide (ExM.May x.f ∧ Nm x.s) = z := ⟨_, rfl⟩
  obtain ⟨z5, g5⟩ : ∃ z, decide (GuMay x) = z := ⟨_, rfl⟩
  have hr : decide (StMay x) = ((z1 && (z2 && z3)) && (z4 && z5)) := by
    rw [← g1, ← g2, ← g3, ← g4, ← g5, ← Bool.decide_and, ← Bool.decide_and, ← Bool.decide_and, ← Bool.decide_and]
    rfl
  rw [hr]
  rw [g4] at hm
  simp only [g5] at hgu
  unfold agSt at hgu ⊢
  unfold CellSt at hX
  have HA0 := Lib.hid (bxSt_new w x A c B d)
  clear hr g4 g5 hA hB hz
  obtain ⟨xs, xf, lo, hi, xg, xt, xh⟩ := x
  unfold BxSt encSt at HA0
  simp only at hm hgu hX ha g1 g2 g3 HA0 ⊢
  obtain ⟨n1, hn1⟩ : ∃ n, n = xf.length := ⟨_, rfl⟩
  obtain ⟨n2, hn2⟩ : ∃ n, n = xh.length := ⟨_, rfl⟩
  simp only [← hn1, ← hn2] at hm hgu hX ha HA0 ⊢
  have HB := Lib.hid ha
  have HM := Lib.hid hm
  have HG := Lib.hid hgu
  obtain ⟨p0, p1, p2, p3, p4, p5, p6⟩ := hX
  clear ha hm hgu hn1 hn2
  rcases mayWays z1 z2 z3 z4 with hbad | ⟨rfl, rfl, rfl, rfl⟩ | ⟨rfl, rfl, rfl, rfl⟩
  · have HR := Lib.hid (show ((z1 && (z2 && z3)) && (z4 && z5)) = false from by rcases hbad with h | ⟨h, h'⟩ | ⟨h, h', h''⟩ <;> simp [*])
    rw [HR.out]
    clear HM HG
    rcases hbad with rfl | ⟨rfl, rfl⟩ | ⟨rfl, rfl, rfl⟩
    all_goals
      go_enter Tryz.func46, Tryz.ntmps46
      go_wp2_with fail
      go_ret
      exact ⟨rfl, HB.out⟩
  · go_enter Tryz.func46, Tryz.ntmps46
    go_wp2_with fail
    refine HM.out.mono ?_
    rintro e w2 ⟨rfl, hb2⟩
    have HB2 := Lib.hid (bt HB.out hb2)
    clear hb2
    go_wp2_with fail
    go_ret
    exact ⟨rfl, HB2.out⟩
  · go_enter Tryz.func46, Tryz.ntmps46
    go_wp2_with fail
    refine HM.out.mono ?_
    rintro e w2 ⟨rfl, hb2⟩
    have HB2 := Lib.hid (bt HB.out hb2)
    obtain ⟨q0', q1', q2', q3', q4', q5', q6'⟩ := bx7 (RG.BxN.kept HA0.out hb2)
    clear hb2 p0 p1 p2 p3 p4 p5 p6
    go_wp2_with fail
    refine (HG.out _ HB2.out).mono ?_
    rintro e w3 ⟨rfl, hb3⟩
    have HB3 := Lib.hid (bt HB2.out hb3)
    clear hb3
    go_wp2_with fail
    go_ret
    exact ⟨rfl, HB3.out⟩

/-- May what stands behind the steps be? -/
def TellMay (q : Q) : Prop := ¬ (q.a = 0 ∧ q.f ≠ 0) ∧ (0 ≤ q.w ∧ q.w < 1125899906842625) ∧ (0 ≤ q.a ∧ q.a < 4) ∧ (0 ≤ q.i ∧ q.i < (q.p.length : Int)) ∧ (0 ≤ q.f ∧ q.f < 6)
instance (q : Q) : Decidable (TellMay q) := by unfold TellMay; infer_instance

theorem tellWays (z1 z2 z3 z4 z5 z6 : Bool) : ((z1 = true ∧ z2 = true)) ∨ ((z1 = false ∨ (z1 = true ∧ z2 = false)) ∧ ((z3 = false) ∨ (z3 = true ∧ z4 = false) ∨ (z3 = true ∧ z4 = true ∧ z5 = false) ∨ (z3 = true ∧ z4 = true ∧ z5 = true ∧ z6 = false) ∨ (z3 = true ∧ z4 = true ∧ z5 = true ∧ z6 = true))) := by
  cases z1 <;> cases z2 <;> cases z3 <;> cases z4 <;> cases z5 <;> cases z6 <;> simp

set_option maxRecDepth 100000 in
set_option maxHeartbeats 4000000 in
theorem mayTell_any (q : Q) (A : Option Addr) (c : Nat) (w : World) (hl : q.p.length ≤ 9223372036854775807) :
    Calls Tryz.prog 47 #[agQ q A c] w fun e w' => e = .returned (.bool (decide (TellMay q))) ∧ Below w.heap.size w w' := by
  have hX := (bxQ_new w q A c).cells
  have ha := (Below.refl w.heap.size w).alloc (Nat.le_refl _) (.cells #[.slice A q.p.length c, .int .i64 q.w, .int .i64 q.a, .int .i64 q.i, .int .i64 q.f] 25)
  obtain ⟨z1, g1⟩ : ∃ z, (q.a == 0) = z := ⟨_, rfl⟩
  obtain ⟨z2, g2⟩ : ∃ z, (q.f != 0) = z := ⟨_, rfl⟩
  have h3 := fun W => below_any q.w 1125899906842625 W
  have h4 := fun W => below_any q.a 4 W
  have h5 := fun W => below_any q.i (q.p.length : Int) W
  have h6 := fun W => below_any q.f 6 W
  obtain ⟨z3, g3⟩ : ∃ z, decide (0 ≤ q.w ∧ q.w < 1125899906842625) = z := ⟨_, rfl⟩
  obtain ⟨z4, g4⟩ : ∃ z, decide (0 ≤ q.a ∧ q.a < 4) = z := ⟨_, rfl⟩
  obtain ⟨z5, g5⟩ : ∃ z, decide (0 ≤ q.i ∧ q.i < (q.p.length : Int)) = z := ⟨_, rfl⟩
  obtain ⟨z6, g6⟩ : ∃ z, decide (0 ≤ q.f ∧ q.f < 6) = z := ⟨_, rfl⟩
  have hr : decide (TellMay q) = (!(z1 && z2) && (z3 && (z4 && (z5 && z6)))) := by
    rw [← g1, ← g2, ← g3, ← g4, ← g5, ← g6, ← Bool.decide_and, ← Bool.decide_and, ← Bool.decide_and]
    have hT : TellMay q ↔ ¬ (q.a = 0 ∧ q.f ≠ 0) ∧ (0 ≤ q.w ∧ q.w < 1125899906842625) ∧ (0 ≤ q.a ∧ q.a < 4) ∧ (0 ≤ q.i ∧ q.i < (q.p.length : Int)) ∧ (0 ≤ q.f ∧ q.f < 6) := Iff.rfl
    rw [Bool.eq_iff_iff, Bool.and_eq_true, decide_eq_true_iff, decide_eq_true_iff, hT, Bool.not_eq_true', Bool.and_eq_false_iff, beq_eq_false_iff_ne, bne_eq_false_iff_eq]
    constructor
    · rintro ⟨h1, h2⟩
      refine ⟨?_, h2⟩
      by_cases e : q.a = 0
      · exact Or.inr (Classical.byContradiction fun k => h1 ⟨e, k⟩)
      · exact Or.inl e
    · rintro ⟨h1, h2⟩
      refine ⟨?_, h2⟩
      rintro ⟨e, k⟩
      rcases h1 with h | h
      · exact h e
      · exact k h
  rw [hr]
  simp only [g3] at h3
  simp only [g4] at h4
  simp only [g5] at h5
  simp only [g6] at h6
  unfold agQ
  clear hr g3 g4 g5 g6
  obtain ⟨qp, qw, qa, qi, qf⟩ := q
  simp only at hl hX ha g1 g2 h3 h4 h5 h6 ⊢
  obtain ⟨n, hn⟩ : ∃ n, n = qp.length := ⟨_, rfl⟩
  simp only [← hn] at hl hX ha h5 ⊢
  have HB := Lib.hid ha
  have H3 := Lib.hid h3
  have H4 := Lib.hid h4
  have H5 := Lib.hid h5
  have H6 := Lib.hid h6
  obtain ⟨p0, p1, p2, p3, p4⟩ := hX
  clear ha h3 h4 h5 h6 hn
  rcases tellWays z1 z2 z3 z4 z5 z6 with ⟨rfl, rfl⟩ | ⟨hz, h⟩
  · clear H3 H4 H5 H6
    go_enter Tryz.func47, Tryz.ntmps47
    go_wp2_with fail
    go_ret
    exact ⟨rfl, HB.out⟩
  · have HZ := Lib.hid (show (!(z1 && z2)) = true from by rcases hz with h | ⟨h, h'⟩ <;> simp [*])
    rw [HZ.out]
    rcases hz with rfl | ⟨rfl, rfl⟩
    all_goals
      rcases h with rfl | ⟨rfl, rfl⟩ | ⟨rfl, rfl, rfl⟩ | ⟨rfl, rfl, rfl, rfl⟩ | ⟨rfl, rfl, rfl, rfl⟩
      all_goals
        go_enter Tryz.func47, Tryz.ntmps47
        go_wp2_with fail
        refine (H3.out _).mono ?_
        rintro e w2 ⟨rfl, rfl⟩
        go_wp2_with fail
        first
          | (go_ret
             exact ⟨rfl, HB.out⟩)
          | (refine (H4.out _).mono ?_
             rintro e w3 ⟨rfl, rfl⟩
             go_wp2_with fail
             first
               | (go_ret
                  exact ⟨rfl, HB.out⟩)
               | (refine (H5.out _).mono ?_
                  rintro e w4 ⟨rfl, rfl⟩
                  go_wp2_with fail
                  first
                    | (go_ret
                       exact ⟨rfl, HB.out⟩)
                    | (refine (H6.out _).mono ?_
                       rintro e w5 ⟨rfl, rfl⟩
                       go_wp2_with fail
                       go_ret
                       exact ⟨rfl, HB.out⟩)))
end Go.Proofs.YtbmdkibmfkmjoaaGreat.Qy

namespace Go.Proofs.YtbmdkibmfkmjoaaGreat.Qy
open Go.RowKit Go.Proofs.YtbmdkibmfkmjoaaGreat.BM Go.Proofs.YtbmdkibmfkmjoaaGreat.LM Go.Proofs.YtbmdkibmfkmjoaaGreat.VaM Go.Proofs.YtbmdkibmfkmjoaaGreat.ExM Go.Proofs.YtbmdkibmfkmjoaaGreat.QyM
open Go.Proofs.YtbmdkibmfkmjoaaGreat.Ex (SlO slO_none slO_len)
open Go.Proofs.YtbmdkibmfkmjoaaGreat.Va (ret_v str_e0)

/-- A query is well made, by the questions of the program, in its order. -/
theorem may_well {q : Q} : May q ↔ (1 ≤ q.p.length ∧ q.p.length ≤ 4) ∧ (∀ j, j < q.p.length → StMay (q.p.getD j t0)) ∧ (q.p.getD 0 t0).g = false ∧ (q.p.getD (q.p.length - 1) t0).lo = (q.p.getD (q.p.length - 1) t0).hi ∧ TellMay q := by
  unfold QyM.May StsOk TellMay
  simp only [stOk_may]
  constructor
  · rintro ⟨h1, h2, h3, h4, h5, h6, h7⟩
    refine ⟨h1, fun j hj => (h7 j hj).1, ?_, (h7 _ (by omega)).2.1 (by omega), fun h => h.2 (h6 h.1), ⟨h2.1, by omega⟩, h3, h4, h5⟩
    cases hg : (q.p.getD 0 t0).g with
    | false => rfl
    | true => exact absurd rfl ((h7 0 (by omega)).2.2 hg)
  · rintro ⟨h1, h2, h3, h4, h5, h6, h7, h8, h9⟩
    refine ⟨h1, ⟨h6.1, by omega⟩, h7, h8, h9, fun e => Classical.byContradiction fun k => h5 ⟨e, k⟩, fun j hj => ⟨h2 j hj, fun e => ?_, fun e k => ?_⟩⟩
    · obtain rfl : j = q.p.length - 1 := by omega
      exact h4
    · subst k
      rw [h3] at e
      cases e

set_option maxRecDepth 100000 in
set_option maxHeartbeats 16000000 in
theorem wellMade_any (q : Q) (A : Option Addr) (c : Nat) (w : World) (hS : SlSt w A q.p c) :
    Calls Tryz.prog 22 #[agQ q A c] w fun e w' => e = .returned (.bool (decide (May q))) ∧ Below w.heap.size w w' := by
  have hl := slSt_len hS
  have hmw := @may_well q
  have hX := bxQ_new w q A c
  have ha := (Below.refl w.heap.size w).alloc (Nat.le_refl _) (.cells #[.slice A q.p.length c, .int .i64 q.w, .int .i64 q.a, .int .i64 q.i, .int .i64 q.f] 25)
  have htl := fun W => mayTell_any q A c W hl
  obtain ⟨zt, gt⟩ : ∃ z, decide (TellMay q) = z := ⟨_, rfl⟩
  simp only [gt] at htl
  have HTl' := Lib.hid (show TellMay q ↔ zt = true from by rw [← gt, decide_eq_true_iff])
  rw [HTl'.out] at hmw
  obtain ⟨R, hR⟩ : ∃ R, R = decide (May q) := ⟨_, rfl⟩
  rw [← hR]
  have hr : R = true ↔ May q := by rw [hR, decide_eq_true_iff]
  rw [hmw] at hr
  unfold agQ at htl ⊢
  unfold BxQ encQ at hX
  clear hmw hR HTl' gt
  obtain ⟨qp, qw, qa, qi, qf⟩ := q
  simp only at hS hl hX ha hr htl ⊢
  obtain ⟨n, hn⟩ : ∃ n, n = qp.length := ⟨_, rfl⟩
  simp only [← hn] at hl hX ha hr htl ⊢
  have hfalse : ¬ ((1 ≤ n ∧ n ≤ 4) ∧ (∀ j, j < n → StMay (qp.getD j t0)) ∧ (qp.getD 0 t0).g = false ∧ (qp.getD (n - 1) t0).lo = (qp.getD (n - 1) t0).hi ∧ zt = true) → R = false := fun h => by
    cases R
    · rfl
    · exact absurd (hr.1 rfl) h
  have HFa := Lib.hid hfalse
  have HTr := Lib.hid hr.2
  have HN := Lib.hid hn
  have HS := Lib.hid hS
  have HB := Lib.hid ha
  have HTl := Lib.hid htl
  have HX := Lib.hid hX
  obtain ⟨p0, p1, p2, p3, p4⟩ := bx5 hX
  clear hfalse hr hn hS ha hX htl
  by_cases h1 : n = 0
  · have HR := Lib.hid (HFa.out (by omega))
    subst h1
    go_enter Tryz.func22, Tryz.ntmps22
    go_wp2_with fail
    go_ret
    exact ⟨ret_v (x := .bool false) (by rw [HR.out]), HB.out⟩
  have g1_0 : (n == 0) = false := by simpa using h1
  have g1_1 : ((n : Int) == 0) = false := by simpa using (show (n : Int) ≠ 0 by omega)
  by_cases h2 : n ≤ 4
  rotate_left
  · have HR := Lib.hid (HFa.out (by omega))
    have g2_0 : decide (4 < n) = true := by rw [decide_eq_true_iff]; omega
    have g2_1 : decide ((4 : Int) < (n : Int)) = true := by rw [decide_eq_true_iff]; omega
    go_enter Tryz.func22, Tryz.ntmps22
    go_wp2_with fail
    go_ret
    exact ⟨ret_v (x := .bool false) (by rw [HR.out]), HB.out⟩
  have g2_0 : decide (4 < n) = false := by rw [decide_eq_false_iff_not]; omega
  have g2_1 : decide ((4 : Int) < (n : Int)) = false := by rw [decide_eq_false_iff_not]; omega
  have HTr2 := Lib.hid (fun (hs : ∀ j, j < n → StMay (qp.getD j t0)) => fun h3 h4 h5 => HTr.out ⟨⟨by omega, h2⟩, hs, h3, h4, h5⟩)
  have HFa2 := Lib.hid (fun (h : ¬ ((∀ j, j < n → StMay (qp.getD j t0)) ∧ (qp.getD 0 t0).g = false ∧ (qp.getD (n - 1) t0).lo = (qp.getD (n - 1) t0).hi ∧ zt = true)) => HFa.out (fun k => h k.2))
  clear HTr HFa
  go_enter Tryz.func22, Tryz.ntmps22
  go_wp2_with fail
  obtain ⟨w1, hw1⟩ : ∃ w1, w1 = w.alloc (.cells #[.slice A n c, .int .i64 qw, .int .i64 qa, .int .i64 qi, .int .i64 qf] 25) := ⟨_, rfl⟩
  rw [← hw1] at HB HX ⊢
  have HXk := Lib.hid (fun W h => bx5 (RG.BxN.kept HX.out (w' := W) h))
  clear hw1 p0 p1 p2 p3 p4 HX
  go_loopw [16] (fun i wr => ∃ j : Nat, i = .int .i64 j ∧ j ≤ n ∧ (∀ i, i < j → StMay (qp.getD i t0)) ∧ Below w1.heap.size w1 wr) (fun i _ => n - (intOf i).toNat)
  case atStart => exact ⟨0, rfl, Nat.zero_le _, (fun j hj => absurd hj (Nat.not_lt_zero j)), Below.refl _ _⟩
  case round =>
    obtain ⟨j, rfl, hj, hall, hbel⟩ := hrel
    have HAl := Lib.hid hall
    have HBl := Lib.hid hbel
    obtain ⟨p0, p1, p2, p3, p4⟩ := HXk.out wr hbel
    clear hall hbel
    by_cases hjn : j < n
    · obtain ⟨b1, q1, A1, c1, B1, d1, hix, hc, hfz⟩ := HS.out.at j (by rw [← HN.out]; exact hjn)
      obtain ⟨hcell, hA1, hB1⟩ := hc wr (bt HB.out HBl.out)
      have hi := fun W => hix W n c hjn
      have hst := mayStep_any (qp.getD j t0) A1 c1 B1 d1 wr hA1 hB1 hfz
      obtain ⟨z, hz⟩ : ∃ z, z = decide (StMay (qp.getD j t0)) := ⟨_, rfl⟩
      rw [← hz] at hst
      have HZ := Lib.hid hz
      unfold agSt at hst
      unfold CellSt at hcell
      obtain ⟨x, hx⟩ : ∃ x, x = qp.getD j t0 := ⟨_, rfl⟩
      rw [← hx] at hst hcell
      obtain ⟨x0, x1, x2, x3, x4, x5, x6⟩ := hcell
      obtain ⟨xs, xf, lo, hi', xg, xt, xh⟩ := x
      simp only at hst x0 x1 x2 x3 x4 x5 x6
      obtain ⟨n1, hn1⟩ : ∃ n, n = xf.length := ⟨_, rfl⟩
      obtain ⟨n2, hn2⟩ : ∃ n, n = xh.length := ⟨_, rfl⟩
      rw [← hn1] at hst x1
      rw [← hn2] at hst x6
      have HSt := Lib.hid hst
      clear hc hix hA1 hB1 hfz hst hz hx hn1 hn2
      go_wp2_with fail
      refine HSt.out.mono ?_
      rintro e w3 ⟨rfl, hb3⟩
      have HB3 := Lib.hid (bt HBl.out hb3)
      clear hb3 x0 x1 x2 x3 x4 x5 x6 HSt p0 p1 p2 p3 p4
      cases z
      · have HR := Lib.hid (HFa2.out (fun k => of_decide_eq_false HZ.out.symm (k.1 j hjn)))
        go_wp2_with fail
        go_ret
        exact ⟨ret_v (x := .bool false) (by rw [HR.out]), bt HB.out HB3.out⟩
      · have HSc := Lib.hid (fun i (hi : i < j + 1) => (by
          by_cases e : i = j
          · rw [e]
            exact of_decide_eq_true HZ.out.symm
          · exact HAl.out i (by omega) : StMay (qp.getD i t0)))
        go_wp2_with fail
        go_roundw
        case rel => exact ⟨j + 1, by go_num, by omega, HSc.out, HB3.out⟩
        case measure => simp [intOf]; omega
    · obtain rfl : j = n := by omega
      obtain ⟨b1, q1, A1, c1, B1, d1, hix, hc, _⟩ := HS.out.at (j - 1) (by rw [← HN.out]; omega)
      obtain ⟨b2, q2, A2, c2, B2, d2, hix2, hc2, _⟩ := HS.out.at 0 (by rw [← HN.out]; omega)
      have hcell := (hc wr (bt HB.out HBl.out)).1
      have hi := fun W => hix W j c (by omega)
      have hi2 := fun W => hix2 W j c (by omega)
      rw [show ((j - 1 : Nat) : Int) = (j : Int) - 1 by omega] at hi
      simp only [Int.natCast_zero] at hi2
      have HTr3 := Lib.hid (HTr2.out HAl.out)
      have HFa3 := Lib.hid (fun (h : ¬ ((qp.getD 0 t0).g = false ∧ (qp.getD (j - 1) t0).lo = (qp.getD (j - 1) t0).hi ∧ zt = true)) => HFa2.out (fun k => h k.2))
      obtain ⟨y, hy⟩ : ∃ y, y = qp.getD 0 t0 := ⟨_, rfl⟩
      obtain ⟨x, hx⟩ : ∃ x, x = qp.getD (j - 1) t0 := ⟨_, rfl⟩
      rw [← hy, ← hx] at HTr3 HFa3
      rw [← hx] at hcell
      have hX2 := bxSt_new wr x A1 c1 B1 d1
      have ha2 := (Below.refl wr.heap.size wr).alloc (Nat.le_refl _) (.cells #[.string x.s, .slice A1 x.f.length c1, .int .i64 x.lo, .int .i64 x.hi, .bool x.g, .string x.t, .slice B1 x.h.length d1] 47)
      have hcell2 := (hc2 _ (bt HB.out (bt HBl.out ha2))).1
      have hp2 := HXk.out _ (bt HBl.out ha2)
      rw [← hy] at hcell2
      unfold CellSt at hcell hcell2
      unfold BxSt encSt at hX2
      have hxx := bx7 hX2
      obtain ⟨x0, x1, x2, x3, x4, x5, x6⟩ := hcell
      obtain ⟨xs, xf, lo, hi', xg, xt, xh⟩ := x
      simp only at x0 x1 x2 x3 x4 x5 x6 hxx hcell2 ha2 HTr3 HFa3 hp2
      obtain ⟨n1, hn1⟩ : ∃ n, n = xf.length := ⟨_, rfl⟩
      obtain ⟨n2, hn2⟩ : ∃ n, n = xh.length := ⟨_, rfl⟩
      simp only [← hn1, ← hn2] at x0 x1 x2 x3 x4 x5 x6 hxx hcell2 ha2 hp2
      obtain ⟨r0, r1, r2, r3, r4, r5, r6⟩ := hxx
      obtain ⟨y0, y1, y2, y3, y4, y5, y6⟩ := hcell2
      obtain ⟨s0, s1, s2, s3, s4⟩ := hp2
      have HB4 := Lib.hid (bt HBl.out ha2)
      obtain ⟨z1, g1⟩ : ∃ z, y.g = z := ⟨_, rfl⟩
      obtain ⟨z2, g2⟩ : ∃ z, (lo == hi') = z := ⟨_, rfl⟩
      rw [g1] at y4 HTr3 HFa3
      have e2 : lo = hi' ↔ z2 = true := by rw [← g2, beq_iff_eq]
      rw [e2] at HTr3 HFa3
      clear hc hix hc2 hix2 hx hy hn1 hn2 hX2 ha2 HTr2 HFa2 e2 y0 y1 y2 y3 y5 y6 g1
      rcases (show (z1 = true ∨ (z1 = false ∧ z2 = false)) ∨ (z1 = false ∧ z2 = true) from by cases z1 <;> cases z2 <;> simp) with hbad | ⟨rfl, rfl⟩
      · have HR := Lib.hid (HFa3.out (by
          rintro ⟨k1, k2, _⟩
          subst k1 k2
          simp at hbad))
        clear HTr3 HFa3
        rcases hbad with rfl | ⟨rfl, rfl⟩
        all_goals
          go_wp2_with fail
          go_ret
          exact ⟨ret_v (x := .bool false) (by rw [HR.out]), bt HB.out HB4.out⟩
      · have HR := Lib.hid (show R = zt from by
          cases zt
          · exact HFa3.out (fun k => by cases k.2.2)
          · exact HTr3.out rfl rfl rfl)
        clear HTr3 HFa3
        go_wp2_with fail
        refine (HTl.out _).mono ?_
        rintro e w5 ⟨rfl, hb5⟩
        have HB5 := Lib.hid (bt HB4.out hb5)
        clear hb5
        go_wp2_with fail
        go_ret
        exact ⟨ret_v (x := .bool zt) (by rw [HR.out]), bt HB.out HB5.out⟩
end Go.Proofs.YtbmdkibmfkmjoaaGreat.Qy
