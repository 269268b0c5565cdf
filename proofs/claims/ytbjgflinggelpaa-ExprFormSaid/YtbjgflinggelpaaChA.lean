/- Several texts in one: what this layer has; what each asks is said at each theorem. -/
import Derived.Test.YtbjgflinggelpaaSchemaRd
import Derived.Test.YtbjgflinggelpaaBx
import Derived.Test.YtbjgflinggelpaaSlCut
import Derived.Test.YtbjgflinggelpaaRegAppend
import Derived.Test.YtbjgflinggelpaaExprThing
import Derived.Test.YtbjgflinggelpaaExprAs
import Derived.Test.YtbjgflinggelpaaExprAlike
import Derived.Test.YtbjgflinggelpaaExprLessOwn
import Derived.Test.YtbjgflinggelpaaExprJudge
import Derived.Test.YtbjgflinggelpaaOpRow
import Derived.Test.YtbjgflinggelpaaValueHeld
import Derived.Test.YtbjgflinggelpaaExprMath
import Derived.Test.YtbjgflinggelpaaExprGoes
import Derived.Test.YtbjgflinggelpaaValueEq
import Derived.Test.YtbjgflinggelpaaValueRefMay
import Derived.BigQuiet
import Derived.Test.YtbjgflinggelpaaSchemaMath
import Derived.Test.YtbjgflinggelpaaStrCore
import Derived.Laws.RangeAny
import Derived.Test.YtbjgflinggelpaaEventMath
import Derived.Test.YtbjgflinggelpaaValueRow
import Derived.Test.YtbjgflinggelpaaRegion
import Derived.Test.YtbjgflinggelpaaExprThrough
import Derived.Test.YtbjgflinggelpaaLeZig
import Derived.Test.YtbjgflinggelpaaValueTail
import Derived.Test.YtbjgflinggelpaaSlB
import Derived.Test.YtbjgflinggelpaaLeMem
import Derived.Test.YtbjgflinggelpaaLeZigMath
import Derived.Deep.QuietTactic
import Derived.Test.YtbjgflinggelpaaPutSl

namespace Go.Proofs.Ytbjgflinggelpaa.Sc
open Go.RowKit Go.Proofs.Ytbjgflinggelpaa.BM Go.Proofs.Ytbjgflinggelpaa.LM Go.Proofs.Ytbjgflinggelpaa.LeM Go.Proofs.Ytbjgflinggelpaa.VaM Go.Proofs.Ytbjgflinggelpaa.Va Go.Proofs.Ytbjgflinggelpaa.ScM

theorem grown_set (w : World) (b i : Nat) (u : Value) : w.grownBy (w.setCell ⟨b, i, none⟩ u) (some b) := by
  have h := (Below.refl 0 w).setCell (p := ⟨b, i, none⟩) (Nat.zero_le _) u
  exact ⟨h.os, h.tape, h.output, h.size, fun k _ hne => Below.heap_setCell w _ u k (fun e => hne (by rw [e]))⟩

theorem grown_trans {a b c : World} {r : Option Nat} (h : a.grownBy b r) (k : b.grownBy c r) : a.grownBy c r :=
  ⟨k.os.trans h.os, k.tape.trans h.tape, k.output.trans h.output, Nat.le_trans h.size k.size, fun i hi hne => (k.block i (Nat.lt_of_lt_of_le hi h.size) hne).trans (h.block i hi hne)⟩

/-- What a method leaves of the reader. -/
def Rdd (b : Nat) (A : Option Addr) (c : Nat) (xs : List Int) (w : World) (r : Rs) (w' : World) : Prop :=
  w.grownBy w' (some b) ∧ ∃ A' c', Bx2 w' b (.slice A' r.1.length c') (.bool r.2) ∧ ∀ W, SlB W A xs c → SlB W A' r.1 c'

theorem Rdd.trans {b : Nat} {A : Option Addr} {c : Nat} {xs : List Int} {w w1 w2 : World} {r1 r2 : Rs} {A' : Option Addr} {c' : Nat} (hg : w.grownBy w1 (some b)) (hW : ∀ W, SlB W A xs c → SlB W A' r1.1 c') (k : Rdd b A' c' r1.1 w1 r2 w2) : Rdd b A c xs w r2 w2 := by
  obtain ⟨h1, A2, c2, h2, h3⟩ := k
  exact ⟨grown_trans hg h1, A2, c2, h2, fun W h => h3 W (hW W h)⟩

/-- Bytes elsewhere stay. -/
theorem slB_grown {w w' : World} {A : Option Addr} {xs : List Int} {c b : Nat} (h : SlB w A xs c) (hg : w.grownBy w' (some b)) (hb : ∀ a, A = some a → a.block ≠ b) : SlB w' A xs c := by
  refine ⟨⟨h.1.1, fun hx => ?_⟩, h.2⟩
  obtain ⟨g, o, e, hc⟩ := h.1.2 hx
  exact ⟨g, o, e, fun j hj => hg.cell (hc j hj) (fun e' => hb _ e (by injection e'))⟩
end Go.Proofs.Ytbjgflinggelpaa.Sc

namespace Go.Proofs.Ytbjgflinggelpaa.Ex
open Go.RowKit Go.Proofs.Ytbjgflinggelpaa.BM Go.Proofs.Ytbjgflinggelpaa.LM Go.Proofs.Ytbjgflinggelpaa.VaM Go.Proofs.Ytbjgflinggelpaa.Va Go.Proofs.Ytbjgflinggelpaa.ExM Go.Proofs.Ytbjgflinggelpaa.EvM
open Go.Proofs.Ytbjgflinggelpaa.Sc (grown_set grown_trans)

/-- A thing's own cell. -/
def encT (v : V) : List Value := [th v]
theorem th_one (v : V) : (th v).oneCell' = true := by
  unfold th
  split
  · rfl
  · split
    · rfl
    · split <;> rfl
theorem th_is (v : V) : ∃ T u, th v = .iface T u := by
  unfold th
  split
  · exact ⟨_, _, rfl⟩
  · split
    · exact ⟨_, _, rfl⟩
    · split <;> exact ⟨_, _, rfl⟩
/-- How a thing lies. -/
def KT : RG.Kind V := RG.flat 1 encT (fun _ => rfl) (fun v u hu => by
  obtain rfl := List.mem_singleton.1 hu
  exact th_one v)

theorem tyT : RG.Ty 65 69 1 16 .nilIface :=
  ⟨by kernel_rfl, by kernel_rfl, by kernel_rfl, fun _ => by kernel_rfl, rfl, by decide, by decide⟩

/-- Things: a row of the call's own, of values that may be. -/
def Things (base : Nat) (p : List V) (u : Value) (w : World) : Prop := w.ownsRow base 69 1 u p.length (p.flatMap encT) ∧ ∀ x ∈ p, VaM.May x ∧ Rng x

theorem things_nil (base : Nat) (w : World) : Things base [] (.slice none 0 0) w := ⟨World.ownsRow_nil _ _ _ _, fun x hx => by cases hx⟩
theorem Things.kept {base : Nat} {p : List V} {u : Value} {w w' : World} (h : Things base p u w) (hb : Below w.heap.size w w') : Things base p u w' :=
  ⟨h.1.kept (row := none) ⟨hb.os, hb.tape, hb.output, hb.size, fun k hk _ => hb.block k hk⟩ (by cases u.ownBlock <;> simp), h.2⟩
theorem Things.grown {base b : Nat} {p : List V} {u : Value} {w w' : World} (h : Things base p u w) (hg : w.grownBy w' (some b)) (hb : b < base) : Things base p u w' :=
  ⟨h.1.kept hg (Or.inr (fun e => by have := (h.1.lt _ e).1; omega)), h.2⟩
theorem Things.is {base : Nat} {p : List V} {u : Value} {w : World} (h : Things base p u w) : ∃ A c, u = .slice A p.length c := RG.own_is h.1

theorem flatT_len : ∀ l : List V, (l.flatMap encT).length = l.length
  | [] => rfl
  | x :: l => by rw [List.flatMap_cons, List.length_append, flatT_len l, List.length_cons]; simp only [encT, List.length_cons, List.length_nil]; omega
theorem flatT_map : ∀ l : List V, l.flatMap encT = l.map th
  | [] => rfl
  | x :: l => by rw [List.flatMap_cons, flatT_map l]; rfl

theorem Things.cut {base : Nat} {p : List V} {A : Option Addr} {c : Nat} {w : World} (h : Things base p (.slice A p.length c) w) (k : Nat) (hk : k ≤ p.length) : k ≤ c ∧ Things base (p.take k) (.slice A k c) w := by
  have hlen : (p.take k).length = k := by rw [List.length_take, Nat.min_eq_left hk]
  rcases h.1.2 with ⟨hv, h0⟩ | ⟨g, cap, cur, hv, hg, hh, hcap, hmx, hs, ht⟩
  · injection hv with h1 h2 h3
    subst h1 h3
    obtain rfl : k = 0 := by omega
    exact ⟨Nat.le_refl _, things_nil _ _⟩
  · injection hv with h1 h2 h3
    subst h1 h3
    refine ⟨by omega, ⟨⟨by rw [flatT_len, Nat.mul_one], ?_⟩, fun x hx => h.2 x (List.mem_of_mem_take hx)⟩⟩
    rw [hlen]
    refine Or.inr ⟨g, c, cur, rfl, hg, hh, by omega, hmx, hs, ?_⟩
    rw [flatT_map] at ht
    rw [flatT_map, List.map_take, ← ht, List.take_take, Nat.min_eq_left (by omega), Nat.mul_one]

/-- The i-th of them. -/
theorem Things.at {base : Nat} {p : List V} {A : Option Addr} {c : Nat} {w : World} (h : Things base p (.slice A p.length c) w) (i : Nat) (hi : i < p.length) :
    ∃ g, base ≤ g ∧ (∀ W, (Instr.indexAt 65 (.slice A p.length c) (.int .i64 (i : Int))).run Try.prog W = .ok (.pointer (some ⟨g, i, none⟩)) W) ∧ w.cell? ⟨g, i, none⟩ = some (th (p.getD i v0)) := by
  rcases h.1.2 with ⟨_, h0⟩ | ⟨g, cap, cur, hv, hg, _⟩
  · omega
  · injection hv with h1 h2 h3
    subst h1 h3
    refine ⟨g, hg, fun W => ?_, ?_⟩
    · have := tyT.index W g 0 p.length c i hi
      rw [Nat.zero_add, Nat.mul_one] at this
      exact this
    · rw [h.1.cellAt i (by omega), flatT_map, List.getElem?_map, List.getD_eq_getElem?_getD, List.getElem?_eq_getElem hi]
      rfl

/-- A new thing in a block of its own. -/
theorem thing_new (w : World) (x : V) : RG.SlG KT (fun _ => True) (w.alloc (.cells #[th x] 69)) (some ⟨w.heap.size, 0, none⟩) [x] 1 := by
  obtain ⟨h1, h2⟩ := RG.elem_new (K := KT) (p := fun _ => True) w 69 x (encT x) rfl
  exact ⟨⟨_, h1, h2⟩, Nat.le_refl _, (fun h => by cases h), by decide⟩

/-- append of things onto a row of the call's own. -/
theorem wp_append_t {w : World} {ops : Array Oper} {rest : List Oper} {o : Oper} {a : Act} {Q : Exit → Act → World → Prop} (hgd : o.guard = none) (s x : Operand)
    (ho : o.op = .call { callee := .builtin .append, args := #[s, x], argTypes := #[65, 65] })
    (base : Nat) (v : Value) (n : Nat) (l : List V) (hs : a.eval s = v) (hown : w.ownsRow base 69 1 v n (l.flatMap encT))
    (A : Option Addr) (m c : Nat) (r : List V) (hx : a.eval x = .slice A m c) (hm : r.length = m) (hB : RG.SlG KT (fun _ => True) w A r c)
    (hsz : n + m ≤ 1000000000) (hbase : base ≤ w.heap.size)
    (hk : ∀ v' w', w'.ownsRow base 69 1 v' (n + m) ((l ++ r).flatMap encT) → w.grownBy w' v.ownBlock → wpList Try.prog ops Q rest (a.put o.dst v') w') : wpList Try.prog ops Q (o :: rest) a w := by
  obtain ⟨⟨vs, h1, h2⟩, _, h3, _⟩ := hB
  have hv : ∀ (l : List V) (vs : List Value), RG.Elems KT (fun _ => True) w l vs → vs = l.flatMap encT := by
    intro l
    induction l with
    | nil => intro vs h; exact h
    | cons x l ih =>
      rintro vs ⟨cs, rest, rfl, hc, hr⟩
      rw [ih rest hr, show cs = encT x from hc]
      rfl
  have hE : ∀ (q : Nat → Prop) (l : List V), RG.Elems KT q w l (l.flatMap encT) := by
    intro q l
    induction l with
    | nil => rfl
    | cons x l ih => exact ⟨encT x, l.flatMap encT, rfl, rfl, ih⟩
  obtain rfl := hv r vs h2
  refine tyT.wp_append (K := KT) (fun _ => True) hgd s x ho base v n (l.flatMap encT) l hs hown (hE _ l) A m c (r.flatMap encT) r hx hm h1 (hE _ r) h3 hsz hbase fun v' w' g1 _ g3 => hk v' w' ?_ g3
  rw [List.flatMap_append]
  exact g1

/-- The pile, its block, and the values that a Load finds. -/
structure Held (b : Nat) (vs : List V) (L : Option Addr) (vc : Nat) (kb : Bool) (p : List V) (w : World) : Prop where
  box : ∃ A c, Bx w b (.slice A p.length c) (.slice L vs.length vc) (.bool kb) ∧ Things (b + 1) p (.slice A p.length c) w
  vals : ∀ W, Below b w W → SlV W L vs vc

section
variable {b vc : Nat} {vs p : List V} {L : Option Addr} {kb : Bool} {w w' : World}
theorem Held.lt (h : Held b vs L vc kb p w) : b < w.heap.size := by
  obtain ⟨A, c, hB, _⟩ := h.box
  exact hB.lt
theorem Held.kept (h : Held b vs L vc kb p w) (hb : Below w.heap.size w w') : Held b vs L vc kb p w' := by
  have hlt := h.lt
  obtain ⟨A, c, hB, hT⟩ := h.box
  exact ⟨⟨A, c, hB.kept hb, hT.kept hb⟩, fun W hW => h.vals W ((hb.mono (by omega)).trans hW)⟩

theorem below_of_grown (h : w.grownBy w' (some b)) (hb : b ≤ w.heap.size) : Below b w w' := (Below.refl b w).grown h hb (fun k e => by injection e with e; omega)
theorem grown_of_below {r : Option Nat} (h : Below w.heap.size w w') : w.grownBy w' r := ⟨h.os, h.tape, h.output, h.size, fun k hk _ => h.block k hk⟩
theorem bxG {g : Nat} {v0 v1 v2 : Value} (h : Bx w g v0 v1 v2) (hg : w.grownBy w' (some b)) (hne : g ≠ b) : Bx w' g v0 v1 v2 := h.grown hg (fun e => hne (by injection e))
end
end Go.Proofs.Ytbjgflinggelpaa.Ex

namespace Go.Proofs.Ytbjgflinggelpaa.Ex
open Go.RowKit Go.Proofs.Ytbjgflinggelpaa.BM Go.Proofs.Ytbjgflinggelpaa.LM Go.Proofs.Ytbjgflinggelpaa.VaM Go.Proofs.Ytbjgflinggelpaa.Va Go.Proofs.Ytbjgflinggelpaa.ExM Go.Proofs.Ytbjgflinggelpaa.EvM
open Go.Proofs.Ytbjgflinggelpaa.Sc (grown_set grown_trans)

section
variable {b vc : Nat} {vs p : List V} {L : Option Addr} {kb : Bool} {w : World}

set_option maxRecDepth 100000 in
theorem take_none (h : Held b vs L vc kb [] w) : Calls Try.prog 75 #[.pointer (some ⟨b, 0, none⟩)] w fun e w' => e = .returned (.tuple #[.nilIface, .bool false]) ∧ w = w' := by
  obtain ⟨A, c, hB, _⟩ := h.box
  rw [List.length_nil] at hB
  obtain ⟨⟨p0, p1, p2⟩, _⟩ := hB
  clear h
  go_enter Try.func75, Try.ntmps75
  go_wp2_with fail
  go_ret2
  exact ⟨rfl, rfl⟩

set_option maxRecDepth 100000 in
theorem take_some (h : Held b vs L vc kb p w) (hp : 0 < p.length) (hn : p.length ≤ 1000) : Calls Try.prog 75 #[.pointer (some ⟨b, 0, none⟩)] w fun e w' =>
    e = .returned (.tuple #[th (p.getD (p.length - 1) v0), .bool true]) ∧ Held b vs L vc kb (p.take (p.length - 1)) w' ∧ w.grownBy w' (some b) := by
  have hlt := h.lt
  obtain ⟨A, c, hB, hT⟩ := h.box
  obtain ⟨g, hg, hix, hc⟩ := hT.at (p.length - 1) (by omega)
  obtain ⟨hkc, hT2⟩ := hT.cut (p.length - 1) (by omega)
  have hcut := fun W => tyT.cut W A p.length c (p.length - 1) hkc
  have hlen : (p.take (p.length - 1)).length = p.length - 1 := by rw [List.length_take]; omega
  have hset := grown_set w b 0 (.slice A (p.length - 1) c)
  have hH : Held b vs L vc kb (p.take (p.length - 1)) (w.setCell ⟨b, 0, none⟩ (.slice A (p.length - 1) c)) :=
    ⟨⟨A, c, by rw [hlen]; exact bx_set0 hB _, by rw [hlen]; exact hT2.grown hset (Nat.lt_succ_self _)⟩, fun W hW => h.vals W ((below_of_grown hset (by omega)).trans hW)⟩
  obtain ⟨x, hx⟩ : ∃ x, x = th (p.getD (p.length - 1) v0) := ⟨_, rfl⟩
  obtain ⟨q, hq⟩ : ∃ q, q = p.take (p.length - 1) := ⟨_, rfl⟩
  rw [← hx] at hc ⊢
  rw [← hq] at hH ⊢
  obtain ⟨n, hn'⟩ : ∃ n, n = p.length := ⟨_, rfl⟩
  simp only [← hn'] at hB hix hcut hp hset hH hc hn
  obtain ⟨⟨p0, p1, p2⟩, p3, _⟩ := hB
  have HH := Lib.hid hH
  have HS := Lib.hid hset
  have g1 : decide ((n : Int) - 1 < 0) = false := by rw [decide_eq_false_iff_not]; omega
  rw [show ((n - 1 : Nat) : Int) = (n : Int) - 1 from by omega] at hix hcut
  clear h hT hT2 hx hq hlen hH hset hkc hlt hn'
  go_enter Try.func75, Try.ntmps75
  go_wp2_with fail
  go_ret2
  exact ⟨rfl, HH.out, HS.out⟩

set_option maxRecDepth 100000 in
theorem load_any (h : Held b vs L vc kb p w) (hv : ∀ x ∈ vs, VaM.May x ∧ Rng x) (n : Int) (h0 : 0 ≤ n) (h6 : n ≤ 1000) : Calls Try.prog 73 #[.pointer (some ⟨b, 0, none⟩), .int .i64 n] w fun e w' =>
    e = .returned (laid (if n.toNat < vs.length then (vs.getD n.toNat v0, 0) else (v0, 3))) ∧ Below w.heap.size w w' := by
  obtain ⟨k, rfl⟩ := Int.eq_ofNat_of_zero_le h0
  rw [Int.toNat_natCast]
  have hlt := h.lt
  have hS := h.vals w (Below.refl _ _)
  obtain ⟨A, c, hB, hT⟩ := h.box
  have hbig := slV_len hS
  by_cases hk : k < vs.length
  · obtain ⟨b1, q1, hix, hc, _⟩ := hS.at v0 k hk
    have hof := fun W => thingOf_any (vs.getD k v0) W (hv _ (EvM.getD_mem hk)).1
    rw [if_pos hk, laid_ok]
    obtain ⟨x, hx⟩ : ∃ x, x = th (vs.getD k v0) := ⟨_, rfl⟩
    simp only [← hx] at hof
    rw [← hx]
    obtain ⟨c0, c1, c2⟩ := hc w (Below.refl _ _)
    obtain ⟨⟨vk, vn, vz⟩, hvv⟩ : ∃ v, v = vs.getD k v0 := ⟨_, rfl⟩
    rw [← hvv] at c0 c1 c2
    simp only [← hvv] at hof
    simp only at c0 c1 c2
    have HOf := Lib.hid hof
    have hi := fun W => hix W vs.length vc hk
    obtain ⟨n, hn⟩ : ∃ n, n = vs.length := ⟨_, rfl⟩
    simp only [← hn] at hB hi hbig hk
    obtain ⟨⟨p0, p1, p2⟩, _⟩ := hB
    have g1 : decide ((n : Int) ≤ (k : Int)) = false := by rw [decide_eq_false_iff_not]; omega
    have g2 : decide (n ≤ k) = false := by rw [decide_eq_false_iff_not]; omega
    clear h hT hS hix hc hx hof hvv hn hv
    go_enter Try.func73, Try.ntmps73
    go_wp2_with fail
    refine (HOf.out _).mono ?_
    rintro e w1 ⟨rfl, hb1⟩
    go_wp2_with fail
    go_ret2
    exact ⟨rfl, hb1⟩
  · rw [if_neg hk, laid_no _ (by decide)]
    obtain ⟨n, hn⟩ : ∃ n, n = vs.length := ⟨_, rfl⟩
    rw [← hn] at hB hbig hk
    obtain ⟨⟨p0, p1, p2⟩, _⟩ := hB
    have g1 : decide ((n : Int) ≤ (k : Int)) = true := by rw [decide_eq_true_iff]; omega
    have g2 : decide (n ≤ k) = true := by rw [decide_eq_true_iff]; omega
    clear h hT hS hn hv
    go_enter Try.func73, Try.ntmps73
    go_wp2_with fail
    go_ret2
    exact ⟨rfl, Below.refl _ _⟩

set_option maxRecDepth 100000 in
theorem not_none (h : Held b vs L vc kb [] w) : Calls Try.prog 74 #[.pointer (some ⟨b, 0, none⟩)] w fun e w' => e = .returned (laid (v0, 2)) ∧ w = w' := by
  rw [laid_no _ (by decide)]
  have HT := Lib.hid (take_none h)
  clear h
  go_enter Try.func74, Try.ntmps74
  go_wp2_with fail
  refine HT.out.mono ?_
  rintro e w1 ⟨rfl, rfl⟩
  go_wp2_with fail
  go_ret2
  exact ⟨rfl, rfl⟩

set_option maxRecDepth 100000 in
theorem not_some (h : Held b vs L vc kb p w) (hp : 0 < p.length) (hn : p.length ≤ 1000) : Calls Try.prog 74 #[.pointer (some ⟨b, 0, none⟩)] w fun e w' =>
    e = .returned (laid (if (p.getD (p.length - 1) v0).k ≠ 1 then (v0, 5) else (truth (decide ((p.getD (p.length - 1) v0).n = 0)), 0))) ∧ Held b vs L vc kb (p.take (p.length - 1)) w' ∧ w.grownBy w' (some b) := by
  have HT := Lib.hid (take_some h hp hn)
  have hm : VaM.May (p.getD (p.length - 1) v0) := by
    obtain ⟨A, c, _, hT⟩ := h.box
    exact (hT.2 _ (EvM.getD_mem (l := p) (i := p.length - 1) (by omega))).1
  obtain ⟨q, hq⟩ : ∃ q, q = p.take (p.length - 1) := ⟨_, rfl⟩
  rw [← hq] at HT ⊢
  obtain ⟨x, hx⟩ : ∃ x, x = p.getD (p.length - 1) v0 := ⟨_, rfl⟩
  rw [← hx] at HT hm ⊢
  clear h hx hq hp hn
  rcases may_ways hm with ⟨n, rfl⟩ | ⟨x, rfl⟩ | ⟨s, rfl⟩ | ⟨n, rfl⟩
  · rw [if_pos (show (0 : Int) ≠ 1 by decide), laid_no _ (by decide)]
    rw [th_0] at HT
    have z0 := as_0_1
    clear hm
    go_enter Try.func74, Try.ntmps74
    go_wp2_with fail
    refine HT.out.mono ?_
    rintro e w1 ⟨rfl, hh, hg⟩
    go_wp2_with fail
    go_ret2
    exact ⟨rfl, hh, hg⟩
  · rw [if_neg (show ¬ (truth x).k ≠ 1 from fun h => h rfl), laid_ok, th_1]
    rw [th_1] at HT
    have z0 := as_1_1
    clear hm
    cases x
    all_goals
      go_enter Try.func74, Try.ntmps74
      go_wp2_with fail
      refine HT.out.mono ?_
      rintro e w1 ⟨rfl, hh, hg⟩
      go_wp2_with fail
      go_ret2
      exact ⟨rfl, hh, hg⟩
  · rw [if_pos (show (2 : Int) ≠ 1 by decide), laid_no _ (by decide)]
    rw [th_2] at HT
    have z0 := as_2_1
    clear hm
    go_enter Try.func74, Try.ntmps74
    go_wp2_with fail
    refine HT.out.mono ?_
    rintro e w1 ⟨rfl, hh, hg⟩
    go_wp2_with fail
    go_ret2
    exact ⟨rfl, hh, hg⟩
  · rw [if_pos (show (3 : Int) ≠ 1 by decide), laid_no _ (by decide)]
    rw [th_3] at HT
    have z0 := as_3_1
    clear hm
    go_enter Try.func74, Try.ntmps74
    go_wp2_with fail
    refine HT.out.mono ?_
    rintro e w1 ⟨rfl, hh, hg⟩
    go_wp2_with fail
    go_ret2
    exact ⟨rfl, hh, hg⟩
end
end Go.Proofs.Ytbjgflinggelpaa.Ex

namespace Go.Proofs.Ytbjgflinggelpaa.Ex
open Go.RowKit Go.Proofs.Ytbjgflinggelpaa.BM Go.Proofs.Ytbjgflinggelpaa.LM Go.Proofs.Ytbjgflinggelpaa.VaM Go.Proofs.Ytbjgflinggelpaa.Va Go.Proofs.Ytbjgflinggelpaa.ExM Go.Proofs.Ytbjgflinggelpaa.EvM

set_option maxRecDepth 100000 in
set_option maxHeartbeats 8000000 in
theorem reckon_any (c : Int) (a b : V) (g : Nat) (u L : Value) (kb : Bool) (w : World) (hB : Bx w g u L (.bool kb)) (ha : VaM.May a) (hb : VaM.May b) (hra : Rng a) (hrb : Rng b) (hc : c = 2 ∨ c = 3 ∨ c = 4) :
    Calls Try.prog 85 #[.pointer (some ⟨g, 0, none⟩), .int .i64 c, th a, th b] w fun e w' => e = .returned (laid (twoW kb c a b)) ∧ Below w.heap.size w w' := by
  have hno : (a.k = 0 ∧ b.k = 0) ∨ twoW kb c a b = (v0, 5) := by
    have key : (a.k = 0 ∧ b.k = 0) ∨ two c a b = (v0, 5) := by
      by_cases h : a.k = b.k
      · by_cases h1 : a.k = 0
        · exact Or.inl ⟨h1, by omega⟩
        · exact Or.inr (two_n h (by omega) (by omega) (by omega) (by omega) h1)
      · exact Or.inr (two_k h)
    rcases key with h | h
    · exact Or.inl h
    · exact Or.inr (by rw [twoW_ok (by rw [h]; show ¬ (5 : Int) = 6; decide), h])
  obtain ⟨⟨p0, p1, p2⟩, _⟩ := hB
  rcases may_ways ha with ⟨n, rfl⟩ | ⟨x, rfl⟩ | ⟨s, rfl⟩ | ⟨n, rfl⟩
  · have z0 := as_0_0
    rcases may_ways hb with ⟨m, rfl⟩ | ⟨y, rfl⟩ | ⟨t, rfl⟩ | ⟨m, rfl⟩
    · have HR := Lib.hid (reckoned_any c n m w hra hrb hc)
      have hw : twoW kb c ⟨0, n, e0⟩ ⟨0, m, e0⟩ = if fits (arith c n m) = true ∨ kb = true then (⟨0, wrap64 (arith c n m), e0⟩, 0) else (v0, 6) := by
        unfold twoW
        rw [two_ar (a := ⟨0, n, e0⟩) (b := ⟨0, m, e0⟩) rfl (by omega) (by omega) (by omega) (by omega) rfl]
        by_cases hf : fits (arith c n m) = true
        · simp only [hf, if_true, true_or]
          rw [wrap_in (fits_iff.1 hf), if_neg (fun h => absurd h.2 (by decide))]
        · simp only [hf]
          cases kb <;> simp
      obtain ⟨R, hR⟩ : ∃ R, R = twoW kb c ⟨0, n, e0⟩ ⟨0, m, e0⟩ := ⟨_, rfl⟩
      rw [← hR]
      rw [← hR] at hw
      rw [th_0, th_0]
      unfold Reck at HR
      obtain ⟨z, hz⟩ : ∃ z, z = fits (arith c n m) := ⟨_, rfl⟩
      obtain ⟨N, hN⟩ : ∃ N, N = wrap64 (arith c n m) := ⟨_, rfl⟩
      rw [← hz, ← hN] at HR hw
      have HW := Lib.hid hw
      clear ha hb hc hno hra hrb hR hw hz hN
      cases z <;> cases kb
      all_goals
        go_enter Try.func85, Try.ntmps85
        go_wp2_with fail
        refine HR.out.mono ?_
        rintro e w1 ⟨rfl, rfl⟩
        go_wp2_with fail
        go_ret2
        exact ⟨ret_v (by rw [HW.out]; rfl), Below.refl _ _⟩
    · rw [th_0, th_1, show twoW kb c ⟨0, n, e0⟩ (truth y) = (v0, 5) from hno.resolve_left (fun h => absurd h.2 (show ¬ (1 : Int) = 0 by decide)), laid_no _ (by decide)]
      have z1 := as_1_0
      clear ha hb hc hno hra hrb
      go_enter Try.func85, Try.ntmps85
      go_wp2_with fail
      go_ret2
      exact ⟨rfl, Below.refl _ _⟩
    · rw [th_0, th_2, show twoW kb c ⟨0, n, e0⟩ (⟨2, 0, t⟩) = (v0, 5) from hno.resolve_left (fun h => absurd h.2 (show ¬ (2 : Int) = 0 by decide)), laid_no _ (by decide)]
      have z1 := as_2_0
      clear ha hb hc hno hra hrb
      go_enter Try.func85, Try.ntmps85
      go_wp2_with fail
      go_ret2
      exact ⟨rfl, Below.refl _ _⟩
    · rw [th_0, th_3, show twoW kb c ⟨0, n, e0⟩ (⟨3, m, e0⟩) = (v0, 5) from hno.resolve_left (fun h => absurd h.2 (show ¬ (3 : Int) = 0 by decide)), laid_no _ (by decide)]
      have z1 := as_3_0
      clear ha hb hc hno hra hrb
      go_enter Try.func85, Try.ntmps85
      go_wp2_with fail
      go_ret2
      exact ⟨rfl, Below.refl _ _⟩
  · rw [th_1, show twoW kb c (truth x) b = (v0, 5) from hno.resolve_left (fun h => absurd h.1 (show ¬ (1 : Int) = 0 by decide)), laid_no _ (by decide)]
    have z0 := as_1_0
    rcases may_ways hb with ⟨m, rfl⟩ | ⟨y, rfl⟩ | ⟨t, rfl⟩ | ⟨m, rfl⟩
    · rw [th_0]
      have z1 := as_0_0
      clear ha hb hc hno hra hrb
      go_enter Try.func85, Try.ntmps85
      go_wp2_with fail
      go_ret2
      exact ⟨rfl, Below.refl _ _⟩
    · rw [th_1]
      have z1 := as_1_0
      clear ha hb hc hno hra hrb
      go_enter Try.func85, Try.ntmps85
      go_wp2_with fail
      go_ret2
      exact ⟨rfl, Below.refl _ _⟩
    · rw [th_2]
      have z1 := as_2_0
      clear ha hb hc hno hra hrb
      go_enter Try.func85, Try.ntmps85
      go_wp2_with fail
      go_ret2
      exact ⟨rfl, Below.refl _ _⟩
    · rw [th_3]
      have z1 := as_3_0
      clear ha hb hc hno hra hrb
      go_enter Try.func85, Try.ntmps85
      go_wp2_with fail
      go_ret2
      exact ⟨rfl, Below.refl _ _⟩
  · rw [th_2, show twoW kb c (⟨2, 0, s⟩) b = (v0, 5) from hno.resolve_left (fun h => absurd h.1 (show ¬ (2 : Int) = 0 by decide)), laid_no _ (by decide)]
    have z0 := as_2_0
    rcases may_ways hb with ⟨m, rfl⟩ | ⟨y, rfl⟩ | ⟨t, rfl⟩ | ⟨m, rfl⟩
    · rw [th_0]
      have z1 := as_0_0
      clear ha hb hc hno hra hrb
      go_enter Try.func85, Try.ntmps85
      go_wp2_with fail
      go_ret2
      exact ⟨rfl, Below.refl _ _⟩
    · rw [th_1]
      have z1 := as_1_0
      clear ha hb hc hno hra hrb
      go_enter Try.func85, Try.ntmps85
      go_wp2_with fail
      go_ret2
      exact ⟨rfl, Below.refl _ _⟩
    · rw [th_2]
      have z1 := as_2_0
      clear ha hb hc hno hra hrb
      go_enter Try.func85, Try.ntmps85
      go_wp2_with fail
      go_ret2
      exact ⟨rfl, Below.refl _ _⟩
    · rw [th_3]
      have z1 := as_3_0
      clear ha hb hc hno hra hrb
      go_enter Try.func85, Try.ntmps85
      go_wp2_with fail
      go_ret2
      exact ⟨rfl, Below.refl _ _⟩
  · rw [th_3, show twoW kb c (⟨3, n, e0⟩) b = (v0, 5) from hno.resolve_left (fun h => absurd h.1 (show ¬ (3 : Int) = 0 by decide)), laid_no _ (by decide)]
    have z0 := as_3_0
    rcases may_ways hb with ⟨m, rfl⟩ | ⟨y, rfl⟩ | ⟨t, rfl⟩ | ⟨m, rfl⟩
    · rw [th_0]
      have z1 := as_0_0
      clear ha hb hc hno hra hrb
      go_enter Try.func85, Try.ntmps85
      go_wp2_with fail
      go_ret2
      exact ⟨rfl, Below.refl _ _⟩
    · rw [th_1]
      have z1 := as_1_0
      clear ha hb hc hno hra hrb
      go_enter Try.func85, Try.ntmps85
      go_wp2_with fail
      go_ret2
      exact ⟨rfl, Below.refl _ _⟩
    · rw [th_2]
      have z1 := as_2_0
      clear ha hb hc hno hra hrb
      go_enter Try.func85, Try.ntmps85
      go_wp2_with fail
      go_ret2
      exact ⟨rfl, Below.refl _ _⟩
    · rw [th_3]
      have z1 := as_3_0
      clear ha hb hc hno hra hrb
      go_enter Try.func85, Try.ntmps85
      go_wp2_with fail
      go_ret2
      exact ⟨rfl, Below.refl _ _⟩
end Go.Proofs.Ytbjgflinggelpaa.Ex

namespace Go.Proofs.Ytbjgflinggelpaa.Ex
open Go.RowKit Go.Proofs.Ytbjgflinggelpaa.BM Go.Proofs.Ytbjgflinggelpaa.LM Go.Proofs.Ytbjgflinggelpaa.VaM Go.Proofs.Ytbjgflinggelpaa.Va Go.Proofs.Ytbjgflinggelpaa.ExM Go.Proofs.Ytbjgflinggelpaa.EvM

theorem laid_is (r : V × Int) : ∃ x, laid r = .tuple #[x, .int .i64 r.2] := ⟨_, rfl⟩

theorem twoW_hi {kb : Bool} {c : Int} {a b : V} (h : c = 5 ∨ c = 6 ∨ c = 7 ∨ c = 8) : twoW kb c a b = two c a b := twoW_ok (fun h6 => by
  obtain ⟨_, _, h5, h6, h7, h8⟩ := two_6k h6
  omega)

section
variable {b vc : Nat} {vs p : List V} {L : Option Addr} {kb : Bool} {w : World}

set_option maxRecDepth 100000 in
theorem ofBoth_any (h : Held b vs L vc kb p w) (c : Int) (x y : V) (hx : VaM.May x) (hy : VaM.May y) (hrx : Rng x) (hry : Rng y) (hc : 2 ≤ c ∧ c ≤ 8) :
    Calls Try.prog 76 #[.pointer (some ⟨b, 0, none⟩), .int .i64 c, th x, th y] w fun e w' => e = .returned (laid (twoW kb c x y)) ∧ Below w.heap.size w w' := by
  obtain ⟨A, d, hB, _⟩ := h.box
  have hre := fun g => reckon_any c x y b _ _ kb w hB hx hy hrx hry g
  have hle := fun g : c = 5 => twoW_hi (kb := kb) (a := x) (b := y) (Or.inl g)
  have hal := fun g : c = 6 => twoW_hi (kb := kb) (a := x) (b := y) (Or.inr (Or.inl g))
  have hju := fun g : c = 7 ∨ c = 8 => twoW_hi (kb := kb) (a := x) (b := y) (Or.inr (Or.inr g))
  have hL := less_own x y w hx hy
  have hA := alike_any x y w hx hy
  have hJ := fun g => judge_any c x y w hx hy g
  clear h hB hx hy hrx hry
  have hway : c = 2 ∨ c = 3 ∨ c = 4 ∨ c = 5 ∨ c = 6 ∨ c = 7 ∨ c = 8 := by omega
  obtain ⟨tx, htx⟩ : ∃ t, t = th x := ⟨_, rfl⟩
  obtain ⟨ty, hty⟩ : ∃ t, t = th y := ⟨_, rfl⟩
  simp only [← htx, ← hty] at hre hL hA hJ
  rw [← htx, ← hty]
  clear htx hty hc
  obtain ⟨R, hR⟩ : ∃ R, R = twoW kb c x y := ⟨_, rfl⟩
  have hf : ∃ C : Calls Try.prog (if c = 5 then 86 else if c = 6 then 87 else if c = 7 ∨ c = 8 then 88 else 85) (if c = 5 ∨ c = 6 then #[tx, ty] else if c = 7 ∨ c = 8 then #[.int .i64 c, tx, ty] else #[.pointer (some ⟨b, 0, none⟩), .int .i64 c, tx, ty]) w fun e w' => e = .returned (laid R) ∧ Below w.heap.size w w', True := by
    rcases hway with rfl | rfl | rfl | rfl | rfl | rfl | rfl
    · exact ⟨by rw [hR]; exact hre (Or.inl rfl), trivial⟩
    · exact ⟨by rw [hR]; exact hre (Or.inr (Or.inl rfl)), trivial⟩
    · exact ⟨by rw [hR]; exact hre (Or.inr (Or.inr rfl)), trivial⟩
    · exact ⟨by rw [hR, hle rfl]; exact hL, trivial⟩
    · exact ⟨by rw [hR, hal rfl]; exact hA, trivial⟩
    · exact ⟨by rw [hR, hju (Or.inl rfl)]; exact hJ (Or.inl rfl), trivial⟩
    · exact ⟨by rw [hR, hju (Or.inr rfl)]; exact hJ (Or.inr rfl), trivial⟩
  obtain ⟨hf, _⟩ := hf
  rw [← hR]
  obtain ⟨X, hX⟩ := laid_is R
  rw [hX]
  rw [hX] at hf
  clear hre hle hal hju hL hA hJ hR hX
  obtain ⟨r0, r⟩ := R
  simp only at hf ⊢
  rcases hway with rfl | rfl | rfl | rfl | rfl | rfl | rfl
  all_goals
    have HF := Lib.hid hf
    clear hf
    go_enter Try.func76, Try.ntmps76
    go_wp2_with fail
    refine HF.out.mono ?_
    rintro e w1 ⟨rfl, hb1⟩
    go_wp2_with fail
    go_ret2
    exact ⟨rfl, hb1⟩
end
end Go.Proofs.Ytbjgflinggelpaa.Ex

namespace Go.Proofs.Ytbjgflinggelpaa.Ex
open Go.RowKit Go.Proofs.Ytbjgflinggelpaa.BM Go.Proofs.Ytbjgflinggelpaa.LM Go.Proofs.Ytbjgflinggelpaa.VaM Go.Proofs.Ytbjgflinggelpaa.Va Go.Proofs.Ytbjgflinggelpaa.ExM Go.Proofs.Ytbjgflinggelpaa.EvM
open Go.Proofs.Ytbjgflinggelpaa.Sc (grown_set grown_trans)

section
variable {b vc : Nat} {vs p : List V} {L : Option Addr} {kb : Bool} {w : World}

theorem held_may (h : Held b vs L vc kb p w) {i : Nat} (hi : i < p.length) : VaM.May (p.getD i v0) ∧ Rng (p.getD i v0) := by
  obtain ⟨A, c, _, hT⟩ := h.box
  exact hT.2 _ (EvM.getD_mem (l := p) (i := i) hi)

/-- What comesOf answers. -/
def Comes (b : Nat) (vs : List V) (L : Option Addr) (vc : Nat) (kb : Bool) (w : World) (r : List V × V × Int) (e : Ending) (w' : World) : Prop := e = .returned (laid r.2) ∧ (r.2.2 = 0 → Held b vs L vc kb r.1 w') ∧ w.grownBy w' (some b)

set_option maxRecDepth 100000 in
theorem comes_push (h : Held b vs L vc kb p w) (k a : Int) (v : V) (hk : k = 0) (hv : VaM.May v) : Calls Try.prog 57 #[.pointer (some ⟨b, 0, none⟩), agO ⟨k, a, v⟩] w (Comes b vs L vc kb w (p, v, 0)) := by
  subst hk
  have HT := Lib.hid (fun W => thingOf_any v W hv)
  obtain ⟨x, hx⟩ : ∃ x, x = th v := ⟨_, rfl⟩
  unfold Comes
  simp only [laid_ok]
  rw [← hx] at HT ⊢
  obtain ⟨q0, q1, q2, q3, q4⟩ := (bxO_new w ⟨0, a, v⟩).cells
  have ha := (Below.refl w.heap.size w).alloc (Nat.le_refl _) (.cells #[.int .i64 0, .int .i64 a, .int .i64 v.k, .int .i64 v.n, .string v.s] 52)
  have HB := Lib.hid ha
  have HH := Lib.hid h
  obtain ⟨vk, vn, vz⟩ := v
  simp only at q0 q1 q2 q3 q4 HT HB
  unfold agO
  clear h hv hx ha
  simp only
  go_enter Try.func57, Try.ntmps57
  go_wp2_with fail
  refine (HT.out _).mono ?_
  rintro e w1 ⟨rfl, hb1⟩
  go_wp2_with fail
  go_ret2
  have hb := bt HB.out hb1
  exact ⟨rfl, fun _ => HH.out.kept hb, grown_of_below hb⟩

set_option maxRecDepth 100000 in
theorem comes_load (h : Held b vs L vc kb p w) (hvs : ∀ x ∈ vs, VaM.May x ∧ Rng x) (k a : Int) (v : V) (hk : k = 1) (h0 : 0 ≤ a) (h6 : a ≤ 1000) :
    Calls Try.prog 57 #[.pointer (some ⟨b, 0, none⟩), agO ⟨k, a, v⟩] w (Comes b vs L vc kb w (if a.toNat < vs.length then (p, vs.getD a.toNat v0, 0) else (p, v0, 3))) := by
  subst hk
  have ha := (Below.refl w.heap.size w).alloc (Nat.le_refl _) (.cells #[.int .i64 1, .int .i64 a, .int .i64 v.k, .int .i64 v.n, .string v.s] 52)
  have hl := load_any (h.kept ha) hvs a h0 h6
  have he : (if a.toNat < vs.length then (p, vs.getD a.toNat v0, 0) else (p, v0, 3)) = (p, if a.toNat < vs.length then (vs.getD a.toNat v0, (0 : Int)) else (v0, 3)) := by split <;> rfl
  rw [he]
  obtain ⟨R, hR⟩ : ∃ R, R = (if a.toNat < vs.length then (vs.getD a.toNat v0, (0 : Int)) else (v0, 3)) := ⟨_, rfl⟩
  rw [← hR] at hl ⊢
  obtain ⟨X, hX⟩ := laid_is R
  unfold Comes
  simp only [hX]
  rw [hX] at hl
  obtain ⟨r0, r⟩ := R
  simp only at hl ⊢
  have HL := Lib.hid hl
  obtain ⟨q0, q1, q2, q3, q4⟩ := (bxO_new w ⟨1, a, v⟩).cells
  have HB := Lib.hid ha
  have HH := Lib.hid h
  obtain ⟨vk, vn, vz⟩ := v
  simp only at q0 q1 q2 q3 q4 HB HL
  unfold agO
  clear h hvs ha hl he hX hR
  simp only
  go_enter Try.func57, Try.ntmps57
  go_wp2_with fail
  refine HL.out.mono ?_
  rintro e w1 ⟨rfl, hb1⟩
  go_wp2_with fail
  go_ret2
  have hb := bt HB.out hb1
  exact ⟨rfl, fun _ => HH.out.kept hb, grown_of_below hb⟩

set_option maxRecDepth 100000 in
theorem comes_not (h : Held b vs L vc kb p w) (hn : p.length ≤ 1000) (k a : Int) (v : V) (hk : k = 9) :
    Calls Try.prog 57 #[.pointer (some ⟨b, 0, none⟩), agO ⟨k, a, v⟩] w (Comes b vs L vc kb w (if p.length < 1 then (p, v0, 2) else if (p.getD (p.length - 1) v0).k ≠ 1 then (p.take (p.length - 1), v0, 5) else (p.take (p.length - 1), truth (decide ((p.getD (p.length - 1) v0).n = 0)), 0))) := by
  subst hk
  have ha := (Below.refl w.heap.size w).alloc (Nat.le_refl _) (.cells #[.int .i64 9, .int .i64 a, .int .i64 v.k, .int .i64 v.n, .string v.s] 52)
  have HB := Lib.hid ha
  obtain ⟨q0, q1, q2, q3, q4⟩ := (bxO_new w ⟨9, a, v⟩).cells
  by_cases hp : p.length < 1
  · rw [if_pos hp]
    obtain rfl : p = [] := List.length_eq_zero_iff.1 (by omega)
    have HN := Lib.hid (not_none (h.kept ha))
    unfold Comes
    simp only
    rw [laid_no _ (by decide)] at HN ⊢
    obtain ⟨vk, vn, vz⟩ := v
    simp only at q0 q1 q2 q3 q4 HB HN
    unfold agO
    clear h ha hn hp
    simp only
    go_enter Try.func57, Try.ntmps57
    go_wp2_with fail
    refine HN.out.mono ?_
    rintro e w1 ⟨rfl, rfl⟩
    go_wp2_with fail
    go_ret2
    exact ⟨rfl, fun h => absurd h (by decide), grown_of_below HB.out⟩
  · rw [if_neg hp]
    have hl := not_some (h.kept ha) (by omega) hn
    have he : (if (p.getD (p.length - 1) v0).k ≠ 1 then (p.take (p.length - 1), v0, 5) else (p.take (p.length - 1), truth (decide ((p.getD (p.length - 1) v0).n = 0)), 0)) = (p.take (p.length - 1), if (p.getD (p.length - 1) v0).k ≠ 1 then (v0, (5 : Int)) else (truth (decide ((p.getD (p.length - 1) v0).n = 0)), 0)) := by split <;> rfl
    rw [he]
    obtain ⟨R, hR⟩ : ∃ R, R = (if (p.getD (p.length - 1) v0).k ≠ 1 then (v0, (5 : Int)) else (truth (decide ((p.getD (p.length - 1) v0).n = 0)), 0)) := ⟨_, rfl⟩
    rw [← hR] at hl ⊢
    obtain ⟨X, hX⟩ := laid_is R
    unfold Comes
    simp only [hX]
    rw [hX] at hl
    obtain ⟨r0, r⟩ := R
    simp only at hl ⊢
    obtain ⟨q, hq⟩ : ∃ q, q = p.take (p.length - 1) := ⟨_, rfl⟩
    rw [← hq] at hl ⊢
    have HL := Lib.hid hl
    obtain ⟨vk, vn, vz⟩ := v
    simp only at q0 q1 q2 q3 q4 HB HL
    unfold agO
    clear h ha hl he hX hR hn hp hq
    simp only
    go_enter Try.func57, Try.ntmps57
    go_wp2_with fail
    refine HL.out.mono ?_
    rintro e w1 ⟨rfl, hh, hg⟩
    go_wp2_with fail
    go_ret2
    exact ⟨rfl, fun _ => hh, grown_trans (grown_of_below HB.out) hg⟩

set_option maxRecDepth 100000 in
theorem comes_two (h : Held b vs L vc kb p w) (hn : p.length ≤ 1000) (k a : Int) (v : V) (hk : 2 ≤ k ∧ k ≤ 8) :
    Calls Try.prog 57 #[.pointer (some ⟨b, 0, none⟩), agO ⟨k, a, v⟩] w (Comes b vs L vc kb w (if p.length < 2 then (p, v0, 2) else (p.take (p.length - 2), twoW kb k (p.getD (p.length - 2) v0) (p.getD (p.length - 1) v0)))) := by
  have ha := (Below.refl w.heap.size w).alloc (Nat.le_refl _) (.cells #[.int .i64 k, .int .i64 a, .int .i64 v.k, .int .i64 v.n, .string v.s] 52)
  have HB := Lib.hid ha
  have hX := bxO_new w ⟨k, a, v⟩
  obtain ⟨q0, q1, q2, q3, q4⟩ := hX.cells
  have HX := Lib.hid hX
  have hH := h.kept ha
  have hlt := h.lt
  have g0 : (k == 0) = false := by simpa using (show k ≠ 0 by omega)
  have g1 : (k == 1) = false := by simpa using (show k ≠ 1 by omega)
  have g9 : (k == 9) = false := by simpa using (show k ≠ 9 by omega)
  by_cases hp0 : p.length = 0
  · rw [if_pos (by omega)]
    obtain rfl : p = [] := List.length_eq_zero_iff.1 hp0
    have HN := Lib.hid (take_none hH)
    unfold Comes
    simp only
    rw [laid_no _ (by decide)]
    obtain ⟨vk, vn, vz⟩ := v
    simp only at q0 q1 q2 q3 q4 HB HN
    unfold agO
    clear h ha hn hp0 hX HX hH
    simp only
    go_enter Try.func57, Try.ntmps57
    go_wp2_with fail
    refine HN.out.mono ?_
    rintro e w1 ⟨rfl, rfl⟩
    go_wp2_with fail
    refine HN.out.mono ?_
    rintro e w1 ⟨rfl, rfl⟩
    go_wp2_with fail
    go_ret2
    exact ⟨rfl, fun h => absurd h (by decide), grown_of_below HB.out⟩
  · have HT := Lib.hid (take_some hH (by omega) hn)
    have hmx := held_may h (i := p.length - 1) (by omega)
    have hlq : (p.take (p.length - 1)).length = p.length - 1 := by rw [List.length_take]; omega
    by_cases hp1 : p.length = 1
    · rw [if_pos (by omega)]
      have he : p.take (p.length - 1) = [] := by rw [hp1]; rfl
      rw [he] at HT
      obtain ⟨x, hx⟩ : ∃ x, x = th (p.getD (p.length - 1) v0) := ⟨_, rfl⟩
      rw [← hx] at HT
      unfold Comes
      simp only
      rw [laid_no _ (by decide)]
      obtain ⟨vk, vn, vz⟩ := v
      simp only at q0 q1 q2 q3 q4 HB HT
      unfold agO
      clear h ha hn hp0 hX HX hH hmx hlq hp1 he hx
      simp only
      go_enter Try.func57, Try.ntmps57
      go_wp2_with fail
      refine HT.out.mono ?_
      rintro e w1 ⟨rfl, hh, hg⟩
      have HG := Lib.hid (grown_trans (grown_of_below HB.out) hg)
      have HN := Lib.hid (take_none hh)
      clear hh hg q0 q1 q2 q3 q4
      go_wp2_with fail
      refine HN.out.mono ?_
      rintro e w2 ⟨rfl, rfl⟩
      go_wp2_with fail
      go_ret2
      exact ⟨rfl, fun h => absurd h (by decide), HG.out⟩
    · rw [if_neg (by omega)]
      have hmy := held_may h (i := p.length - 2) (by omega)
      have hgq : (p.take (p.length - 1)).getD (p.length - 1 - 1) v0 = p.getD (p.length - 2) v0 := by
        rw [List.getD_eq_getElem?_getD, List.getD_eq_getElem?_getD, List.getElem?_take, if_pos (by omega), show p.length - 1 - 1 = p.length - 2 from by omega]
      have htq : (p.take (p.length - 1)).take (p.length - 1 - 1) = p.take (p.length - 2) := by rw [List.take_take]; congr 1; omega
      have HT2 := Lib.hid (fun W (hh : Held b vs L vc kb (p.take (p.length - 1)) W) => by
        have := take_some hh (by omega) (by omega)
        rw [hlq, hgq, htq] at this
        exact this)
      obtain ⟨q, hq⟩ : ∃ q, q = p.take (p.length - 1) := ⟨_, rfl⟩
      obtain ⟨q2', hq2⟩ : ∃ q, q = p.take (p.length - 2) := ⟨_, rfl⟩
      obtain ⟨y, hy⟩ : ∃ x, x = p.getD (p.length - 1) v0 := ⟨_, rfl⟩
      obtain ⟨x, hx⟩ : ∃ x, x = p.getD (p.length - 2) v0 := ⟨_, rfl⟩
      rw [← hq, ← hy] at HT
      rw [← hq, ← hq2, ← hx] at HT2
      rw [← hy] at hmx
      rw [← hx] at hmy
      rw [← hq2, ← hx, ← hy]
      have HOf := Lib.hid (fun W (hh : Held b vs L vc kb q2' W) => ofBoth_any hh k x y hmy.1 hmx.1 hmy.2 hmx.2 hk)
      obtain ⟨R, hR⟩ : ∃ R, R = twoW kb k x y := ⟨_, rfl⟩
      rw [← hR] at HOf ⊢
      obtain ⟨X, hXl⟩ := laid_is R
      unfold Comes
      simp only [hXl]
      rw [hXl] at HOf
      obtain ⟨r0, r⟩ := R
      simp only at HOf ⊢
      obtain ⟨tx, htx⟩ : ∃ t, t = th x := ⟨_, rfl⟩
      obtain ⟨ty, hty⟩ : ∃ t, t = th y := ⟨_, rfl⟩
      rw [← hty] at HT
      rw [← htx] at HT2
      rw [← htx, ← hty] at HOf
      obtain ⟨vk, vn, vz⟩ := v
      simp only at q0 q1 q2 q3 q4 HB HT HX
      unfold agO
      clear h ha hn hp0 hX hH hmx hmy hlq hp1 hgq htq hq hq2 hx hy hR hXl htx hty
      simp only
      go_enter Try.func57, Try.ntmps57
      go_wp2_with fail
      refine HT.out.mono ?_
      rintro e w1 ⟨rfl, hh, hg⟩
      have HG := Lib.hid (grown_trans (grown_of_below HB.out) hg)
      have hx1 := RG.BxN.grown HX.out hg (fun e => by injection e with e; omega)
      have HX1 := Lib.hid hx1
      have HN := Lib.hid (HT2.out w1 hh)
      clear hh hg q0 q1 q2 q3 q4 hx1 HT2 HX HT HB
      go_wp2_with fail
      refine HN.out.mono ?_
      rintro e w2 ⟨rfl, hh, hg⟩
      have HG2 := Lib.hid (grown_trans HG.out hg)
      have hx1 := RG.BxN.grown HX1.out hg (fun e => by injection e with e; omega)
      obtain ⟨q0, q1, q2, q3, q4⟩ := (show BxO w2 w.heap.size ⟨k, a, ⟨vk, vn, vz⟩⟩ from hx1).cells
      simp only at q0 q1 q2 q3 q4
      have HO := Lib.hid (HOf.out w2 hh)
      have HH := Lib.hid hh
      clear hh hg hx1 HX1 HN HG HOf
      go_wp2_with fail
      refine HO.out.mono ?_
      rintro e w3 ⟨rfl, hb3⟩
      go_wp2_with fail
      go_ret2
      exact ⟨rfl, fun _ => HH.out.kept hb3, grown_trans HG2.out (grown_of_below hb3)⟩

/-- What a part lays on the pile. -/
theorem comes_any (h : Held b vs L vc kb p w) (hvs : ∀ x ∈ vs, VaM.May x ∧ Rng x) (hn : p.length ≤ 1000) (o : O) (ho : Ok o) : Calls Try.prog 57 #[.pointer (some ⟨b, 0, none⟩), agO o] w (Comes b vs L vc kb w (goes vs kb o p)) := by
  obtain ⟨c, a, v⟩ := o
  obtain ⟨h1, h2, h3, h4, _, h6, _⟩ := ho
  simp only at h1 h2 h3 h4 h6
  unfold goes
  simp only
  by_cases c0 : c = 0
  · rw [if_pos c0]
    exact comes_push h c a v c0 h6
  · rw [if_neg c0]
    by_cases c1 : c = 1
    · rw [if_pos c1]
      exact comes_load h hvs c a v c1 h3 (by omega)
    · rw [if_neg c1]
      by_cases c9 : c = 9
      · rw [if_pos c9]
        exact comes_not h hn c a v c9
      · rw [if_neg c9]
        exact comes_two h hn c a v (by omega)
end
end Go.Proofs.Ytbjgflinggelpaa.Ex

namespace Go.Proofs.Ytbjgflinggelpaa.Ex
open Go.RowKit Go.Proofs.Ytbjgflinggelpaa.BM Go.Proofs.Ytbjgflinggelpaa.LM Go.Proofs.Ytbjgflinggelpaa.VaM Go.Proofs.Ytbjgflinggelpaa.Va Go.Proofs.Ytbjgflinggelpaa.ExM Go.Proofs.Ytbjgflinggelpaa.EvM
open Go.Proofs.Ytbjgflinggelpaa.Sc (grown_set grown_trans)

/-- What the loop carries. -/
structure Go8 (b : Nat) (vs : List V) (L : Option Addr) (vc : Nat) (kb : Bool) (l : List O) (R : V × Int) (w : World) (j : Nat) (p : List V) (wr : World) : Prop where
  few : p.length ≤ j
  held : Held b vs L vc kb p wr
  run : runW vs kb (l.drop j) p = R
  bel : Below b w wr

set_option maxRecDepth 100000 in
set_option maxHeartbeats 8000000 in
theorem through_own {b vc : Nat} {vs : List V} {L : Option Addr} {kb : Bool} {w : World} (h : Held b vs L vc kb [] w) (hvs : ∀ x ∈ vs, VaM.May x ∧ Rng x) (l : List O) (B : Option Addr) (d : Nat) (hO : ∀ W, Below b w W → SlO W B l d) (hom : ∀ x ∈ l, Ok x) (hlen : l.length ≤ 12) :
    Calls Try.prog 34 #[.pointer (some ⟨b, 0, none⟩), .slice B l.length d] w fun e w' => e = .returned (laid (runW vs kb l [])) ∧ Below b w w' := by
  have hcm := fun (j : Nat) (hj : j < l.length) (p : List V) (hp : p.length ≤ 1000) W (hW : Held b vs L vc kb p W) => comes_any hW hvs hp _ (hom _ (ExM.getD_mem (l := l) (i := j) hj))
  have hmy := fun (j : Nat) (hj : j < l.length) (p : List V) => goes_may (wr := kb) (p := p) hvs ⟨(hom _ (ExM.getD_mem (l := l) (i := j) hj)).2.2.2.2.2.1, (hO w (Below.refl _ _)).rngs _ (ExM.getD_mem (l := l) (i := j) hj)⟩
  have hdr := fun (j : Nat) (hj : j < l.length) (p : List V) => runW_drop vs kb l j p hj
  have hat := fun (j : Nat) (hj : j < l.length) W (hW : Below b w W) => (hO W hW).at j hj
  have hgl := fun (o : O) (p : List V) => @goes_len vs kb o p
  have hend : ∀ p, runW vs kb (l.drop l.length) p = if p.length = 1 then (p.getD 0 v0, 0) else (v0, 2) := fun p => by rw [List.drop_length, runW]
  obtain ⟨R, hR⟩ : ∃ R, R = runW vs kb l [] := ⟨_, rfl⟩
  have hst : Go8 b vs L vc kb l R w 0 [] w := ⟨Nat.le_refl _, h, by rw [hR]; rfl, Below.refl _ _⟩
  rw [← hR]
  obtain ⟨n, hn⟩ : ∃ n, n = l.length := ⟨_, rfl⟩
  simp only [← hn] at hcm hmy hdr hat hend hlen
  rw [← hn]
  have HCm := Lib.hid hcm
  have HMy := Lib.hid hmy
  have HDr := Lib.hid hdr
  have HAt := Lib.hid hat
  have HGl := Lib.hid hgl
  have HEnd := Lib.hid hend
  have HSt := Lib.hid hst
  clear hcm hmy hdr hat hgl hend hst hR hn h hvs hO hom
  go_enter Try.func34, Try.ntmps34
  go_wp2_with fail
  go_loopw [12] (fun i wr => ∃ (j : Nat) (p : List V), i = .int .i64 j ∧ j ≤ n ∧ Go8 b vs L vc kb l R w j p wr) (fun i _ => n - (intOf i).toNat)
  case atStart => exact ⟨0, [], rfl, Nat.zero_le _, HSt.out⟩
  case round =>
    obtain ⟨j, p, rfl, hj, hst⟩ := hrel
    have hfew := hst.few
    have HHd := Lib.hid hst.held
    have HRun := Lib.hid hst.run
    have HBl := Lib.hid hst.bel
    clear hst HSt
    by_cases hjn : j < n
    · obtain ⟨b1, q1, hix, hc, _⟩ := HAt.out j hjn wr HBl.out
      obtain ⟨c0, c1, c2, c3, c4⟩ := hc wr (Below.refl _ _)
      have hi := fun W => hix W n d hjn
      have hX := bxO_new wr (l.getD j o0)
      obtain ⟨r0, r1, r2, r3, r4⟩ := hX.cells
      have ha := (Below.refl wr.heap.size wr).alloc (Nat.le_refl _) (.cells #[.int .i64 (l.getD j o0).c, .int .i64 (l.getD j o0).a, .int .i64 (l.getD j o0).v.k, .int .i64 (l.getD j o0).v.n, .string (l.getD j o0).v.s] 52)
      have hcm := HCm.out j hjn p (by omega) _ (HHd.out.kept ha)
      have hdr := HDr.out j hjn p
      have hmy := HMy.out j hjn p
      have hgl := HGl.out (l.getD j o0) p
      obtain ⟨G, hG⟩ : ∃ G, G = goes vs kb (l.getD j o0) p := ⟨_, rfl⟩
      rw [← hG] at hcm hdr hmy hgl
      rw [HRun.out] at hdr
      have hlb := HHd.out.lt
      have HBa := Lib.hid (HBl.out.trans (ha.mono (by omega)))
      unfold agO at hcm
      obtain ⟨⟨oc, oa, ⟨ok, on, os⟩⟩, ho⟩ : ∃ o, o = l.getD j o0 := ⟨_, rfl⟩
      rw [← ho] at c0 c1 c2 c3 c4 r0 r1 r2 r3 r4 hcm HBa
      simp only at c0 c1 c2 c3 c4 r0 r1 r2 r3 r4 hcm HBa
      obtain ⟨q, x, r⟩ := G
      simp only at hdr hmy hgl
      have HCo := Lib.hid hcm
      have HDj := Lib.hid hdr
      have HMx := Lib.hid hmy
      clear hix hc hX ha hcm hdr hmy ho hG HRun HHd HCm HMy HDr HAt HGl
      go_wp2_with fail
      refine HCo.out.mono ?_
      rintro e w3 ⟨rfl, hh3, hg3⟩
      have HB3 := Lib.hid (HBa.out.trans (below_of_grown hg3 (by simp; omega)))
      have HH3 := Lib.hid hh3
      clear hh3 hg3 HCo c0 c1 c2 c3 c4 r0 r1 r2 r3 r4 hi
      by_cases hr : r = 0
      · subst hr
        rw [laid_ok]
        have hdj := HDj.out
        rw [if_pos rfl] at hdj
        have HDk := Lib.hid hdj
        have hh3 := HH3.out rfl
        obtain ⟨A3, d3, hB3, hT3⟩ := hh3.box
        have hb3lt := hB3.lt
        have ha4 := (Below.refl w3.heap.size w3).alloc (Nat.le_refl _) (.cells #[th x] 69)
        have HT4 := Lib.hid (hT3.kept ha4)
        have HX4 := Lib.hid (hB3.kept ha4)
        have HB4 := Lib.hid (HB3.out.trans (ha4.mono (by omega)))
        have HN4 := Lib.hid (thing_new w3 x)
        have hV3 := hh3.vals
        have HV3 := Lib.hid hV3
        have hsz4 := ha4.size
        obtain ⟨tT, tx, htx⟩ := th_is x
        rw [htx] at HT4 HX4 HB4 HN4 hsz4 ha4 ⊢
        obtain ⟨qn, hqn⟩ : ∃ n, n = q.length := ⟨_, rfl⟩
        rw [← hqn] at hB3 HX4 HT4 hgl
        have HQn := Lib.hid hqn
        have HTx := Lib.hid htx
        have HA4 := Lib.hid ha4
        obtain ⟨⟨p0, p1, p2⟩, _⟩ := hB3
        have hT4 := HT4.out.1
        rw [← hqn] at hT4
        have HO4 := Lib.hid hT4
        clear hdj hh3 hT3 ha4 hV3 HH3 HDj hqn htx hT4
        go_wp2_with (at_builtin; refine wp_append_t rfl (.tmp 29) (.tmp 31) rfl (b + 1) _ qn q rfl HO4.out (some ⟨w3.heap.size, 0, none⟩) 1 1 [x] rfl rfl HN4.out (by omega) (by omega) ?_; intro u5 w5 hown5 hgrow5; refine pause ?_)
        have hne : ∀ k, k < b + 1 → some k ≠ (Value.slice A3 qn d3).ownBlock := fun k hk e => by have := (HO4.out.lt _ e.symm).1; omega
        have hx5 := HX4.out.grown hgrow5 (hne b (by omega))
        obtain ⟨A5, d5, rfl⟩ := RG.own_is hown5
        have HX5 := Lib.hid hx5
        have hx6 := bx_set0 hx5 (.slice A5 (qn + 1) d5)
        have hset := grown_set w5 b 0 (.slice A5 (qn + 1) d5)
        have hbl5 : Below b w w5 := HB4.out.grown hgrow5 (by omega) (fun k hk => by have := (HO4.out.lt k hk).1; omega)
        have hbl6 := hbl5.trans (below_of_grown hset (by have := hx5.lt; omega))
        have hql : (q ++ [x]).length = qn + 1 := by rw [List.length_append, HQn.out]; rfl
        have hh6 : Held b vs L vc kb (q ++ [x]) (w5.setCell ⟨b, 0, none⟩ (.slice A5 (qn + 1) d5)) := by
          refine ⟨⟨A5, d5, by rw [hql]; exact hx6, ?_⟩, fun W hW => HV3.out W ?_⟩
          · rw [hql]
            refine Things.grown (w := w5) ⟨by rw [hql]; exact hown5, fun y hy => ?_⟩ hset (Nat.lt_succ_self _)
            rcases List.mem_append.1 hy with hy | hy
            · exact HT4.out.2 y hy
            · rw [List.mem_singleton.1 hy]
              exact HMx.out
          · exact (((HA4.out.mono (by omega : b ≤ w3.heap.size)).grown hgrow5 (by omega) (fun k hk => by have := (HO4.out.lt k hk).1; omega)).trans (below_of_grown hset (by have := hx5.lt; omega))).trans hW
        have HH6 := Lib.hid hh6
        have HB6 := Lib.hid hbl6
        obtain ⟨⟨p0, p1, p2⟩, p3, _⟩ := HX5.out
        clear hown5 hgrow5 hx5 hx6 hset hbl5 hbl6 hql hh6 hne
        unfold Pause
        go_wp2_with fail
        go_roundw
        case rel => exact ⟨j + 1, q ++ [x], by go_num, by omega, by rw [List.length_append, ← HQn.out]; simp only [List.length_cons, List.length_nil]; omega, HH6.out, HDk.out.symm, HB6.out⟩
        case measure => simp [intOf]; omega
      · have hr' : (r != 0) = true := by simpa using hr
        have hdj := HDj.out
        rw [if_neg hr] at hdj
        have HRe := Lib.hid (show laid R = .tuple #[.nilIface, .int .i64 r] from by rw [hdj, laid_no _ hr])
        rw [laid_no _ hr]
        clear hdj HDj hr
        go_wp2_with fail
        go_ret2
        exact ⟨ret_v (x := .tuple #[.nilIface, .int .i64 r]) (by rw [HRe.out]), HB3.out⟩
    · obtain rfl : j = n := by omega
      have hrun := HRun.out
      rw [HEnd.out] at hrun
      obtain ⟨A3, d3, hB3, hT3⟩ := HHd.out.box
      obtain ⟨m, hm⟩ : ∃ m, m = p.length := ⟨_, rfl⟩
      by_cases h1 : p.length = 1
      · rw [if_pos h1] at hrun
        obtain ⟨g, _, hix, hc⟩ := hT3.at 0 (by omega)
        rw [h1] at hB3 hix
        obtain ⟨x, hx⟩ : ∃ x, x = th (p.getD 0 v0) := ⟨_, rfl⟩
        have HRe := Lib.hid (show laid R = .tuple #[x, .int .i64 0] from by rw [← hrun, laid_ok, hx])
        rw [← hx] at hc
        have hi : ∀ W, (Instr.indexAt 65 (.slice A3 1 d3) (.int .i64 0)).run Try.prog W = .ok (.pointer (some ⟨g, 0, none⟩)) W := hix
        obtain ⟨⟨p0, p1, p2⟩, _⟩ := hB3
        clear hrun hT3 hx hm h1 hix HRun HHd
        go_wp2_with fail
        go_ret2
        exact ⟨ret_v (x := .tuple #[x, .int .i64 0]) (by rw [HRe.out]), HBl.out⟩
      · rw [if_neg h1] at hrun
        have HRe := Lib.hid (show laid R = .tuple #[.nilIface, .int .i64 2] from by rw [← hrun, laid_no _ (by decide)])
        rw [← hm] at hB3 h1
        have hm1 : ((m : Int) != 1) = true := by simp only [bne_iff_ne, ne_eq]; omega
        have hm2 : (m != 1) = true := by simp only [bne_iff_ne, ne_eq]; omega
        obtain ⟨⟨p0, p1, p2⟩, _⟩ := hB3
        clear hrun hT3 hm HRun HHd
        go_wp2_with fail
        go_ret2
        exact ⟨ret_v (x := .tuple #[.nilIface, .int .i64 2]) (by rw [HRe.out]), HBl.out⟩
end Go.Proofs.Ytbjgflinggelpaa.Ex

namespace Go.Proofs.Ytbjgflinggelpaa.Ex
open Go.RowKit Go.Proofs.Ytbjgflinggelpaa.BM Go.Proofs.Ytbjgflinggelpaa.VaM Go.Proofs.Ytbjgflinggelpaa.Va Go.Proofs.Ytbjgflinggelpaa.ExM Go.Proofs.Ytbjgflinggelpaa.EvM

set_option maxRecDepth 100000 in
set_option maxHeartbeats 4000000 in
theorem mayPart_any (x : O) (w : World) : Calls Try.prog 56 #[agO x] w fun e w' => e = .returned (.bool (decide (Ok x))) ∧ Below w.heap.size w w' := by
  obtain ⟨c, a, ⟨k, n, s⟩⟩ := x
  have hq := neq_v k n 0 0 s ⟨#[]⟩
  have hs : same ⟨k, n, s⟩ v0 = true ↔ (⟨k, n, s⟩ : V) = v0 := same_iff
  rw [show same ⟨k, n, s⟩ ⟨0, 0, ⟨#[]⟩⟩ = same ⟨k, n, s⟩ v0 from rfl] at hq
  obtain ⟨z, hz⟩ : ∃ z, z = same ⟨k, n, s⟩ v0 := ⟨_, rfl⟩
  rw [← hz] at hs
  simp only [← hz] at hq
  have HM := Lib.hid (May_any k n s)
  obtain ⟨m, hm⟩ : ∃ m, m = decide (VaM.May ⟨k, n, s⟩) := ⟨_, rfl⟩
  rw [← hm] at HM
  have hm' : m = true ↔ VaM.May ⟨k, n, s⟩ := by rw [hm, decide_eq_true_iff]
  have hok : Ok ⟨c, a, ⟨k, n, s⟩⟩ ↔ 0 ≤ c ∧ c < 10 ∧ 0 ≤ a ∧ a < 6 ∧ (c = 1 ∨ a = 0) ∧ m = true ∧ (c = 0 ∨ z = true) := by
    unfold Ok
    rw [hm', hs]
  obtain ⟨R, hR⟩ : ∃ R, R = decide (Ok ⟨c, a, ⟨k, n, s⟩⟩) := ⟨_, rfl⟩
  rw [← hR]
  have hr : R = true ↔ 0 ≤ c ∧ c < 10 ∧ 0 ≤ a ∧ a < 6 ∧ (c = 1 ∨ a = 0) ∧ m = true ∧ (c = 0 ∨ z = true) := by rw [hR, decide_eq_true_iff, hok]
  have hzm : z = true → m = true := fun h => by rw [hm']; rw [hs.1 h]; decide
  obtain ⟨o0', o1, o2, o3, o4⟩ := (bxO_new w ⟨c, a, ⟨k, n, s⟩⟩).cells
  simp only at o0' o1 o2 o3 o4
  have HB := Lib.hid ((Below.refl w.heap.size w).alloc (Nat.le_refl _) (.cells #[.int .i64 c, .int .i64 a, .int .i64 k, .int .i64 n, .string s] 52))
  unfold agO
  simp only
  clear hs hz hm hm' hok hR
  have hfalse : ¬ (0 ≤ c ∧ c < 10 ∧ 0 ≤ a ∧ a < 6 ∧ (c = 1 ∨ a = 0) ∧ m = true ∧ (c = 0 ∨ z = true)) → R = false := fun h => by
    cases R
    · rfl
    · exact absurd (hr.1 rfl) h
  have htrue := hr.2
  clear hr
  by_cases h1 : c < 0
  · have HR := Lib.hid (hfalse (by omega))
    have g1 : decide (c < 0) = true := decide_eq_true h1
    clear hfalse htrue h1 hzm hq
    go_enter Try.func56, Try.ntmps56
    go_wp2_with fail
    go_ret
    exact ⟨ret_v (x := .bool false) (by rw [HR.out]), HB.out⟩
  · have g1 : decide (c < 0) = false := decide_eq_false h1
    by_cases h2 : 10 ≤ c
    · have HR := Lib.hid (hfalse (by omega))
      have g2 : decide (10 ≤ c) = true := decide_eq_true h2
      clear hfalse htrue h1 h2 hzm hq
      go_enter Try.func56, Try.ntmps56
      go_wp2_with fail
      go_ret
      exact ⟨ret_v (x := .bool false) (by rw [HR.out]), HB.out⟩
    · have g2 : decide (10 ≤ c) = false := decide_eq_false h2
      by_cases h0 : c = 0
      · subst h0
        by_cases ha : a = 0
        · subst ha
          have HR := Lib.hid (show R = m from by
            cases m
            · exact hfalse (by simp)
            · exact htrue (by simp))
          clear hfalse htrue h1 h2 hzm hq g1 g2
          go_enter Try.func56, Try.ntmps56
          go_wp2_with fail
          refine (HM.out _).mono ?_
          rintro e w1 ⟨rfl, hb1⟩
          go_wp2_with fail
          go_ret
          exact ⟨ret_v (x := .bool m) (by rw [HR.out]), bt HB.out hb1⟩
        · have HR := Lib.hid (hfalse (by omega))
          have g3 : (a == 0) = false := by simpa using ha
          clear hfalse htrue h1 h2 hzm hq g1 g2 ha
          go_enter Try.func56, Try.ntmps56
          go_wp2_with fail
          go_ret
          exact ⟨ret_v (x := .bool false) (by rw [HR.out]), HB.out⟩
      · have g0 : (c == 0) = false := by simpa using h0
        cases z
        · have HR := Lib.hid (hfalse (by simp [h0]))
          clear hfalse htrue h1 h2 hzm h0
          go_enter Try.func56, Try.ntmps56
          go_wp2_with fail
          go_ret
          exact ⟨ret_v (x := .bool false) (by rw [HR.out]), HB.out⟩
        · have hm := hzm rfl
          by_cases hc1 : c = 1
          · subst hc1
            by_cases ha0 : 0 ≤ a
            · have g3 : decide (0 ≤ a) = true := decide_eq_true ha0
              have HR := Lib.hid (show R = decide (a < 6) from by
                by_cases h6 : a < 6
                · rw [decide_eq_true h6]
                  exact htrue ⟨by omega, by omega, ha0, h6, Or.inl rfl, hm, Or.inr rfl⟩
                · rw [decide_eq_false h6]
                  exact hfalse (by omega))
              clear hfalse htrue h1 h2 hzm h0 ha0 g0 g1 g2
              go_enter Try.func56, Try.ntmps56
              go_wp2_with fail
              go_ret
              exact ⟨ret_v (x := .bool (decide (a < 6))) (by rw [HR.out]), HB.out⟩
            · have g3 : decide (0 ≤ a) = false := decide_eq_false ha0
              have HR := Lib.hid (hfalse (by omega))
              clear hfalse htrue h1 h2 hzm h0 ha0 g0 g1 g2
              go_enter Try.func56, Try.ntmps56
              go_wp2_with fail
              go_ret
              exact ⟨ret_v (x := .bool false) (by rw [HR.out]), HB.out⟩
          · have g4 : (c == 1) = false := by simpa using hc1
            have HR := Lib.hid (show R = (a == 0) from by
              by_cases ha : a = 0
              · rw [beq_iff_eq.2 ha]
                exact htrue ⟨by omega, by omega, by omega, by omega, Or.inr ha, hm, Or.inr rfl⟩
              · rw [show (a == 0) = false from by simpa using ha]
                exact hfalse (by omega))
            clear hfalse htrue h1 h2 hzm h0 hc1
            go_enter Try.func56, Try.ntmps56
            go_wp2_with fail
            go_ret
            exact ⟨ret_v (x := .bool (a == 0)) (by rw [HR.out]), HB.out⟩

set_option maxRecDepth 100000 in
set_option maxHeartbeats 4000000 in
theorem may_own (l : List O) (A : Option Addr) (c : Nat) (w : World) (hS : SlO w A l c) :
    Calls Try.prog 32 #[.slice A l.length c] w fun e w' => e = .returned (.bool (decide (May l))) ∧ Below w.heap.size w w' := by
  have hl := slO_len hS
  have hno : 12 < l.length → ¬ May l := fun h k => by have := k.2; omega
  have hno1 : ∀ j, j < l.length → ¬ Ok (l.getD j o0) → ¬ May l := fun j hj h k => h (k.1 j hj)
  have hyes : l.length ≤ 12 → (∀ i, i < l.length → Ok (l.getD i o0)) → May l := fun h k => ⟨k, h⟩
  obtain ⟨n, hn⟩ : ∃ n, n = l.length := ⟨_, rfl⟩
  rw [← hn] at hl hno hno1 hyes ⊢
  have HS := Lib.hid hS
  have HN := Lib.hid hn
  have HNo := Lib.hid hno
  have HNo1 := Lib.hid hno1
  have HYes := Lib.hid hyes
  clear hS hn hno hno1 hyes
  by_cases h12 : n ≤ 12
  · have g1 : decide ((12 : Int) < (n : Int)) = false := by rw [decide_eq_false_iff_not]; omega
    have g2 : decide (12 < n) = false := by rw [decide_eq_false_iff_not]; omega
    go_enter Try.func32, Try.ntmps32
    go_wp2_with fail
    go_loopw [10] (fun i wr => ∃ j : Nat, i = .int .i64 j ∧ j ≤ n ∧ (∀ x, x < j → Ok (l.getD x o0)) ∧ Below w.heap.size w wr) (fun i _ => n - (intOf i).toNat)
    case atStart => exact ⟨0, rfl, Nat.zero_le _, fun x hx => absurd hx (Nat.not_lt_zero x), Below.refl _ _⟩
    case round =>
      obtain ⟨j, rfl, hj, hall, hbel⟩ := hrel
      have HAl := Lib.hid hall
      have HBl := Lib.hid hbel
      clear hall hbel
      by_cases hjn : j < n
      · obtain ⟨b1, q1, hix, hc, _⟩ := HS.out.at j (by rw [← HN.out]; exact hjn)
        have hi := fun W => hix W n c hjn
        obtain ⟨⟨oc, oa, ⟨k, m, s⟩⟩, hf⟩ : ∃ f, f = l.getD j o0 := ⟨_, rfl⟩
        rw [← hf] at hc
        obtain ⟨c0, c1, c2, c3, c4⟩ := hc wr HBl.out
        simp only at c0 c1 c2 c3 c4
        have HMp := Lib.hid (fun W => mayPart_any ⟨oc, oa, ⟨k, m, s⟩⟩ W)
        unfold agO at HMp
        simp only at HMp
        obtain ⟨o0', o1, o2, o3, o4⟩ := (bxO_new wr ⟨oc, oa, ⟨k, m, s⟩⟩).cells
        simp only at o0' o1 o2 o3 o4
        have HBa := Lib.hid (bt HBl.out ((Below.refl wr.heap.size wr).alloc (Nat.le_refl _) (.cells #[.int .i64 oc, .int .i64 oa, .int .i64 k, .int .i64 m, .string s] 52)))
        have HF := Lib.hid hf
        clear hix hc hf
        go_wp2_with fail
        refine (HMp.out _).mono ?_
        rintro e w3 ⟨rfl, hb3⟩
        have HB3 := Lib.hid (bt HBa.out hb3)
        clear hb3 c0 c1 c2 c3 c4 o0' o1 o2 o3 o4 hi HMp
        by_cases hok : Ok ⟨oc, oa, ⟨k, m, s⟩⟩
        · rw [decide_eq_true hok]
          have HSu := Lib.hid (show ∀ x, x < j + 1 → Ok (l.getD x o0) from fun x hx => by
            by_cases e : x = j
            · rw [e, ← HF.out]
              exact hok
            · exact HAl.out x (by omega))
          clear hok
          go_wp2_with fail
          go_roundw
          case rel => exact ⟨j + 1, by go_num, by omega, HSu.out, HB3.out⟩
          case measure => simp [intOf]; omega
        · rw [decide_eq_false hok]
          have HNm := Lib.hid (HNo1.out j hjn (by rw [← HF.out]; exact hok))
          clear hok
          go_wp2_with fail
          go_ret
          exact ⟨ret_v (x := .bool false) (by rw [decide_eq_false HNm.out]), HB3.out⟩
      · obtain rfl : j = n := by omega
        have HY := Lib.hid (HYes.out h12 HAl.out)
        go_wp2_with fail
        go_ret
        exact ⟨ret_v (x := .bool true) (by rw [decide_eq_true HY.out]), HBl.out⟩
  · have g1 : decide ((12 : Int) < (n : Int)) = true := by rw [decide_eq_true_iff]; omega
    have g2 : decide (12 < n) = true := by rw [decide_eq_true_iff]; omega
    have HN := Lib.hid (HNo.out (by omega))
    go_enter Try.func32, Try.ntmps32
    go_wp2_with fail
    go_ret
    exact ⟨ret_v (x := .bool false) (by rw [decide_eq_false HN.out]), Below.refl _ _⟩
end Go.Proofs.Ytbjgflinggelpaa.Ex

namespace Go.Proofs.Ytbjgflinggelpaa.ExM
open Go.RowKit Go.Proofs.Ytbjgflinggelpaa.BM Go.Proofs.Ytbjgflinggelpaa.LeM Go.Proofs.Ytbjgflinggelpaa.VaM Go.Proofs.Ytbjgflinggelpaa.EvM Go.Proofs.Ytbjgflinggelpaa.ScM

def pO (o : O) : List Int := o.c :: (if o.c = 0 then putV o.v else if o.c = 1 then [o.a] else [])
def pOs : List O → List Int
  | [] => []
  | o :: l => pO o ++ pOs l
def pL (l : List O) : List Int := putL l.length ++ pOs l

/-- Numbers that are ints. -/
def Rngs (l : List O) : Prop := ∀ x ∈ l, Rng x.v

theorem pOs_app (l m : List O) : pOs (l ++ m) = pOs l ++ pOs m := by
  induction l with
  | nil => rfl
  | cons o l ih => simp only [List.cons_append, pOs, ih, List.append_assoc]

theorem pOs_snoc (l : List O) (o : O) : pOs (l ++ [o]) = pOs l ++ pO o := by rw [pOs_app, pOs, pOs, List.append_nil]

theorem pO_bytes {o : O} (h : Ok o) : ∀ x ∈ pO o, (0 : Int) ≤ x ∧ x < 256 := by
  intro x hx
  unfold pO at hx
  rcases List.mem_cons.1 hx with rfl | hx
  · have h1 := h.1
    have h2 := h.2.1
    omega
  · split at hx
    · exact putV_bytes h.2.2.2.2.2.1 x hx
    · split at hx
      · obtain rfl : x = o.a := by simpa using hx
        have h1 := h.2.2.1
        have h2 := h.2.2.2.1
        omega
      · cases hx

theorem pO_len {o : O} (h : Ok o) (hr : Rng o.v) : 1 ≤ (pO o).length ∧ (pO o).length ≤ 52 := by
  unfold pO
  rw [List.length_cons]
  split
  · have := putV_len h.2.2.2.2.2.1 hr
    omega
  · split
    · simp
    · simp

theorem pOs_bytes : ∀ {l : List O}, (∀ x ∈ l, Ok x) → ∀ y ∈ pOs l, (0 : Int) ≤ y ∧ y < 256
  | [], _, y, hy => by cases hy
  | o :: l, h, y, hy => by
    rw [pOs] at hy
    rcases List.mem_append.1 hy with hy | hy
    · exact pO_bytes (h o (by simp)) y hy
    · exact pOs_bytes (fun x hx => h x (by simp [hx])) y hy

theorem pOs_len : ∀ {l : List O}, (∀ x ∈ l, Ok x) → Rngs l → (pOs l).length ≤ 52 * l.length
  | [], _, _ => by simp [pOs]
  | o :: l, h, hr => by
    have h1 := (pO_len (h o (by simp)) (hr o (by simp))).2
    have h2 := pOs_len (l := l) (fun x hx => h x (by simp [hx])) (fun x hx => hr x (by simp [hx]))
    rw [pOs, List.length_append, List.length_cons]
    omega

theorem pL_bytes {l : List O} (h : May l) : ∀ x ∈ pL l, (0 : Int) ≤ x ∧ x < 256 := bytes_app (putL_bytes _) (pOs_bytes fun _ hx => h.ok hx)

theorem pL_len {l : List O} (h : May l) (hr : Rngs l) : 1 ≤ (pL l).length ∧ (pL l).length ≤ 634 := by
  have h1 := pOs_len (fun _ hx => h.ok hx) hr
  have h2 := h.2
  have h3 := putL_len64 (n := l.length) (by omega)
  have h4 := putL_pos l.length
  rw [pL, List.length_append]
  omega

/-- A part. -/
def gO : List Int → Option (O × Nat)
  | [] => none
  | c :: r => if c = 0 then match getP r with
      | some (v, m) => some (⟨0, 0, v⟩, 1 + m)
      | none => none
    else if c = 1 then match r with
      | a :: _ => some (⟨1, a, v0⟩, 2)
      | [] => none
    else some (⟨c, 0, v0⟩, 1)

theorem gO_push (r : List Int) : gO (0 :: r) = match getP r with
    | some (v, m) => some (⟨0, 0, v⟩, 1 + m)
    | none => none := by
  simp only [gO, if_true]
theorem gO_other {c : Int} (r : List Int) (h0 : c ≠ 0) (h1 : c ≠ 1) : gO (c :: r) = some (⟨c, 0, v0⟩, 1) := by
  simp only [gO, if_neg h0, if_neg h1]

/-- So many parts. -/
def gOs : Nat → List Int → Option (List O × Nat)
  | 0, _ => some ([], 0)
  | n + 1, xs =>
    match gO xs with
    | some (x, m) => match gOs n (xs.drop m) with
      | some (l, k) => some (x :: l, m + k)
      | none => none
    | none => none

/-- An expression. -/
def gL (xs : List Int) : Option (List O × Nat) :=
  match getS xs with
  | none => none
  | some (n, u) =>
    if n ≤ 12 then
      match gOs n (xs.drop u) with
      | none => none
      | some (l, k) => if May l then some (l, u + k) else none
    else none

theorem rng_v0 : Rng v0 := ⟨by decide, by decide⟩

theorem gO_some {xs : List Int} (hb : ∀ x ∈ xs, (0 : Int) ≤ x ∧ x < 256) {o : O} {m : Nat} (h : gO xs = some (o, m)) : Rng o.v ∧ 1 ≤ m ∧ m ≤ xs.length ∧ pO o = xs.take m := by
  cases xs with
  | nil => cases h
  | cons c r =>
    have hr : ∀ x ∈ r, (0 : Int) ≤ x ∧ x < 256 := fun x hx => hb x (List.mem_cons_of_mem _ hx)
    simp only [gO] at h
    by_cases h0 : c = 0
    · rw [if_pos h0] at h
      cases hg : getP r with
      | none => rw [hg] at h; cases h
      | some p =>
        obtain ⟨v, a⟩ := p
        rw [hg] at h
        simp only [Option.some.injEq, Prod.mk.injEq] at h
        obtain ⟨rfl, rfl⟩ := h
        obtain ⟨h1, h2, h3, h4⟩ := getP_some hr hg
        refine ⟨h1, by omega, by rw [List.length_cons]; omega, ?_⟩
        rw [pO, if_pos rfl, h4, h0, Nat.add_comm, List.take_succ_cons]
    · rw [if_neg h0] at h
      by_cases h1 : c = 1
      · rw [if_pos h1] at h
        cases r with
        | nil => cases h
        | cons a r =>
          simp only [Option.some.injEq, Prod.mk.injEq] at h
          obtain ⟨rfl, rfl⟩ := h
          refine ⟨rng_v0, by omega, by simp, ?_⟩
          rw [h1]
          rfl
      · rw [if_neg h1] at h
        simp only [Option.some.injEq, Prod.mk.injEq] at h
        obtain ⟨rfl, rfl⟩ := h
        refine ⟨rng_v0, by omega, by simp, ?_⟩
        rw [pO, if_neg h0, if_neg h1]
        rfl

theorem gO_app {o : O} (hm : Ok o) (hr : Rng o.v) {ys : List Int} (hb : ∀ x ∈ ys, (0 : Int) ≤ x ∧ x < 256) : gO (pO o ++ ys) = some (o, (pO o).length) := by
  obtain ⟨c, a, v⟩ := o
  obtain ⟨h1, h2, h3, h4, h5, h6, h7⟩ := hm
  simp only at h1 h2 h3 h4 h5 h6 h7 hr
  unfold pO
  simp only
  by_cases h0 : c = 0
  · subst h0
    obtain rfl : a = 0 := by omega
    rw [if_pos rfl, List.cons_append, gO_push, getP_app hr h6 ys hb]
    simp only [List.length_cons]
    rw [Nat.add_comm]
  · rw [if_neg h0]
    obtain rfl : v = v0 := by
      rcases h7 with h | h
      · exact absurd h h0
      · exact h
    by_cases g1 : c = 1
    · subst g1
      rfl
    · obtain rfl : a = 0 := by omega
      rw [if_neg g1, List.cons_append, gO_other _ h0 g1]
      rfl

theorem gOs_some : ∀ (n : Nat) {xs : List Int} (_ : ∀ x ∈ xs, (0 : Int) ≤ x ∧ x < 256) {l : List O} {m : Nat} (_ : gOs n xs = some (l, m)),
    l.length = n ∧ Rngs l ∧ m ≤ xs.length ∧ pOs l = xs.take m
  | 0, xs, hb, l, m, h => by
    simp only [gOs, Option.some.injEq, Prod.mk.injEq] at h
    obtain ⟨rfl, rfl⟩ := h
    exact ⟨rfl, (fun f hf => by cases hf), Nat.zero_le _, rfl⟩
  | n + 1, xs, hb, l, m, h => by
    simp only [gOs] at h
    cases hg : gO xs with
    | none => rw [hg] at h; cases h
    | some p =>
      obtain ⟨x, a⟩ := p
      rw [hg] at h
      simp only at h
      obtain ⟨h1, h2, h3, h4⟩ := gO_some hb hg
      cases hr : gOs n (xs.drop a) with
      | none => rw [hr] at h; cases h
      | some q =>
        obtain ⟨r, k⟩ := q
        rw [hr] at h
        simp only [Option.some.injEq, Prod.mk.injEq] at h
        obtain ⟨rfl, rfl⟩ := h
        obtain ⟨g1, g2, g3, g4⟩ := gOs_some n (bytes_drop hb a) hr
        rw [List.length_drop] at g3
        refine ⟨by rw [List.length_cons, g1], ?_, by omega, ?_⟩
        · intro y hy
          rcases List.mem_cons.1 hy with rfl | hy
          · exact h1
          · exact g2 y hy
        · rw [pOs, h4, g4, List.take_add]

theorem gOs_app : ∀ (l : List O) (_ : ∀ x ∈ l, Rng x.v ∧ Ok x) {ys : List Int} (_ : ∀ x ∈ ys, (0 : Int) ≤ x ∧ x < 256), gOs l.length (pOs l ++ ys) = some (l, (pOs l).length)
  | [], _, ys, _ => rfl
  | x :: l, h, ys, hb => by
    have hx := h x (by simp)
    have hl : ∀ g ∈ l, Rng g.v ∧ Ok g := fun g hg => h g (by simp [hg])
    have hb' := bytes_app (pOs_bytes (fun g hg => (hl g hg).2)) hb
    simp only [List.length_cons, gOs, pOs]
    rw [List.append_assoc, gO_app hx.2 hx.1 hb']
    simp only
    rw [List.drop_left, gOs_app l hl hb]
    simp only [List.length_append]

theorem gL_some {xs : List Int} (hb : ∀ x ∈ xs, (0 : Int) ≤ x ∧ x < 256) {l : List O} {m : Nat} (h : gL xs = some (l, m)) : May l ∧ Rngs l ∧ m ≤ xs.length ∧ pL l = xs.take m := by
  unfold gL at h
  cases h2 : getS xs with
  | none => rw [h2] at h; cases h
  | some p =>
    obtain ⟨n, u⟩ := p
    rw [h2] at h
    simp only at h
    obtain ⟨b1, b2, b3⟩ := (getS_iff _ hb n u).1 h2
    by_cases hn : n ≤ 12
    · rw [if_pos hn] at h
      cases h4 : gOs n (xs.drop u) with
      | none => rw [h4] at h; cases h
      | some p =>
        obtain ⟨r, j⟩ := p
        rw [h4] at h
        simp only at h
        by_cases hm : May r
        · rw [if_pos hm] at h
          simp only [Option.some.injEq, Prod.mk.injEq] at h
          obtain ⟨rfl, rfl⟩ := h
          obtain ⟨d1, d2, d3, d4⟩ := gOs_some n (bytes_drop hb u) h4
          rw [List.length_drop] at d3
          refine ⟨hm, d2, by omega, ?_⟩
          rw [pL, d1, b3, d4, List.take_add]
        · rw [if_neg hm] at h
          cases h
    · rw [if_neg hn] at h
      cases h

/-- What is put is got, whatever stands behind. -/
theorem gL_app {l : List O} (hm : May l) (hr : Rngs l) {ys : List Int} (hb : ∀ x ∈ ys, (0 : Int) ≤ x ∧ x < 256) : gL (pL l ++ ys) = some (l, (pL l).length) := by
  have hf : ∀ x ∈ l, Ok x := fun f hf => hm.ok hf
  have b4 := bytes_app (pOs_bytes hf) hb
  have hl := hm.2
  unfold gL pL
  rw [List.append_assoc, getS_put (by omega) _ b4]
  simp only
  rw [if_pos hl, List.drop_left, gOs_app l (fun x hx => ⟨hr x hx, hf x hx⟩) hb]
  simp only
  rw [if_pos hm, List.length_append]

theorem gL_put {xs : List Int} (hb : ∀ x ∈ xs, (0 : Int) ≤ x ∧ x < 256) {l : List O} {m : Nat} (hs : May l) (hr : Rngs l) (hm : m ≤ xs.length) (hp : pL l = xs.take m) : gL xs = some (l, m) := by
  have h := gL_app hs hr (bytes_drop hb m)
  have hl := congrArg List.length hp
  rw [List.length_take, Nat.min_eq_left hm] at hl
  rw [hl, hp, List.take_append_drop] at h
  exact h

theorem pL_inj {a b : List O} (ma : May a) (mb : May b) (ra : Rngs a) (rb : Rngs b) (h : pL a = pL b) : a = b := by
  have h1 := gL_put (pL_bytes ma) (m := (pL a).length) ma ra (Nat.le_refl _) (by rw [List.take_length])
  have h2 := gL_put (pL_bytes mb) (m := (pL b).length) mb rb (Nat.le_refl _) (by rw [List.take_length])
  rw [h, h2] at h1
  simp only [Option.some.injEq, Prod.mk.injEq] at h1
  exact h1.1.symm

/-- What Put answers: the bytes. -/
def pv (l : List O) : List Int := if May l then pL l else []

theorem pv_bytes (l : List O) : ∀ x ∈ pv l, (0 : Int) ≤ x ∧ x < 256 := by
  unfold pv
  split
  · exact pL_bytes (by assumption)
  · simp

theorem pv_len {l : List O} (hr : Rngs l) : (pv l).length ≤ 634 := by
  unfold pv
  split
  · exact (pL_len (by assumption) hr).2
  · simp

/-- What Get answers. -/
def gotL : Option (List O × Nat) → List O × Nat × Bool
  | some (l, m) => (l, m, true)
  | none => ([], 0, false)
end Go.Proofs.Ytbjgflinggelpaa.ExM

namespace Go.Proofs.Ytbjgflinggelpaa.ExM
open Go.RowKit Go.Proofs.Ytbjgflinggelpaa.BM Go.Proofs.Ytbjgflinggelpaa.VaM Go.Proofs.Ytbjgflinggelpaa.EvM
open Go.Proofs.Ytbjgflinggelpaa.Va (same same_iff)

theorem v0_good : VaM.May v0 ∧ Rng v0 := ⟨by decide, by decide, by decide⟩

theorem runW_may {vs : List V} {wr : Bool} (hv : ∀ x ∈ vs, VaM.May x ∧ Rng x) : ∀ (l : List O) (p : List V), (∀ o ∈ l, VaM.May o.v ∧ Rng o.v) → (∀ x ∈ p, VaM.May x ∧ Rng x) → VaM.May (runW vs wr l p).1 ∧ Rng (runW vs wr l p).1
  | [], p, _, hp => by
    rw [runW]
    split
    · rename_i h
      exact hp _ (EvM.getD_mem (l := p) (i := 0) (by omega))
    · exact v0_good
  | o :: l, p, hl, hp => by
    rw [runW]
    split
    · refine runW_may hv l _ (fun x hx => hl x (List.mem_cons_of_mem _ hx)) (fun x hx => ?_)
      rcases List.mem_append.1 hx with hx | hx
      · exact hp x (goes_mem x hx)
      · rw [List.mem_singleton.1 hx]
        exact goes_may hv (hl o (List.mem_cons_self ..))
    · exact v0_good

theorem eval_good {e : Ev} {l : List O} (hr : ∀ x ∈ e.v, Rng x) (hl : Rngs l) : VaM.May (eval e l).1 ∧ Rng (eval e l).1 ∧ ((eval e l).2 ≠ 0 → (eval e l).1 = v0) := by
  unfold eval
  by_cases h : ExM.May l ∧ EvM.May e
  · rw [if_neg (fun k => k h)]
    have hvm : ∀ x ∈ e.v, VaM.May x ∧ Rng x := fun x hx => ⟨h.2.vok hx, hr x hx⟩
    rw [← through_is]
    have hm := runW_may (wr := false) hvm l [] (fun o ho => ⟨(h.1.ok ho).2.2.2.2.2.1, hl o ho⟩) (fun x hx => by cases hx)
    exact ⟨hm.1, hm.2, runW_err _ _ _ _⟩
  · rw [if_pos h]
    exact ⟨by decide, ⟨by decide, by decide⟩, fun _ => rfl⟩

theorem holds_own {e : Ev} {l : List O} (hr : ∀ x ∈ e.v, Rng x) (hl : Rngs l) : holds e l = (decide (l.length = 0) || same (eval e l).1 (truth true)) := by
  obtain ⟨hm, _, he⟩ := eval_good hr hl
  have h0 : decide (l = []) = decide (l.length = 0) := by
    rw [Bool.eq_iff_iff, decide_eq_true_iff, decide_eq_true_iff, List.length_eq_zero_iff]
  unfold holds
  rw [h0]
  congr 1
  rw [Bool.eq_iff_iff, decide_eq_true_iff, same_iff]
  generalize eval e l = r at hm he
  obtain ⟨⟨k, n, s⟩, z⟩ := r
  simp only at hm he ⊢
  constructor
  · rintro ⟨h1, h2, h3⟩
    subst h2 h3
    rcases hm with ⟨h4, _⟩ | ⟨h4, _⟩
    · cases h4
    · obtain rfl : s = e0 := by
        cases s with
        | mk d => rw [show d = #[] from Array.eq_empty_of_size_eq_zero h4]; rfl
      rfl
  · intro h
    injection h with h1 h2 h3
    refine ⟨?_, h1, h2⟩
    by_cases hz : z = 0
    · exact hz
    · have h4 := he hz
      injection h4 with h5
      omega
end Go.Proofs.Ytbjgflinggelpaa.ExM

namespace Go.Proofs.Ytbjgflinggelpaa.Ex
open Go.RowKit Go.Proofs.Ytbjgflinggelpaa.BM Go.Proofs.Ytbjgflinggelpaa.VaM Go.Proofs.Ytbjgflinggelpaa.Va Go.Proofs.Ytbjgflinggelpaa.ExM Go.Proofs.Ytbjgflinggelpaa.EvM

/-- Whether a part may be, by its questions one by one. -/
theorem ok_iff {x : O} {b1 b2 b3 b4 b5 b6 b7 b8 b9 : Bool} (g1 : decide (x.c < 0) = b1) (g2 : decide (10 ≤ x.c) = b2) (g3 : decide (x.a < 0) = b3) (g4 : decide (6 ≤ x.a) = b4) (g5 : (x.c != 1) = b5) (g6 : (x.a != 0) = b6) (g7 : decide (VaM.May x.v) = b7) (g8 : (x.c != 0) = b8) (g9 : (!same x.v v0) = b9) :
    Ok x ↔ b1 = false ∧ b2 = false ∧ b3 = false ∧ b4 = false ∧ (b5 = false ∨ b6 = false) ∧ b7 = true ∧ (b8 = false ∨ b9 = false) := by
  subst g1 g2 g3 g4 g5 g6 g7 g8 g9
  have h9 : (!same x.v v0) = false ↔ x.v = v0 := by rw [Bool.not_eq_false', same_iff]
  unfold Ok
  rw [h9]
  simp only [decide_eq_false_iff_not, decide_eq_true_iff, bne_eq_false_iff_eq]
  constructor
  · rintro ⟨h1, h2, h3, h4, h5, h6, h7⟩
    exact ⟨by omega, by omega, by omega, by omega, h5, h6, h7⟩
  · rintro ⟨h1, h2, h3, h4, h5, h6, h7⟩
    exact ⟨by omega, by omega, by omega, by omega, h5, h6, h7⟩

theorem okWays (b1 b2 b3 b4 b5 b6 b7 b8 b9 : Bool) :
    (b1 = true ∨ (b1 = false ∧ b2 = true) ∨ (b1 = false ∧ b2 = false ∧ b3 = true) ∨ (b1 = false ∧ b2 = false ∧ b3 = false ∧ b4 = true) ∨
      (b1 = false ∧ b2 = false ∧ b3 = false ∧ b4 = false ∧ b5 = true ∧ b6 = true) ∨
      (b1 = false ∧ b2 = false ∧ b3 = false ∧ b4 = false ∧ b5 = false ∧ b7 = false) ∨
      (b1 = false ∧ b2 = false ∧ b3 = false ∧ b4 = false ∧ b5 = true ∧ b6 = false ∧ b7 = false) ∨
      (b1 = false ∧ b2 = false ∧ b3 = false ∧ b4 = false ∧ b5 = false ∧ b7 = true ∧ b8 = true ∧ b9 = true) ∨
      (b1 = false ∧ b2 = false ∧ b3 = false ∧ b4 = false ∧ b5 = true ∧ b6 = false ∧ b7 = true ∧ b8 = true ∧ b9 = true)) ∨
    ((b1 = false ∧ b2 = false ∧ b3 = false ∧ b4 = false ∧ b5 = false ∧ b7 = true ∧ b8 = false) ∨
      (b1 = false ∧ b2 = false ∧ b3 = false ∧ b4 = false ∧ b5 = false ∧ b7 = true ∧ b8 = true ∧ b9 = false) ∨
      (b1 = false ∧ b2 = false ∧ b3 = false ∧ b4 = false ∧ b5 = true ∧ b6 = false ∧ b7 = true ∧ b8 = false) ∨
      (b1 = false ∧ b2 = false ∧ b3 = false ∧ b4 = false ∧ b5 = true ∧ b6 = false ∧ b7 = true ∧ b8 = true ∧ b9 = false)) := by
  cases b1 <;> cases b2 <;> cases b3 <;> cases b4 <;> cases b5 <;> cases b6 <;> cases b7 <;> cases b8 <;> cases b9 <;> simp

set_option maxRecDepth 100000 in
set_option maxHeartbeats 8000000 in
theorem refMay_any (l : List O) (A : Option Addr) (c : Nat) (w : World) (hS : SlO w A l c) :
    Calls Try.prog 36 #[.slice A l.length c] w fun e w' => e = .returned (.bool (decide (May l))) ∧ Below w.heap.size w w' := by
  have hl := slO_len hS
  have hmay : May l ↔ (∀ i, i < l.length → Ok (l.getD i o0)) ∧ l.length ≤ 12 := Iff.rfl
  obtain ⟨n, hn⟩ : ∃ n, n = l.length := ⟨_, rfl⟩
  rw [← hn] at hl hmay ⊢
  have HLen := Lib.hid hn
  have HS := Lib.hid hS
  have HMay := Lib.hid hmay
  clear hn hS hmay
  go_enter Try.func36, Try.ntmps36
  go_wp2_with fail
  go_loopw [3] (fun i wr => ∃ j : Nat, i = .int .i64 j ∧ j ≤ n ∧ (∀ r, r < j → Ok (l.getD r o0)) ∧ Below w.heap.size w wr) (fun i _ => n - (intOf i).toNat)
  case atStart => exact ⟨0, rfl, Nat.zero_le _, fun r hr => absurd hr (Nat.not_lt_zero r), Below.refl _ _⟩
  case round =>
    obtain ⟨j, rfl, hj, hall, hbel⟩ := hrel
    have HAl := Lib.hid hall
    have HBl := Lib.hid hbel
    clear hall hbel
    by_cases hjn : j < n
    · obtain ⟨b, q, hix, hc, _⟩ := HS.out.at j (by rw [← HLen.out]; exact hjn)
      obtain ⟨f, hf⟩ : ∃ f, f = l.getD j o0 := ⟨_, rfl⟩
      rw [← hf] at hc
      obtain ⟨x0, x1, x2, x3, x4⟩ := hc wr HBl.out
      have hi := fun W => hix W n c hjn
      have HF := Lib.hid hf
      clear hc hix hf
      have ha := (Below.refl wr.heap.size wr).alloc (Nat.le_refl _) (.cells #[.int .i64 f.c, .int .i64 f.a, .int .i64 f.v.k, .int .i64 f.v.n, .string f.v.s] 52)
      have hx2 := bxO_new wr f
      have hneq := fun W => neq_v f.v.k f.v.n 0 0 f.v.s ⟨#[]⟩ W
      obtain ⟨b1, g1⟩ : ∃ b, decide (f.c < 0) = b := ⟨_, rfl⟩
      obtain ⟨b2, g2⟩ : ∃ b, decide (10 ≤ f.c) = b := ⟨_, rfl⟩
      obtain ⟨b3, g3⟩ : ∃ b, decide (f.a < 0) = b := ⟨_, rfl⟩
      obtain ⟨b4, g4⟩ : ∃ b, decide (6 ≤ f.a) = b := ⟨_, rfl⟩
      obtain ⟨b5, g5⟩ : ∃ b, (f.c != 1) = b := ⟨_, rfl⟩
      obtain ⟨b6, g6⟩ : ∃ b, (f.a != 0) = b := ⟨_, rfl⟩
      obtain ⟨b7, g7⟩ : ∃ b, decide (VaM.May f.v) = b := ⟨_, rfl⟩
      obtain ⟨b8, g8⟩ : ∃ b, (f.c != 0) = b := ⟨_, rfl⟩
      obtain ⟨b9, g9⟩ : ∃ b, (!same f.v v0) = b := ⟨_, rfl⟩
      have HOk := Lib.hid (ok_iff g1 g2 g3 g4 g5 g6 g7 g8 g9)
      have hm := fun W => Va.refMay_any f.v.k f.v.n f.v.s W
      obtain ⟨fc, fa, fk, fn, fs⟩ := f
      simp only at x0 x1 x2 x3 x4 hneq g1 g2 g3 g4 g5 g6 g7 g8 g9 hm
      simp only [g7] at hm
      have h9 : (!same (⟨fk, fn, fs⟩ : V) ⟨0, 0, ⟨#[]⟩⟩) = b9 := g9
      simp only [h9] at hneq
      have HX2 := Lib.hid hx2
      have HB2 := Lib.hid (bt HBl.out ha)
      have HM := Lib.hid hm
      have G1 := Lib.hid g1
      have G2 := Lib.hid g2
      have G3 := Lib.hid g3
      have G4 := Lib.hid g4
      have G5 := Lib.hid g5
      have G6 := Lib.hid g6
      have G8 := Lib.hid g8
      have HNq := Lib.hid hneq
      clear ha hm hx2 g1 g2 g3 g4 g5 g6 g7 g8 g9 h9 hneq
      obtain ⟨p0, p1, p2, p3, p4⟩ := HX2.out.cells
      simp only at p0 p1 p2 p3 p4
      go_wp2_with fail
      obtain ⟨w2, hw2⟩ : ∃ w2, w2 = wr.alloc (.cells #[.int .i64 fc, .int .i64 fa, .int .i64 fk, .int .i64 fn, .string fs] 52) := ⟨_, rfl⟩
      obtain ⟨g, hg⟩ : ∃ g, g = wr.heap.size := ⟨_, rfl⟩
      rw [← hw2] at HX2 HB2 ⊢
      rw [← hg] at HX2 ⊢
      clear hw2 hg x0 x1 x2 x3 x4 p0 p1 p2 p3 p4
      refine (HM.out w2).mono ?_
      rintro e w3 ⟨rfl, hb3⟩
      have HB3 := Lib.hid (bt HB2.out hb3)
      have HX3 := Lib.hid (HX2.out.kept hb3)
      clear hb3 HB2 HX2 HM
      obtain ⟨p0, p1, p2, p3, p4⟩ := HX3.out.cells
      simp only at p0 p1 p2 p3 p4
      have g1 := G1.out
      have g2 := G2.out
      have g3 := G3.out
      have g4 := G4.out
      have g5 := G5.out
      have g6 := G6.out
      have g8 := G8.out
      have hneq := HNq.out
      clear G1 G2 G3 G4 G5 G6 G8 HNq
      rcases okWays b1 b2 b3 b4 b5 b6 b7 b8 b9 with h | h
      · have HNo := Lib.hid (show ¬ May l from fun k => by
          have h1 := (HMay.out.1 k).1 j hjn
          rw [← HF.out] at h1
          obtain ⟨k1, k2, k3, k4, k5, k6, k7⟩ := HOk.out.1 h1
          revert h
          subst k1 k2 k3 k4 k6
          rcases k5 with rfl | rfl <;> rcases k7 with rfl | rfl <;> simp)
        clear HOk
        rcases h with rfl | ⟨rfl, rfl⟩ | ⟨rfl, rfl, rfl⟩ | ⟨rfl, rfl, rfl, rfl⟩ | ⟨rfl, rfl, rfl, rfl, rfl, rfl⟩ | ⟨rfl, rfl, rfl, rfl, rfl, rfl⟩ | ⟨rfl, rfl, rfl, rfl, rfl, rfl, rfl⟩ | ⟨rfl, rfl, rfl, rfl, rfl, rfl, rfl, rfl⟩ | ⟨rfl, rfl, rfl, rfl, rfl, rfl, rfl, rfl, rfl⟩
        all_goals
          go_wp2_with fail
          go_ret
          exact ⟨ret_v (x := .bool false) (by rw [decide_eq_false HNo.out]), HB3.out⟩
      · have HY := Lib.hid (show Ok ⟨fc, fa, fk, fn, fs⟩ from HOk.out.2 (by rcases h with ⟨rfl, rfl, rfl, rfl, rfl, rfl, rfl⟩ | ⟨rfl, rfl, rfl, rfl, rfl, rfl, rfl, rfl⟩ | ⟨rfl, rfl, rfl, rfl, rfl, rfl, rfl, rfl⟩ | ⟨rfl, rfl, rfl, rfl, rfl, rfl, rfl, rfl, rfl⟩ <;> simp))
        have HGo := Lib.hid (show ∀ r, r < j + 1 → Ok (l.getD r o0) from fun r hr => by
          by_cases e : r = j
          · rw [e, ← HF.out]
            exact HY.out
          · exact HAl.out r (by omega))
        clear HOk HY
        rcases h with ⟨rfl, rfl, rfl, rfl, rfl, rfl, rfl⟩ | ⟨rfl, rfl, rfl, rfl, rfl, rfl, rfl, rfl⟩ | ⟨rfl, rfl, rfl, rfl, rfl, rfl, rfl, rfl⟩ | ⟨rfl, rfl, rfl, rfl, rfl, rfl, rfl, rfl, rfl⟩
        all_goals
          go_wp2_with fail
          go_roundw
          case rel => exact ⟨j + 1, by go_num, by omega, HGo.out, HB3.out⟩
          case measure => simp [intOf]; omega
    · obtain rfl : j = n := by omega
      by_cases h12 : j ≤ 12
      · have hd : decide ((j : Int) ≤ 12) = true := by rw [decide_eq_true_iff]; omega
        have HY := Lib.hid (HMay.out.2 ⟨HAl.out, h12⟩)
        clear h12
        go_wp2_with fail
        go_ret
        exact ⟨ret_v (x := .bool true) (by rw [decide_eq_true HY.out]), HBl.out⟩
      · have hd : decide ((j : Int) ≤ 12) = false := by rw [decide_eq_false_iff_not]; omega
        have HNo := Lib.hid (show ¬ May l from fun h => h12 (HMay.out.1 h).2)
        clear h12
        go_wp2_with fail
        go_ret
        exact ⟨ret_v (x := .bool false) (by rw [decide_eq_false HNo.out]), HBl.out⟩

theorem eqO_iff {a b : List O} (h : a.length = b.length) : a = b ↔ ∀ j, j < a.length → a.getD j o0 = b.getD j o0 := by
  constructor
  · intro e j _
    rw [e]
  · intro hall
    refine List.ext_getElem h (fun j h1 h2 => ?_)
    have := hall j h1
    rw [List.getD_eq_getElem?_getD, List.getD_eq_getElem?_getD, List.getElem?_eq_getElem h1, List.getElem?_eq_getElem h2] at this
    exact this

set_option maxRecDepth 100000 in
set_option maxHeartbeats 2000000 in
theorem refSame_any (a b : List O) (A : Option Addr) (c : Nat) (B : Option Addr) (d : Nat) (w : World) (h : SlO w A a c) (k : SlO w B b d) :
    Calls Try.prog 23 #[.slice A a.length c, .slice B b.length d] w fun e w' => e = .returned (.bool (decide (a = b))) ∧ Below w.heap.size w w' := by
  have hl := slO_len h
  have hm := slO_len k
  have hq := @eqO_iff a b
  have hne : a.length ≠ b.length → a ≠ b := fun h e => h (by rw [e])
  obtain ⟨n, hn⟩ : ∃ n, n = a.length := ⟨_, rfl⟩
  obtain ⟨r, hr⟩ : ∃ r, r = b.length := ⟨_, rfl⟩
  rw [← hn] at hl ⊢
  rw [← hr] at hm ⊢
  rw [← hn, ← hr] at hq hne
  have HN := Lib.hid hn
  have HR := Lib.hid hr
  have HS := Lib.hid h
  have HT := Lib.hid k
  have HQ := Lib.hid hq
  have HNe := Lib.hid hne
  clear hn hr h k hq hne
  by_cases g : n = r
  · subst g
    have HQ2 := Lib.hid (HQ.out rfl)
    have ee : ((n : Int) != n) = false := by simp
    clear HQ HNe
    go_enter Try.func23, Try.ntmps23
    go_wp2_with fail
    go_loopw [5] (fun i wr => ∃ j : Nat, i = .int .i64 j ∧ j ≤ n ∧ (∀ x, x < j → a.getD x o0 = b.getD x o0) ∧ Below w.heap.size w wr) (fun i _ => n - (intOf i).toNat)
    case atStart => exact ⟨0, rfl, Nat.zero_le _, fun x hx => absurd hx (Nat.not_lt_zero x), Below.refl _ _⟩
    case round =>
      obtain ⟨j, rfl, hj, hsame, hbel⟩ := hrel
      have HSm := Lib.hid hsame
      have HBl := Lib.hid hbel
      clear hsame hbel
      by_cases hjn : j < n
      · obtain ⟨b1, q1, hix1, hc1, _⟩ := HS.out.at j (by rw [← HN.out]; exact hjn)
        obtain ⟨b2, q2, hix2, hc2, _⟩ := HT.out.at j (by rw [← HR.out]; exact hjn)
        obtain ⟨f1, hf1⟩ : ∃ f, f = a.getD j o0 := ⟨_, rfl⟩
        obtain ⟨f2, hf2⟩ : ∃ f, f = b.getD j o0 := ⟨_, rfl⟩
        rw [← hf1] at hc1
        rw [← hf2] at hc2
        have hi1 := fun W => hix1 W n c hjn
        have hi2 := fun W => hix2 W n d hjn
        have HF1 := Lib.hid hf1
        have HF2 := Lib.hid hf2
        have hneq := fun W => neq_o f1 f2 W
        obtain ⟨s, hs⟩ : ∃ s, s = decide (f1 = f2) := ⟨_, rfl⟩
        simp only [← hs] at hneq
        unfold agO at hneq
        have HSs := Lib.hid hs
        obtain ⟨x0, x1, x2, x3, x4⟩ := hc1 wr HBl.out
        obtain ⟨y0, y1, y2, y3, y4⟩ := hc2 wr HBl.out
        clear hc1 hc2 hix1 hix2 hf1 hf2 hs
        obtain ⟨ac, aa, ak, an, az⟩ := f1
        obtain ⟨bc, ba, bk, bn, bz⟩ := f2
        simp only at x0 x1 x2 x3 x4 y0 y1 y2 y3 y4 hneq
        cases s with
        | true =>
          have HSu := Lib.hid (show ∀ x, x < j + 1 → a.getD x o0 = b.getD x o0 from fun x hx => by
            by_cases e : x = j
            · rw [e, ← HF1.out, ← HF2.out]
              exact of_decide_eq_true HSs.out.symm
            · exact HSm.out x (by omega))
          go_wp2_with fail
          go_quiet (fail)
          go_wp2_with fail
          go_roundw
          case rel => exact ⟨j + 1, by go_num, by omega, HSu.out, below_drewN HBl.out _⟩
          case measure => simp [intOf]; omega
        | false =>
          have HNo := Lib.hid (show ¬ a = b from fun h => by
            have h1 := HQ2.out.1 h j hjn
            rw [← HF1.out, ← HF2.out] at h1
            exact absurd h1 (of_decide_eq_false HSs.out.symm))
          go_wp2_with fail
          go_quiet (fail)
          go_wp2_with fail
          go_ret
          exact ⟨ret_v (x := .bool false) (by rw [decide_eq_false HNo.out]), below_drewN HBl.out _⟩
      · obtain rfl : j = n := by omega
        have HYes := Lib.hid (HQ2.out.2 HSm.out)
        go_wp2_with fail
        go_ret
        exact ⟨ret_v (x := .bool true) (by rw [decide_eq_true HYes.out]), HBl.out⟩
  · have g' : ((n : Int) != r) = true := by rw [bne_iff_ne]; omega
    have HNo := Lib.hid (HNe.out g)
    clear g
    go_enter Try.func23, Try.ntmps23
    go_wp2_with fail
    go_ret
    exact ⟨ret_v (x := .bool false) (by rw [decide_eq_false HNo.out]), Below.refl _ _⟩
end Go.Proofs.Ytbjgflinggelpaa.Ex

namespace Go.Proofs.Ytbjgflinggelpaa.Sc
open Go.RowKit Go.Proofs.Ytbjgflinggelpaa.BM Go.Proofs.Ytbjgflinggelpaa.VaM Go.Proofs.Ytbjgflinggelpaa.Va Go.Proofs.Ytbjgflinggelpaa.ScM

theorem letter_any (c : Int) (w : World) : Calls Try.prog 70 #[.int .i32 c] w fun e w' => e = .returned (.bool (smallB c)) ∧ w = w' := by
  by_cases h1 : 97 ≤ c <;> by_cases h2 : c ≤ 122
  all_goals
    go_enter Try.func70, Try.ntmps70
    go_wp2_with fail
    go_ret
    exact ⟨ret_v (by simp [smallB, h1, h2]), rfl⟩

theorem beh_any (c : Int) (w : World) : Calls Try.prog 71 #[.int .i32 c] w fun e w' => e = .returned (.bool (behB c)) ∧ w = w' := by
  by_cases h0 : c = 95
  · subst h0
    go_enter Try.func71, Try.ntmps71
    go_wp2_with fail
    go_ret
    exact ⟨ret_v (by simp [behB]), rfl⟩
  · have hb : (c == 95) = false := by simpa using h0
    by_cases h1 : 48 ≤ c <;> by_cases h2 : c ≤ 57
    all_goals
      go_enter Try.func71, Try.ntmps71
      go_wp2_with fail
      go_ret
      exact ⟨ret_v (by simp [behB, h0, h1, h2]), rfl⟩

/-- A sign of more bytes than one. -/
theorem high_no {x : Int} (h : 128 ≤ x) : smallB x = false ∧ behB x = false := by
  have h1 : ¬ x ≤ 122 := by omega
  have h2 : ¬ x ≤ 57 := by omega
  have h3 : ¬ x = 95 := by omega
  simp [smallB, behB, h1, h2, h3]

theorem byte_at (s : ByteArray) (pos : Nat) (h : pos < s.size) : (bl s).getD pos 0 = ((s[pos]'h).toNat : Int) := by
  have hl : pos < (bl s).length := by rw [bl_len]; exact h
  rw [List.getD_eq_getElem?_getD, List.getElem?_eq_getElem hl, Option.getD_some]
  simp only [bl, List.getElem_map, Array.getElem_toList]
  rfl

set_option maxRecDepth 100000 in
theorem Name_any (s : ByteArray) (w : World) (hs : s.size ≤ maxLen) : Calls Try.prog 53 #[.string s] w fun e w' => e = .returned (.bool (decide (Nm s))) ∧ Below w.heap.size w w' := by
  unfold maxLen at hs
  by_cases h12 : s.size ≤ 12
  · go_enter Try.func53, Try.ntmps53
    go_wp2_with fail
    go_loopw [10] (fun _ wr => ∃ pos : Nat, wr = w.iter s pos ∧ pos ≤ s.size ∧ okPre (bl s) pos) (fun _ wr => s.size - wr.iterPos w.heap.size)
    case atStart => exact ⟨0, rfl, Nat.zero_le _, fun j hj => absurd hj (Nat.not_lt_zero j)⟩
    case round =>
      obtain ⟨pos, rfl, hpos, hpre⟩ := hrel
      have HPre := Lib.hid hpre
      clear hpre
      by_cases hp : pos < s.size
      · obtain ⟨x, hx⟩ : ∃ x, x = (bl s).getD pos 0 := ⟨_, rfl⟩
        have hxb := byte_at s pos hp
        rw [← hx] at hxb
        have no : smallB x = false → (pos = 0 ∨ behB x = false) → ¬ Nm s := fun h1 h2 hn => by
          have h := hn.2.2 pos (by rw [bl_len]; exact hp)
          unfold okAt at h
          rw [← hx, h1] at h
          rcases h with h | ⟨h3, h4⟩
          · cases h
          · rcases h2 with h2 | h2
            · exact h3 h2
            · rw [h2] at h4
              cases h4
        have yes : (smallB x = true ∨ (pos ≠ 0 ∧ behB x = true)) → okPre (bl s) (pos + 1) := fun h => okPre_succ HPre.out (by unfold okAt; rw [← hx]; exact h)
        have HNo := Lib.hid no
        have HYes := Lib.hid yes
        clear no yes
        by_cases ha : (s[pos]'hp).toNat < 128
        · have hnx : ∀ ty, (Instr.next (.pointer (some ⟨w.heap.size, 0, none⟩)) true ty).run Try.prog (w.iter s pos) = .ok (.tuple #[.bool true, .int .i64 pos, .int .i32 x]) (w.iter s (pos + 1)) := fun ty => by
            rw [hxb]
            exact run_next_ascii w s pos ty hp ha
          have HL := Lib.hid (fun W => letter_any x W)
          have HBh := Lib.hid (fun W => beh_any x W)
          obtain ⟨S, hS⟩ : ∃ S, S = smallB x := ⟨_, rfl⟩
          obtain ⟨T, hT⟩ : ∃ T, T = behB x := ⟨_, rfl⟩
          rw [← hS] at HL HNo HYes
          rw [← hT] at HBh HNo HYes
          clear hx hxb hS hT ha
          go_wp2_with fail
          refine (HL.out _).mono ?_
          rintro e w1 ⟨rfl, rfl⟩
          cases S
          · by_cases h0 : pos = 0
            · subst h0
              go_wp2_with fail
              go_ret
              exact ⟨ret_v (x := .bool false) (by rw [decide_eq_false (HNo.out (by trivial) (Or.inl (by trivial)))]), (Below.refl _ _).alloc (Nat.le_refl _) _⟩
            · have hz : ((pos : Int) == 0) = false := by rw [beq_eq_false_iff_ne]; omega
              go_wp2_with fail
              refine (HBh.out _).mono ?_
              rintro e w1 ⟨rfl, rfl⟩
              cases T
              · go_wp2_with fail
                go_ret
                exact ⟨ret_v (x := .bool false) (by rw [decide_eq_false (HNo.out (by trivial) (Or.inr (by trivial)))]), (Below.refl _ _).alloc (Nat.le_refl _) _⟩
              · go_wp2_with fail
                go_roundw
                case rel => exact ⟨pos + 1, rfl, by omega, HYes.out (Or.inr ⟨h0, by trivial⟩)⟩
                case measure => simp; omega
          · go_wp2_with fail
            go_roundw
            case rel => exact ⟨pos + 1, rfl, by omega, HYes.out (Or.inl (by trivial))⟩
            case measure => simp; omega
        · have hdh := decode_high s pos hp (by omega)
          have hxh := high_no (x := x) (by omega)
          have hnx : ∀ ty, (Instr.next (.pointer (some ⟨w.heap.size, 0, none⟩)) true ty).run Try.prog (w.iter s pos) = _ := fun ty => run_next_any w s pos ty hp
          obtain ⟨d, hd⟩ : ∃ d, d = (Utf8.decode s pos).1 := ⟨_, rfl⟩
          obtain ⟨e, he⟩ : ∃ e, e = (Utf8.decode s pos).2 := ⟨_, rfl⟩
          simp only [← hd, ← he] at hnx hdh
          have hdn := high_no (x := (d : Int)) (by omega)
          have HL := Lib.hid (fun W => letter_any (d : Int) W)
          have HBh := Lib.hid (fun W => beh_any (d : Int) W)
          rw [hdn.1] at HL
          rw [hdn.2] at HBh
          have HX := Lib.hid hxh
          clear hx hxb ha hdh hxh hdn hd he
          go_wp2_with fail
          refine (HL.out _).mono ?_
          rintro e w1 ⟨rfl, rfl⟩
          by_cases h0 : pos = 0
          · subst h0
            go_wp2_with fail
            go_ret
            exact ⟨ret_v (x := .bool false) (by rw [decide_eq_false (HNo.out HX.out.1 (Or.inl (by trivial)))]), (Below.refl _ _).alloc (Nat.le_refl _) _⟩
          · have hz : ((pos : Int) == 0) = false := by rw [beq_eq_false_iff_ne]; omega
            go_wp2_with fail
            refine (HBh.out _).mono ?_
            rintro e w1 ⟨rfl, rfl⟩
            go_wp2_with fail
            go_ret
            exact ⟨ret_v (x := .bool false) (by rw [decide_eq_false (HNo.out HX.out.1 (Or.inr HX.out.2))]), (Below.refl _ _).alloc (Nat.le_refl _) _⟩
      · obtain rfl : pos = s.size := by omega
        have hnx : ∀ ty, (Instr.next (.pointer (some ⟨w.heap.size, 0, none⟩)) true ty).run Try.prog (w.iter s s.size) = _ := fun ty => run_next_end w s s.size ty hp
        by_cases h0 : s.size = 0
        · rw [h0] at hnx
          obtain rfl : s = ⟨#[]⟩ := size_e0.1 h0
          have he : (ByteArray.mk #[]).toList.isEmpty = true := by rw [ByteArray.toList_eq]; rfl
          go_wp2_with fail
          go_ret
          exact ⟨ret_v (x := .bool false) (by rw [decide_eq_false (fun h => by have := (nm_size h).1; omega)]), (Below.refl _ _).alloc (Nat.le_refl _) _⟩
        · have hse := str_e0 h0
          have HN := Lib.hid (show Nm s from ⟨by rw [bl_len]; omega, by rw [bl_len]; omega, by rw [bl_len]; exact HPre.out⟩)
          go_wp2_with fail
          go_ret
          exact ⟨ret_v (x := .bool true) (by rw [decide_eq_true HN.out]), (Below.refl _ _).alloc (Nat.le_refl _) _⟩
  · have HN := Lib.hid (show ¬ Nm s from fun h => by have := (nm_size h).2; omega)
    go_enter Try.func53, Try.ntmps53
    go_wp2_with fail
    go_ret
    exact ⟨ret_v (x := .bool false) (by rw [decide_eq_false HN.out]), Below.refl _ _⟩

/-- The order of the document's answers: byte by byte. -/
theorem refOk {x : Int} : (smallB x = true ↔ 97 ≤ x ∧ x ≤ 122) ∧ (behB x = true ↔ x = 95 ∨ (48 ≤ x ∧ x ≤ 57)) := by
  simp [smallB, behB]

set_option maxRecDepth 100000 in
theorem refName_any (s : ByteArray) (w : World) (hs : s.size ≤ maxLen) : Calls Try.prog 58 #[.string s] w fun e w' => e = .returned (.bool (decide (Nm s))) ∧ w = w' := by
  unfold maxLen at hs
  go_enter Try.func58, Try.ntmps58
  go_wp2_with fail
  go_loop [3] (fun i => ∃ pos : Nat, i = .int .i64 pos ∧ pos ≤ s.size ∧ okPre (bl s) pos) (fun i => s.size - (intOf i).toNat)
  case atStart => exact ⟨0, rfl, Nat.zero_le _, fun j hj => absurd hj (Nat.not_lt_zero j)⟩
  case round =>
    obtain ⟨pos, rfl, hpos, hpre⟩ := hrel
    have HPre := Lib.hid hpre
    clear hpre
    by_cases hp : pos < s.size
    · have hix := fun W => index_s s pos hp W
      obtain ⟨x, hx⟩ : ∃ x, x = (bl s).getD pos 0 := ⟨_, rfl⟩
      rw [← hx] at hix
      have no : ¬ (97 ≤ x ∧ x ≤ 122) → (pos = 0 ∨ ¬ (x = 95 ∨ (48 ≤ x ∧ x ≤ 57))) → ¬ Nm s := fun h1 h2 hn => by
        have h := hn.2.2 pos (by rw [bl_len]; exact hp)
        unfold okAt at h
        rw [← hx, refOk.1, refOk.2] at h
        rcases h with h | ⟨h3, h4⟩
        · exact h1 h
        · rcases h2 with h2 | h2
          · exact h3 h2
          · exact h2 h4
      have yes : ((97 ≤ x ∧ x ≤ 122) ∨ (pos ≠ 0 ∧ (x = 95 ∨ (48 ≤ x ∧ x ≤ 57)))) → okPre (bl s) (pos + 1) := fun h => okPre_succ HPre.out (by unfold okAt; rw [← hx, refOk.1, refOk.2]; exact h)
      have HNo := Lib.hid no
      have HYes := Lib.hid yes
      clear no yes hx
      have hways : (97 ≤ x ∧ x ≤ 122) ∨ (x < 97 ∧ pos = 0) ∨ (122 < x ∧ pos = 0) ∨ (122 < x ∧ pos ≠ 0) ∨ (x = 95 ∧ pos ≠ 0) ∨ (x < 48 ∧ pos ≠ 0) ∨ (57 < x ∧ x < 97 ∧ x ≠ 95 ∧ pos ≠ 0) ∨ (48 ≤ x ∧ x ≤ 57 ∧ pos ≠ 0) := by omega
      rcases hways with ⟨h1, h2⟩ | ⟨h1, h2⟩ | ⟨h1, h2⟩ | ⟨h1, h2⟩ | ⟨rfl, h2⟩ | ⟨h1, h2⟩ | ⟨h1, h2, h3, h4⟩ | ⟨h1, h2, h3⟩
      · go_wp2_with fail
        go_round
        case rel => exact ⟨pos + 1, by go_num, by omega, HYes.out (Or.inl ⟨h1, h2⟩)⟩
        case measure => simp [intOf]; omega
      · have hz : ((pos : Int) == 0) = true := by rw [beq_iff_eq]; omega
        have H2 := Lib.hid h2
        clear h2
        go_wp2_with fail
        go_ret
        exact ⟨ret_v (x := .bool false) (by rw [decide_eq_false (HNo.out (by omega) (Or.inl H2.out))]), rfl⟩
      · have hz : ((pos : Int) == 0) = true := by rw [beq_iff_eq]; omega
        have h97 : 97 ≤ x := by omega
        have hd : decide (x ≤ 122) = false := by rw [decide_eq_false_iff_not]; omega
        have H2 := Lib.hid h2
        clear h2
        go_wp2_with fail
        go_ret
        exact ⟨ret_v (x := .bool false) (by rw [decide_eq_false (HNo.out (by omega) (Or.inl H2.out))]), rfl⟩
      · have hz : ((pos : Int) == 0) = false := by rw [beq_eq_false_iff_ne]; omega
        have hn : (x != 95) = true := by rw [bne_iff_ne]; omega
        have h3 : 97 ≤ x := by omega
        have h4 : 57 < x := by omega
        have h5 : 48 ≤ x := by omega
        have hd : decide (x ≤ 122) = false := by rw [decide_eq_false_iff_not]; omega
        go_wp2_with fail
        go_ret
        exact ⟨ret_v (x := .bool false) (by rw [decide_eq_false (HNo.out (by omega) (Or.inr (by omega)))]), rfl⟩
      · have hz : ((pos : Int) == 0) = false := by rw [beq_eq_false_iff_ne]; omega
        go_wp2_with fail
        go_round
        case rel => exact ⟨pos + 1, by go_num, by omega, HYes.out (Or.inr ⟨h2, Or.inl rfl⟩)⟩
        case measure => simp [intOf]; omega
      · have hz : ((pos : Int) == 0) = false := by rw [beq_eq_false_iff_ne]; omega
        have hn : (x != 95) = true := by rw [bne_iff_ne]; omega
        go_wp2_with fail
        go_ret
        exact ⟨ret_v (x := .bool false) (by rw [decide_eq_false (HNo.out (by omega) (Or.inr (by omega)))]), rfl⟩
      · have hz : ((pos : Int) == 0) = false := by rw [beq_eq_false_iff_ne]; omega
        have hn : (x != 95) = true := by rw [bne_iff_ne]; omega
        go_wp2_with fail
        go_ret
        exact ⟨ret_v (x := .bool false) (by rw [decide_eq_false (HNo.out (by omega) (Or.inr (by omega)))]), rfl⟩
      · have hz : ((pos : Int) == 0) = false := by rw [beq_eq_false_iff_ne]; omega
        have hn : (x != 95) = true := by rw [bne_iff_ne]; omega
        go_wp2_with fail
        go_round
        case rel => exact ⟨pos + 1, by go_num, by omega, HYes.out (Or.inr ⟨h3, Or.inr ⟨h1, h2⟩⟩)⟩
        case measure => simp [intOf]; omega
    · obtain rfl : pos = s.size := by omega
      by_cases h0 : s.size = 0
      · obtain rfl := size_e0.1 h0
        go_wp2_with fail
        go_ret
        exact ⟨ret_v (x := .bool false) (by rw [decide_eq_false (fun h => by have := (nm_size h).1; rw [e0_size] at this; omega)]), rfl⟩
      · have hd : decide (Nm s) = decide ((s.size : Int) ≤ 12) := by
          rw [decide_eq_decide]
          exact ⟨fun h => by have := (nm_size h).2; omega, fun h => ⟨by rw [bl_len]; omega, by rw [bl_len]; omega, by rw [bl_len]; exact HPre.out⟩⟩
        have HD := Lib.hid hd
        clear hd
        go_wp2_with fail
        go_ret
        exact ⟨ret_v (x := .bool (decide ((s.size : Int) ≤ 12))) (by rw [HD.out]), rfl⟩
end Go.Proofs.Ytbjgflinggelpaa.Sc

namespace Go.Proofs.Ytbjgflinggelpaa.Ev
open Go.RowKit Go.Proofs.Ytbjgflinggelpaa.BM Go.Proofs.Ytbjgflinggelpaa.LM Go.Proofs.Ytbjgflinggelpaa.LeM Go.Proofs.Ytbjgflinggelpaa.EvM
open Go.Proofs.Ytbjgflinggelpaa.VaM (V Rng e0)
open Go.Proofs.Ytbjgflinggelpaa.Va (Bx Bx2 bx_new_t bx2_new ret_v SlV slV_len slV_none SlV.kept SlV.at SlV.take CellV)
open Go.Proofs.Ytbjgflinggelpaa.ScM (Nm)

/-- What is asked of an event's own parts. -/
def Fine (e : Ev) : Prop := e.s.size ≤ maxLen ∧ -9223372036854775808 ≤ e.t ∧ e.t ≤ 9223372036854775807

theorem may_ways (nm : ByteArray) (t : Int) (n : Nat) : ¬ Nm nm ∨ (Nm nm ∧ t < 0) ∨ (Nm nm ∧ 0 ≤ t ∧ 1125899906842624 < t) ∨ (Nm nm ∧ 0 ≤ t ∧ t ≤ 1125899906842624 ∧ 6 < n) ∨ (Nm nm ∧ 0 ≤ t ∧ t ≤ 1125899906842624 ∧ n ≤ 6) := by
  by_cases h : Nm nm
  · simp only [h, true_and, not_true, false_or]
    omega
  · exact Or.inl h

set_option maxRecDepth 100000 in
set_option maxHeartbeats 2000000 in
theorem May_any (e : Ev) (A : Option Addr) (c : Nat) (w : World) (hS : SlV w A e.v c) (hz : Fine e) :
    Calls Try.prog 38 #[.agg #[.string e.s, .int .i64 e.t, .slice A e.v.length c]] w fun r w' => r = .returned (.bool (decide (May e))) ∧ Below w.heap.size w w' := by
  obtain ⟨nm, t, l⟩ := e
  simp only at hS ⊢
  have hl := slV_len hS
  have HN := Lib.hid (fun W => Sc.Name_any nm W hz.1)
  have hmay : May ⟨nm, t, l⟩ ↔ Nm nm ∧ 0 ≤ t ∧ t ≤ 1125899906842624 ∧ l.length ≤ 6 ∧ VGd l l.length := Iff.rfl
  obtain ⟨n, hn⟩ : ∃ n, n = l.length := ⟨_, rfl⟩
  rw [← hn] at hl hmay ⊢
  have HLen := Lib.hid hn
  have HS := Lib.hid hS
  have HMay := Lib.hid hmay
  have HX0 := Lib.hid (bx_new_t w 27 (.string nm) (.int .i64 t) (.slice A n c))
  have HB0 := Lib.hid ((Below.refl w.heap.size w).alloc (Nat.le_refl _) (.cells #[.string nm, .int .i64 t, .slice A n c] 27))
  clear hn hS hmay hz
  obtain ⟨⟨p0, p1, p2⟩, _⟩ := HX0.out
  go_enter Try.func38, Try.ntmps38
  go_wp2_with fail
  refine (HN.out _).mono ?_
  rintro e w1 ⟨rfl, hb1⟩
  have HX1 := Lib.hid (HX0.out.kept hb1)
  have HB1 := Lib.hid (bt HB0.out hb1)
  clear hb1 HX0 HB0 HN p0 p1 p2
  obtain ⟨⟨p0, p1, p2⟩, _⟩ := HX1.out
  rcases may_ways nm t n with m1 | ⟨m1, m2⟩ | ⟨m1, m2, m3⟩ | ⟨m1, m2, m3, m4⟩ | ⟨m1, m2, m3, m4⟩
  · rw [decide_eq_false m1]
    have HM := Lib.hid (show ¬ May ⟨nm, t, l⟩ from fun h => m1 (HMay.out.1 h).1)
    clear m1
    go_wp2_with fail
    go_ret
    exact ⟨ret_v (x := .bool false) (by rw [decide_eq_false HM.out]), HB1.out⟩
  · rw [decide_eq_true m1]
    have HM := Lib.hid (show ¬ May ⟨nm, t, l⟩ from fun h => by have := (HMay.out.1 h).2.1; omega)
    clear m1
    go_wp2_with fail
    go_ret
    exact ⟨ret_v (x := .bool false) (by rw [decide_eq_false HM.out]), HB1.out⟩
  · rw [decide_eq_true m1]
    have HM := Lib.hid (show ¬ May ⟨nm, t, l⟩ from fun h => by have := (HMay.out.1 h).2.2.1; omega)
    have hd0 : decide (t < 0) = false := by rw [decide_eq_false_iff_not]; omega
    clear m1
    go_wp2_with fail
    go_ret
    exact ⟨ret_v (x := .bool false) (by rw [decide_eq_false HM.out]), HB1.out⟩
  · rw [decide_eq_true m1]
    have HM := Lib.hid (show ¬ May ⟨nm, t, l⟩ from fun h => by have := (HMay.out.1 h).2.2.2.1; omega)
    have hd0 : decide (t < 0) = false := by rw [decide_eq_false_iff_not]; omega
    clear m1
    go_wp2_with fail
    go_ret
    exact ⟨ret_v (x := .bool false) (by rw [decide_eq_false HM.out]), HB1.out⟩
  · rw [decide_eq_true m1]
    have HM := Lib.hid (show May ⟨nm, t, l⟩ ↔ VGd l n from ⟨fun h => (HMay.out.1 h).2.2.2.2, fun h => HMay.out.2 ⟨m1, m2, m3, m4, h⟩⟩)
    have hd0 : decide (t < 0) = false := by rw [decide_eq_false_iff_not]; omega
    clear m1 HMay
    go_wp2_with fail
    clear p0 p1 p2
    go_loopw [28] (fun i wr => ∃ j : Nat, i = .int .i64 j ∧ j ≤ n ∧ VGd l j ∧ Below w.heap.size w wr) (fun i _ => n - (intOf i).toNat)
    case atStart => exact ⟨0, rfl, Nat.zero_le _, fun r hr => absurd hr (Nat.not_lt_zero r), HB1.out⟩
    case round =>
      obtain ⟨j, rfl, hj, hgood, hbel⟩ := hrel
      have HG := Lib.hid hgood
      have HBl := Lib.hid hbel
      clear hgood hbel
      by_cases hjn : j < n
      · obtain ⟨b, q, hix, hc, hsz, _⟩ := HS.out.at v0 j (by rw [← HLen.out]; exact hjn)
        obtain ⟨⟨fk, fn, fs⟩, hf⟩ : ∃ f, f = l.getD j v0 := ⟨_, rfl⟩
        rw [← hf] at hc
        obtain ⟨c0, c1, c2⟩ := hc wr HBl.out
        simp only at c0 c1 c2
        have hi := fun W => hix W n c hjn
        have HF := Lib.hid hf
        have HV := Lib.hid (fun W => Va.May_any fk fn fs W)
        have ha2 := (Below.refl wr.heap.size wr).alloc (Nat.le_refl _) (.cells #[.int .i64 fk, .int .i64 fn, .string fs] 38)
        have HB2 := Lib.hid (bt HBl.out ha2)
        obtain ⟨⟨y0, y1, y2⟩, _⟩ := bx_new_t wr 38 (.int .i64 fk) (.int .i64 fn) (.string fs)
        clear hc hix hf ha2
        by_cases hok : VaM.May ⟨fk, fn, fs⟩
        · rw [decide_eq_true hok] at HV
          have HGo := Lib.hid (HG.out.succ (by rw [← HF.out]; exact hok))
          clear hok
          go_wp2_with fail
          refine (HV.out _).mono ?_
          rintro e w3 ⟨rfl, hb3⟩
          have HB3 := Lib.hid (bt HB2.out hb3)
          clear hb3 HV y0 y1 y2 c0 c1 c2 hi
          go_wp2_with fail
          go_roundw
          case rel => exact ⟨j + 1, by go_num, by omega, HGo.out, HB3.out⟩
          case measure => simp [intOf]; omega
        · rw [decide_eq_false hok] at HV
          have HNo := Lib.hid (show ¬ May ⟨nm, t, l⟩ from fun h => hok (by have := HM.out.1 h j hjn; rw [← HF.out] at this; exact this))
          clear hok
          go_wp2_with fail
          refine (HV.out _).mono ?_
          rintro e w3 ⟨rfl, hb3⟩
          have HB3 := Lib.hid (bt HB2.out hb3)
          clear hb3 HV y0 y1 y2 c0 c1 c2 hi
          go_wp2_with fail
          go_ret
          exact ⟨ret_v (x := .bool false) (by rw [decide_eq_false HNo.out]), HB3.out⟩
      · obtain rfl : j = n := by omega
        have HYes := Lib.hid (HM.out.2 HG.out)
        go_wp2_with fail
        go_ret
        exact ⟨ret_v (x := .bool true) (by rw [decide_eq_true HYes.out]), HBl.out⟩

set_option maxRecDepth 100000 in
set_option maxHeartbeats 2000000 in
theorem refMay_any (e : Ev) (A : Option Addr) (c : Nat) (w : World) (hS : SlV w A e.v c) (hz : Fine e) :
    Calls Try.prog 39 #[.agg #[.string e.s, .int .i64 e.t, .slice A e.v.length c]] w fun r w' => r = .returned (.bool (decide (May e))) ∧ Below w.heap.size w w' := by
  obtain ⟨nm, t, l⟩ := e
  simp only at hS ⊢
  have hl := slV_len hS
  have HN := Lib.hid (fun W => Sc.refName_any nm W hz.1)
  have hmay : May ⟨nm, t, l⟩ ↔ Nm nm ∧ 0 ≤ t ∧ t ≤ 1125899906842624 ∧ l.length ≤ 6 ∧ VGd l l.length := Iff.rfl
  obtain ⟨n, hn⟩ : ∃ n, n = l.length := ⟨_, rfl⟩
  rw [← hn] at hl hmay ⊢
  have HLen := Lib.hid hn
  have HS := Lib.hid hS
  have HMay := Lib.hid hmay
  have HX0 := Lib.hid (bx_new_t w 27 (.string nm) (.int .i64 t) (.slice A n c))
  have HB0 := Lib.hid ((Below.refl w.heap.size w).alloc (Nat.le_refl _) (.cells #[.string nm, .int .i64 t, .slice A n c] 27))
  clear hn hS hmay hz
  obtain ⟨⟨p0, p1, p2⟩, _⟩ := HX0.out
  go_enter Try.func39, Try.ntmps39
  go_wp2_with fail
  refine (HN.out _).mono ?_
  rintro e w1 ⟨rfl, rfl⟩
  obtain ⟨w1, hw1⟩ : ∃ w1, w1 = w.alloc (.cells #[.string nm, .int .i64 t, .slice A n c] 27) := ⟨_, rfl⟩
  rw [← hw1] at HB0 HX0 p0 p1 p2 ⊢
  clear HN hw1
  rcases may_ways nm t n with m1 | ⟨m1, m2⟩ | ⟨m1, m2, m3⟩ | ⟨m1, m2, m3, m4⟩ | ⟨m1, m2, m3, m4⟩
  · rw [decide_eq_false m1]
    have HM := Lib.hid (show ¬ May ⟨nm, t, l⟩ from fun h => m1 (HMay.out.1 h).1)
    clear m1
    go_wp2_with fail
    go_ret
    exact ⟨ret_v (x := .bool false) (by rw [decide_eq_false HM.out]), HB0.out⟩
  · rw [decide_eq_true m1]
    have HM := Lib.hid (show ¬ May ⟨nm, t, l⟩ from fun h => by have := (HMay.out.1 h).2.1; omega)
    clear m1
    go_wp2_with fail
    go_ret
    exact ⟨ret_v (x := .bool false) (by rw [decide_eq_false HM.out]), HB0.out⟩
  · rw [decide_eq_true m1]
    have HM := Lib.hid (show ¬ May ⟨nm, t, l⟩ from fun h => by have := (HMay.out.1 h).2.2.1; omega)
    have hd0 : decide (t < 0) = false := by rw [decide_eq_false_iff_not]; omega
    clear m1
    go_wp2_with fail
    go_ret
    exact ⟨ret_v (x := .bool false) (by rw [decide_eq_false HM.out]), HB0.out⟩
  · rw [decide_eq_true m1]
    have HM := Lib.hid (show ¬ May ⟨nm, t, l⟩ from fun h => by have := (HMay.out.1 h).2.2.2.1; omega)
    have hd0 : decide (t < 0) = false := by rw [decide_eq_false_iff_not]; omega
    clear m1
    go_wp2_with fail
    go_ret
    exact ⟨ret_v (x := .bool false) (by rw [decide_eq_false HM.out]), HB0.out⟩
  · rw [decide_eq_true m1]
    have HM := Lib.hid (show May ⟨nm, t, l⟩ ↔ VGd l n from ⟨fun h => (HMay.out.1 h).2.2.2.2, fun h => HMay.out.2 ⟨m1, m2, m3, m4, h⟩⟩)
    have hd0 : decide (t < 0) = false := by rw [decide_eq_false_iff_not]; omega
    clear m1 HMay
    go_wp2_with fail
    clear p0 p1 p2
    go_loopw [4] (fun i wr => ∃ j : Nat, i = .int .i64 j ∧ j ≤ n ∧ VGd l j ∧ Below w1.heap.size w1 wr) (fun i _ => n - (intOf i).toNat)
    case atStart => exact ⟨0, rfl, Nat.zero_le _, fun r hr => absurd hr (Nat.not_lt_zero r), Below.refl _ _⟩
    case round =>
      obtain ⟨j, rfl, hj, hgood, hbel⟩ := hrel
      have HG := Lib.hid hgood
      have HBl := Lib.hid hbel
      obtain ⟨⟨_, _, x2⟩, _⟩ := HX0.out.kept HBl.out
      clear hgood hbel
      by_cases hjn : j < n
      · obtain ⟨b, q, hix, hc, hsz, _⟩ := HS.out.at v0 j (by rw [← HLen.out]; exact hjn)
        obtain ⟨⟨fk, fn, fs⟩, hf⟩ : ∃ f, f = l.getD j v0 := ⟨_, rfl⟩
        rw [← hf] at hc
        obtain ⟨c0, c1, c2⟩ := hc wr (bt HB0.out HBl.out)
        simp only at c0 c1 c2
        have hi := fun W => hix W n c hjn
        have HF := Lib.hid hf
        have HV := Lib.hid (fun W => Va.refMay_any fk fn fs W)
        clear hc hix hf
        by_cases hok : VaM.May ⟨fk, fn, fs⟩
        · rw [decide_eq_true hok] at HV
          have HGo := Lib.hid (HG.out.succ (by rw [← HF.out]; exact hok))
          clear hok
          go_wp2_with fail
          refine (HV.out _).mono ?_
          rintro e w3 ⟨rfl, hb3⟩
          have HB3 := Lib.hid (bt HBl.out hb3)
          clear hb3 HV c0 c1 c2 hi x2
          go_wp2_with fail
          go_roundw
          case rel => exact ⟨j + 1, by go_num, by omega, HGo.out, HB3.out⟩
          case measure => simp [intOf]; omega
        · rw [decide_eq_false hok] at HV
          have HNo := Lib.hid (show ¬ May ⟨nm, t, l⟩ from fun h => hok (by have := HM.out.1 h j hjn; rw [← HF.out] at this; exact this))
          clear hok
          go_wp2_with fail
          refine (HV.out _).mono ?_
          rintro e w3 ⟨rfl, hb3⟩
          have HB3 := Lib.hid (bt HBl.out hb3)
          clear hb3 HV c0 c1 c2 hi x2
          go_wp2_with fail
          go_ret
          exact ⟨ret_v (x := .bool false) (by rw [decide_eq_false HNo.out]), bt HB0.out HB3.out⟩
      · obtain rfl : j = n := by omega
        have HYes := Lib.hid (HM.out.2 HG.out)
        go_wp2_with fail
        go_ret
        exact ⟨ret_v (x := .bool true) (by rw [decide_eq_true HYes.out]), bt HB0.out HBl.out⟩
end Go.Proofs.Ytbjgflinggelpaa.Ev

namespace Go.Proofs.Ytbjgflinggelpaa.Sc
open Go.RowKit Go.Proofs.Ytbjgflinggelpaa.BM Go.Proofs.Ytbjgflinggelpaa.VaM Go.Proofs.Ytbjgflinggelpaa.Va Go.Proofs.Ytbjgflinggelpaa.ScM

theorem elem_f : Try.prog.underlying 22 = some (.slice (Try.prog.elem 22)) := by kernel_rfl
theorem size_f (w : World) : (sizeOf (Try.prog.elem 22)).run Try.prog w = .ok 2 w := by kernel_rfl

/-- l[j] -/
theorem index_f (w : World) (b o len cap j : Nat) (h : j < len) : (Instr.indexAt 22 (.slice (some ⟨b, o, none⟩) len cap) (.int .i64 (j : Int))).run Try.prog w = .ok (.pointer (some ⟨b, o + j * 2, none⟩)) w := by
  rw [run_indexAt_slice w _ _ _ _ _ _ elem_f, if_pos (by omega), size_f]
  simp only [Result.andThen, Int.toNat_natCast, Addr.add_lit]

/-- l[:k] -/
theorem cut_f (w : World) (A : Option Addr) (len cap k : Nat) (hk : k ≤ cap) :
    (Instr.sliceAt 22 (.slice A len cap) none (some (.int .i64 (k : Int))) none).run Try.prog w = .ok (.slice A k cap) w := by
  rw [run_sliceAt_slice w _ _ _ _ _ elem_f, run_slice_h w _ _ _ _ elem_f .i64 (k : Int) (by omega) (by omega), size_f]
  simp only [Result.andThen, sliced, Int.toNat_natCast, Nat.zero_mul, Nat.sub_zero]
  congr 2
  split
  · rfl
  · cases A <;> simp [Addr.add]

/-- A field's two cells, wherever they lie. -/
def CellF (w : World) (b q : Nat) (f : F) : Prop := w.cell? ⟨b, q, none⟩ = some (.string f.s) ∧ w.cell? ⟨b, q + 1, none⟩ = some (.int .i64 f.k)

theorem CellF.kept {w w' : World} {b q : Nat} {f : F} (h : CellF w b q f) (hb : Below w.heap.size w w') : CellF w' b q f := by
  obtain ⟨h0, h1⟩ := h
  exact ⟨(hb.cell (p := ⟨b, q, none⟩) (World.block_lt_of_cell? w _ h0)).trans h0, (hb.cell (p := ⟨b, q + 1, none⟩) (World.block_lt_of_cell? w _ h1)).trans h1⟩

/-- Where fields lie. -/
def IsF (w : World) (A : Option Addr) (l : List F) : Prop := 0 < l.length → ∃ b o, A = some ⟨b, o, none⟩ ∧ ∀ j, j < l.length → CellF w b (o + j * 2) (l.getD j d0)

/-- A slice of fields: where it lies, its length and its capacity; each name's size is an int. -/
def SlF (w : World) (A : Option Addr) (l : List F) (c : Nat) : Prop := IsF w A l ∧ l.length ≤ c ∧ (A = none → c = 0) ∧ c ≤ maxLen ∧ ∀ f ∈ l, f.s.size ≤ maxLen

theorem IsF.kept {w w' : World} {A : Option Addr} {l : List F} (h : IsF w A l) (hb : Below w.heap.size w w') : IsF w' A l := by
  intro h0
  obtain ⟨b, o, e, hc⟩ := h h0
  exact ⟨b, o, e, fun j hj => (hc j hj).kept hb⟩

theorem SlF.kept {w w' : World} {A : Option Addr} {l : List F} {c : Nat} (h : SlF w A l c) (hb : Below w.heap.size w w') : SlF w' A l c := ⟨h.1.kept hb, h.2⟩

theorem slF_none (w : World) : SlF w none [] 0 := ⟨fun h => absurd h (Nat.not_lt_zero _), Nat.le_refl _, fun _ => rfl, Nat.zero_le _, fun f hf => by cases hf⟩

theorem SlF.take {w : World} {A : Option Addr} {l : List F} {c : Nat} (h : SlF w A l c) (i : Nat) : SlF w A (l.take i) c := by
  obtain ⟨h1, h2, h3, h4, h5⟩ := h
  refine ⟨fun h0 => ?_, by rw [List.length_take]; omega, h3, h4, fun f hf => h5 f (List.mem_of_mem_take hf)⟩
  rw [List.length_take] at h0
  obtain ⟨b, o, e, hc⟩ := h1 (by omega)
  refine ⟨b, o, e, fun j hj => ?_⟩
  rw [List.length_take] at hj
  have e2 : (l.take i).getD j d0 = l.getD j d0 := by
    rw [List.getD_eq_getElem?_getD, List.getD_eq_getElem?_getD, List.getElem?_take, if_pos (by omega)]
  rw [e2]
  exact hc j (by omega)

/-- The j-th of them. -/
theorem SlF.at {w : World} {A : Option Addr} {l : List F} {c : Nat} (h : SlF w A l c) (j : Nat) (hj : j < l.length) :
    ∃ b q, (∀ W n k, j < n → (Instr.indexAt 22 (.slice A n k) (.int .i64 (j : Int))).run Try.prog W = .ok (.pointer (some ⟨b, q, none⟩)) W) ∧ (∀ W, Below w.heap.size w W → CellF W b q (l.getD j d0)) ∧ (l.getD j d0).s.size ≤ maxLen := by
  obtain ⟨h1, h2, h3, h4, h5⟩ := h
  obtain ⟨b, o, rfl, hc⟩ := h1 (by omega)
  exact ⟨b, o + j * 2, fun W n k hn => index_f W b o n k j hn, fun W hW => (hc j hj).kept hW, h5 _ (getD_mem hj)⟩

theorem slF_len {w : World} {A : Option Addr} {l : List F} {c : Nat} (h : SlF w A l c) : l.length ≤ 9223372036854775807 := by
  have h1 := h.2.1
  have h2 := h.2.2.2.1
  unfold maxLen at h2
  omega

/-- Fields elsewhere stay. -/
theorem slF_grown {w w' : World} {A : Option Addr} {l : List F} {c b : Nat} (h : SlF w A l c) (hg : w.grownBy w' (some b)) (hb : ∀ a, A = some a → a.block ≠ b) : SlF w' A l c := by
  refine ⟨fun hx => ?_, h.2⟩
  obtain ⟨g, o, e, hc⟩ := h.1 hx
  have hne : some g ≠ some b := fun e' => hb _ e (by injection e')
  exact ⟨g, o, e, fun j hj => ⟨hg.cell (hc j hj).1 hne, hg.cell (hc j hj).2 hne⟩⟩

/-- What is asked of a schema's own parts. -/
def Fine (s : Sc) : Prop := s.s.size ≤ maxLen ∧ -9223372036854775808 ≤ s.v ∧ s.v ≤ 9223372036854775807

set_option maxRecDepth 100000 in
/-- ==, of two fields. -/
theorem eql_f (s t : ByteArray) (k j : Int) (w : World) :
    (binOp .eql 63 (.agg #[.string s, .int .i64 k]) (.agg #[.string t, .int .i64 j])).run Try.prog w = .ok (.bool (decide ((⟨s, k⟩ : F) = ⟨t, j⟩))) w := by
  have hs : decide ((⟨s, k⟩ : F) = ⟨t, j⟩) = ((s.toList == t.toList) && (k == j)) := by
    rw [toList_beq, Bool.eq_iff_iff]
    simp
  rw [hs]
  simp only [run_eql_struct]
  go_simp
  by_cases h3 : s.toList = t.toList
  · by_cases h1 : k = j
    · simp [h1, h3]
    · simp [h1, h3]
  · simp [h3]

set_option maxRecDepth 100000 in
/-- !=, of two fields. -/
theorem neq_f (s t : ByteArray) (k j : Int) (w : World) :
    (binOp .neq 63 (.agg #[.string s, .int .i64 k]) (.agg #[.string t, .int .i64 j])).run Try.prog w = .ok (.bool (!decide ((⟨s, k⟩ : F) = ⟨t, j⟩))) w := by
  have h := eql_f s t k j w
  rw [run_eql_struct] at h
  rw [run_neq_struct]
  cases hr : (Op.equalIn 10000 63 (.agg #[.string s, .int .i64 k]) (.agg #[.string t, .int .i64 j])).run Try.prog w with
  | ok b w' =>
    rw [hr] at h
    simp only [Result.andThen_ok] at h ⊢
    injection h with h1 h2
    injection h1 with h1
    rw [h1, h2]
  | halt x w' =>
    rw [hr] at h
    cases h
end Go.Proofs.Ytbjgflinggelpaa.Sc

namespace Go.Proofs.Ytbjgflinggelpaa.Sc
open Go.RowKit Go.Proofs.Ytbjgflinggelpaa.BM Go.Proofs.Ytbjgflinggelpaa.VaM Go.Proofs.Ytbjgflinggelpaa.Va Go.Proofs.Ytbjgflinggelpaa.ScM

set_option maxRecDepth 100000 in
theorem mayField_any (s : ByteArray) (k : Int) (w : World) (hs : s.size ≤ maxLen) :
    Calls Try.prog 54 #[.agg #[.string s, .int .i64 k]] w fun e w' => e = .returned (.bool (decide (FOk ⟨s, k⟩))) ∧ Below w.heap.size w w' := by
  have HB := Lib.hid ((Below.refl w.heap.size w).alloc (Nat.le_refl _) (.cells #[.string s, .int .i64 k] 63))
  have HX := Lib.hid (bx2_new w 63 (.string s) (.int .i64 k))
  have HN := Lib.hid (fun W => Name_any s W hs)
  have hd : decide (FOk ⟨s, k⟩) = (decide (Nm s) && (decide (0 ≤ k) && decide (k < 4))) := by
    rw [Bool.eq_iff_iff, decide_eq_true_iff]
    simp [FOk]
  have HD := Lib.hid hd
  obtain ⟨N, hN⟩ : ∃ N, N = decide (Nm s) := ⟨_, rfl⟩
  simp only [← hN] at HN HD
  clear hd hN
  go_enter Try.func54, Try.ntmps54
  go_wp2_with fail
  refine (HN.out _).mono ?_
  rintro e w1 ⟨rfl, hb⟩
  have HB1 := Lib.hid (bt HB.out hb)
  obtain ⟨⟨p0, p1⟩, _⟩ := HX.out.kept hb
  clear hb HB HX
  cases N
  · go_wp2_with fail
    go_ret
    exact ⟨ret_v (x := .bool false) (by rw [HD.out]; rfl), HB1.out⟩
  · have hw : k < 0 ∨ (0 ≤ k ∧ k < 4) ∨ (0 ≤ k ∧ 4 ≤ k) := by omega
    rcases hw with h0 | ⟨h0, h4⟩ | ⟨h0, h4⟩
    · have d0 : decide (0 ≤ k) = false := by rw [decide_eq_false_iff_not]; omega
      go_wp2_with fail
      go_ret
      exact ⟨ret_v (x := .bool false) (by rw [HD.out]; simp [d0]), HB1.out⟩
    · go_wp2_with fail
      go_ret
      exact ⟨ret_v (x := .bool true) (by rw [HD.out]; simp [h0, h4]), HB1.out⟩
    · have d4 : decide (k < 4) = false := by rw [decide_eq_false_iff_not]; omega
      go_wp2_with fail
      go_ret
      exact ⟨ret_v (x := .bool false) (by rw [HD.out]; simp [h0, d4]), HB1.out⟩

theorem has_take {l : List F} {s : ByteArray} : ∀ {j : Nat} (_ : j ≤ l.length), (¬ Has (l.take j) s ↔ ∀ i, i < j → (l.getD i d0).s ≠ s) := by
  intro j hj
  constructor
  · intro h i hi e
    refine h ⟨l.getD i d0, ?_, e⟩
    have e2 : (l.take j).getD i d0 = l.getD i d0 := by
      rw [List.getD_eq_getElem?_getD, List.getD_eq_getElem?_getD, List.getElem?_take, if_pos hi]
    rw [← e2]
    exact getD_mem (by rw [List.length_take]; omega)
  · rintro h ⟨f, hf, e⟩
    obtain ⟨i, hi, rfl⟩ := List.getElem_of_mem hf
    rw [List.length_take] at hi
    refine h i (by omega) ?_
    rw [← e, List.getElem_take, List.getD_eq_getElem?_getD, List.getElem?_eq_getElem (by omega)]
    rfl

set_option maxRecDepth 100000 in
theorem has_any (A : Option Addr) (l : List F) (c : Nat) (s : ByteArray) (w : World) (h : SlF w A l c) :
    Calls Try.prog 55 #[.slice A l.length c, .string s] w fun e w' => e = .returned (.bool (decide (Has l s))) ∧ Below w.heap.size w w' := by
  have hl := slF_len h
  have hno : ¬ Has l s ↔ ∀ i, i < l.length → (l.getD i d0).s ≠ s := by
    have h1 := has_take (s := s) (Nat.le_refl l.length)
    rw [List.take_length] at h1
    exact h1
  obtain ⟨n, hn⟩ : ∃ n, n = l.length := ⟨_, rfl⟩
  rw [← hn] at hl hno ⊢
  have HNo := Lib.hid hno
  have HLen := Lib.hid hn
  have HS := Lib.hid h
  clear hno hn h
  go_enter Try.func55, Try.ntmps55
  go_wp2_with fail
  go_loopw [9] (fun i wr => ∃ j : Nat, i = .int .i64 j ∧ j ≤ n ∧ (∀ r, r < j → (l.getD r d0).s ≠ s) ∧ Below w.heap.size w wr) (fun i _ => n - (intOf i).toNat)
  case atStart => exact ⟨0, rfl, Nat.zero_le _, fun r hr => absurd hr (Nat.not_lt_zero r), Below.refl _ _⟩
  case round =>
    obtain ⟨j, rfl, hj, hne, hbel⟩ := hrel
    have HNe := Lib.hid hne
    have HBl := Lib.hid hbel
    clear hne hbel
    by_cases hjn : j < n
    · obtain ⟨b, q, hix, hc, _⟩ := HS.out.at j (by rw [← HLen.out]; exact hjn)
      obtain ⟨⟨fs, fk⟩, hf⟩ : ∃ f, f = l.getD j d0 := ⟨_, rfl⟩
      rw [← hf] at hc
      obtain ⟨c0, c1⟩ := hc wr HBl.out
      simp only at c0 c1
      have hi := fun W => hix W n c hjn
      have HF := Lib.hid hf
      obtain ⟨⟨p0, p1⟩, _⟩ := bx2_new wr 63 (.string fs) (.int .i64 fk)
      have HB2 := Lib.hid (bt HBl.out ((Below.refl wr.heap.size wr).alloc (Nat.le_refl _) (.cells #[.string fs, .int .i64 fk] 63)))
      clear hc hix hf
      by_cases he : fs = s
      · have hee : (fs.toList == s.toList) = true := by rw [he]; simp
        have HY := Lib.hid (show Has l s from Classical.byContradiction fun hh => HNo.out.1 hh j hjn (by rw [← HF.out]; exact he))
        clear he
        go_wp2_with fail
        go_ret
        exact ⟨ret_v (x := .bool true) (by rw [decide_eq_true HY.out]), HB2.out⟩
      · have hee := str_ne he
        have HX := Lib.hid he
        clear he
        go_wp2_with fail
        go_roundw
        case rel =>
          refine ⟨j + 1, by go_num, by omega, fun r hr => ?_, HB2.out⟩
          by_cases e : r = j
          · rw [e, ← HF.out]
            exact HX.out
          · exact HNe.out r (by omega)
        case measure => simp [intOf]; omega
    · obtain rfl : j = n := by omega
      have HY := Lib.hid (HNo.out.2 HNe.out)
      go_wp2_with fail
      go_ret
      exact ⟨ret_v (x := .bool false) (by rw [decide_eq_false HY.out]), HBl.out⟩

set_option maxRecDepth 100000 in
set_option maxHeartbeats 2000000 in
theorem May_any (s : Sc) (A : Option Addr) (c : Nat) (w : World) (hS : SlF w A s.f c) (hz : Fine s) :
    Calls Try.prog 31 #[.agg #[.string s.s, .int .i64 s.v, .slice A s.f.length c]] w fun e w' => e = .returned (.bool (decide (May s))) ∧ Below w.heap.size w w' := by
  obtain ⟨nm, v, l⟩ := s
  simp only at hS ⊢
  have hl := slF_len hS
  have hcap := hS.2.1
  have HN := Lib.hid (fun W => Name_any nm W hz.1)
  have hmay : May ⟨nm, v, l⟩ ↔ Nm nm ∧ 1 ≤ v ∧ v ≤ 1000 ∧ l.length ≤ 6 ∧ Gd l l.length := Iff.rfl
  obtain ⟨n, hn⟩ : ∃ n, n = l.length := ⟨_, rfl⟩
  rw [← hn] at hl hmay hcap ⊢
  have HLen := Lib.hid hn
  have HS := Lib.hid hS
  have HMay := Lib.hid hmay
  have HX0 := Lib.hid (bx_new_t w 24 (.string nm) (.int .i64 v) (.slice A n c))
  have HB0 := Lib.hid ((Below.refl w.heap.size w).alloc (Nat.le_refl _) (.cells #[.string nm, .int .i64 v, .slice A n c] 24))
  clear hn hS hmay hz
  go_enter Try.func31, Try.ntmps31
  go_wp2_with fail
  refine (HN.out _).mono ?_
  rintro e w1 ⟨rfl, hb1⟩
  have HX1 := Lib.hid (HX0.out.kept hb1)
  have HB1 := Lib.hid (bt HB0.out hb1)
  obtain ⟨⟨p0, p1, p2⟩, _⟩ := HX1.out
  clear hb1 HX0 HB0 HN
  have hways : ¬ Nm nm ∨ (Nm nm ∧ v < 1) ∨ (Nm nm ∧ 1 ≤ v ∧ 1000 < v) ∨ (Nm nm ∧ 1 ≤ v ∧ v ≤ 1000 ∧ 6 < n) ∨ (Nm nm ∧ 1 ≤ v ∧ v ≤ 1000 ∧ n ≤ 6) := by
    by_cases h : Nm nm
    · simp only [h, true_and, not_true, false_or]
      omega
    · exact Or.inl h
  rcases hways with m1 | ⟨m1, m2⟩ | ⟨m1, m2, m3⟩ | ⟨m1, m2, m3, m4⟩ | ⟨m1, m2, m3, m4⟩
  · rw [decide_eq_false m1]
    have HM := Lib.hid (show ¬ May ⟨nm, v, l⟩ from fun h => m1 (HMay.out.1 h).1)
    clear m1
    go_wp2_with fail
    go_ret
    exact ⟨ret_v (x := .bool false) (by rw [decide_eq_false HM.out]), HB1.out⟩
  · rw [decide_eq_true m1]
    have HM := Lib.hid (show ¬ May ⟨nm, v, l⟩ from fun h => by have := (HMay.out.1 h).2.1; omega)
    clear m1
    go_wp2_with fail
    go_ret
    exact ⟨ret_v (x := .bool false) (by rw [decide_eq_false HM.out]), HB1.out⟩
  · rw [decide_eq_true m1]
    have HM := Lib.hid (show ¬ May ⟨nm, v, l⟩ from fun h => by have := (HMay.out.1 h).2.2.1; omega)
    clear m1
    go_wp2_with fail
    go_ret
    exact ⟨ret_v (x := .bool false) (by rw [decide_eq_false HM.out]), HB1.out⟩
  · rw [decide_eq_true m1]
    have HM := Lib.hid (show ¬ May ⟨nm, v, l⟩ from fun h => by have := (HMay.out.1 h).2.2.2.1; omega)
    clear m1
    go_wp2_with fail
    go_ret
    exact ⟨ret_v (x := .bool false) (by rw [decide_eq_false HM.out]), HB1.out⟩
  · rw [decide_eq_true m1]
    have HM := Lib.hid (show May ⟨nm, v, l⟩ ↔ Gd l n from ⟨fun h => (HMay.out.1 h).2.2.2.2, fun h => HMay.out.2 ⟨m1, m2, m3, m4, h⟩⟩)
    clear m1 HMay
    go_wp2_with fail
    clear p0 p1 p2
    go_loopw [28] (fun i wr => ∃ j : Nat, i = .int .i64 j ∧ j ≤ n ∧ Gd l j ∧ Below w1.heap.size w1 wr) (fun i _ => n - (intOf i).toNat)
    case atStart => exact ⟨0, rfl, Nat.zero_le _, fun r hr => absurd hr (Nat.not_lt_zero r), Below.refl _ _⟩
    case round =>
      obtain ⟨j, rfl, hj, hgood, hbel⟩ := hrel
      have HG := Lib.hid hgood
      have HBl := Lib.hid hbel
      clear hgood hbel
      by_cases hjn : j < n
      · obtain ⟨b, q, hix, hc, hsz⟩ := HS.out.at j (by rw [← HLen.out]; exact hjn)
        have hiff : GdAt l j ↔ FOk (l.getD j d0) ∧ ¬ Has (l.take j) (l.getD j d0).s := Iff.rfl
        obtain ⟨⟨fs, fk⟩, hf⟩ : ∃ f, f = l.getD j d0 := ⟨_, rfl⟩
        rw [← hf] at hc hsz hiff
        obtain ⟨c0, c1⟩ := hc wr (bt HB1.out HBl.out)
        simp only at c0 c1 hsz hiff
        have hi := fun W => hix W n c hjn
        have HIff := Lib.hid hiff
        have HF := Lib.hid (fun W => mayField_any fs fk W hsz)
        have ha2 := (Below.refl wr.heap.size wr).alloc (Nat.le_refl _) (.cells #[.string fs, .int .i64 fk] 63)
        have HX2 := Lib.hid ((HX1.out.kept HBl.out).kept ha2)
        have HY2 := Lib.hid (bx2_new wr 63 (.string fs) (.int .i64 fk))
        have HB2 := Lib.hid (bt HBl.out ha2)
        have hlt : (l.take j).length = j := by rw [List.length_take, ← HLen.out]; omega
        have hHas := fun W (hW : Below w.heap.size w W) => has_any A (l.take j) c fs W ((HS.out.take j).kept hW)
        simp only [hlt] at hHas
        have HHas := Lib.hid hHas
        have hcut := fun W => cut_f W A n c j (by omega)
        clear hc hix hf ha2 hiff hlt hHas
        go_wp2_with fail
        obtain ⟨b2, hb2⟩ : ∃ b2, b2 = wr.heap.size := ⟨_, rfl⟩
        obtain ⟨w2, hw2⟩ : ∃ w2, w2 = wr.alloc (.cells #[.string fs, .int .i64 fk] 63) := ⟨_, rfl⟩
        rw [← hw2] at HX2 HY2 HB2 ⊢
        rw [← hb2] at HY2 ⊢
        clear hw2 hb2 c0 c1 hi
        by_cases hok : FOk ⟨fs, fk⟩
        · rw [decide_eq_true hok] at HF
          have HOk := Lib.hid hok
          clear hok
          refine Reg.G_start (by kernel_rfl) (by repeat (first | exact Reg.frameless_bodyPost | refine Reg.frameless_then ?_ | refine Reg.frameless_inBlock ?_)) (fun W hW => ?_)
          obtain ⟨⟨y0, y1⟩, _⟩ := HY2.out
          have x0 := Reg.later_cell hW y0
          have x1 := Reg.later_cell hW y1
          clear y0 y1
          first | (refine Reg.G_step (i := 0) rfl (by kernel_rfl) (by rfl) (fun K hK => ?_); go_big_quiet_op; refine hK _ ?_; clear hK K) | (refine Reg.G_skip (i := 0) rfl (by kernel_rfl) (by rfl) ?_; simp only [Act.put, List.setIfInBounds_toArray, List.set_cons_zero, List.set_cons_succ])
          refine Reg.G_event (i := 1) rfl (by kernel_rfl) (by rfl) (fun K hK => ?_)
          go_simp
          refine (HF.out _).mono ?_
          rintro e v0 ⟨rfl, hv0⟩
          refine hK _ _ hv0 ?_
          clear hK K x0 x1
          have hw0 := bt hW hv0
          obtain ⟨⟨y0, _⟩, _⟩ := HY2.out.kept hW
          obtain ⟨⟨_, _, z2⟩, _⟩ := HX2.out.kept hW
          have x0 := Reg.later_cell hv0 y0
          have x2 := Reg.later_cell hv0 z2
          clear y0 z2
          first | (refine Reg.G_step (i := 2) rfl (by kernel_rfl) (by rfl) (fun K hK => ?_); go_big_quiet_op; refine hK _ ?_; clear hK K) | (refine Reg.G_skip (i := 2) rfl (by kernel_rfl) (by rfl) ?_; simp only [Act.put, List.setIfInBounds_toArray, List.set_cons_zero, List.set_cons_succ])
          first | (refine Reg.G_step (i := 3) rfl (by kernel_rfl) (by rfl) (fun K hK => ?_); go_big_quiet_op; refine hK _ ?_; clear hK K) | (refine Reg.G_skip (i := 3) rfl (by kernel_rfl) (by rfl) ?_; simp only [Act.put, List.setIfInBounds_toArray, List.set_cons_zero, List.set_cons_succ])
          first | (refine Reg.G_step (i := 4) rfl (by kernel_rfl) (by rfl) (fun K hK => ?_); go_big_quiet_op; refine hK _ ?_; clear hK K) | (refine Reg.G_skip (i := 4) rfl (by kernel_rfl) (by rfl) ?_; simp only [Act.put, List.setIfInBounds_toArray, List.set_cons_zero, List.set_cons_succ])
          first | (refine Reg.G_step (i := 5) rfl (by kernel_rfl) (by rfl) (fun K hK => ?_); go_big_quiet_op; refine hK _ ?_; clear hK K) | (refine Reg.G_skip (i := 5) rfl (by kernel_rfl) (by rfl) ?_; simp only [Act.put, List.setIfInBounds_toArray, List.set_cons_zero, List.set_cons_succ])
          first | (refine Reg.G_step (i := 6) rfl (by kernel_rfl) (by rfl) (fun K hK => ?_); go_big_quiet_op; refine hK _ ?_; clear hK K) | (refine Reg.G_skip (i := 6) rfl (by kernel_rfl) (by rfl) ?_; simp only [Act.put, List.setIfInBounds_toArray, List.set_cons_zero, List.set_cons_succ])
          first | (refine Reg.G_step (i := 7) rfl (by kernel_rfl) (by rfl) (fun K hK => ?_); go_big_quiet_op; refine hK _ ?_; clear hK K) | (refine Reg.G_skip (i := 7) rfl (by kernel_rfl) (by rfl) ?_; simp only [Act.put, List.setIfInBounds_toArray, List.set_cons_zero, List.set_cons_succ])
          first | (refine Reg.G_step (i := 8) rfl (by kernel_rfl) (by rfl) (fun K hK => ?_); go_big_quiet_op; refine hK _ ?_; clear hK K) | (refine Reg.G_skip (i := 8) rfl (by kernel_rfl) (by rfl) ?_; simp only [Act.put, List.setIfInBounds_toArray, List.set_cons_zero, List.set_cons_succ])
          first | (refine Reg.G_step (i := 9) rfl (by kernel_rfl) (by rfl) (fun K hK => ?_); go_big_quiet_op; refine hK _ ?_; clear hK K) | (refine Reg.G_skip (i := 9) rfl (by kernel_rfl) (by rfl) ?_; simp only [Act.put, List.setIfInBounds_toArray, List.set_cons_zero, List.set_cons_succ])
          refine Reg.G_event (i := 10) rfl (by kernel_rfl) (by rfl) (fun K hK => ?_)
          go_simp
          refine (HHas.out _ (bt HB1.out (bt HB2.out hw0))).mono ?_
          rintro e v1 ⟨rfl, hv1⟩
          refine hK _ _ hv1 ?_
          clear hK K x0 x2
          have hw1 := bt hw0 hv1
          first | (refine Reg.G_step (i := 11) rfl (by kernel_rfl) (by rfl) (fun K hK => ?_); go_big_quiet_op; refine hK _ ?_; clear hK K) | (refine Reg.G_skip (i := 11) rfl (by kernel_rfl) (by rfl) ?_; simp only [Act.put, List.setIfInBounds_toArray, List.set_cons_zero, List.set_cons_succ])
          refine Reg.G_done (by kernel_rfl) ?_
          have HB3 := Lib.hid (bt HB2.out hw1)
          by_cases hh : Has (l.take j) fs
          · rw [decide_eq_true hh]
            have HNo := Lib.hid (show ¬ May ⟨nm, v, l⟩ from fun h => (HIff.out.1 (HM.out.1 h j hjn)).2 hh)
            clear hh hw0 hw1 hv0 hv1 hW
            go_wp2_with fail
            go_ret
            exact ⟨ret_v (x := .bool false) (by rw [decide_eq_false HNo.out]), bt HB1.out HB3.out⟩
          · rw [decide_eq_false hh]
            have HGo := Lib.hid (HG.out.succ (HIff.out.2 ⟨HOk.out, hh⟩))
            clear hh hw0 hw1 hv0 hv1 hW
            go_wp2_with fail
            go_roundw
            case rel => exact ⟨j + 1, by go_num, by omega, HGo.out, HB3.out⟩
            case measure => simp [intOf]; omega
        · rw [decide_eq_false hok] at HF
          have HNo := Lib.hid (show ¬ May ⟨nm, v, l⟩ from fun h => hok (HIff.out.1 (HM.out.1 h j hjn)).1)
          clear hok
          refine Reg.G_start (by kernel_rfl) (by repeat (first | exact Reg.frameless_bodyPost | refine Reg.frameless_then ?_ | refine Reg.frameless_inBlock ?_)) (fun W hW => ?_)
          obtain ⟨⟨y0, y1⟩, _⟩ := HY2.out
          have x0 := Reg.later_cell hW y0
          have x1 := Reg.later_cell hW y1
          clear y0 y1
          first | (refine Reg.G_step (i := 0) rfl (by kernel_rfl) (by rfl) (fun K hK => ?_); go_big_quiet_op; refine hK _ ?_; clear hK K) | (refine Reg.G_skip (i := 0) rfl (by kernel_rfl) (by rfl) ?_; simp only [Act.put, List.setIfInBounds_toArray, List.set_cons_zero, List.set_cons_succ])
          refine Reg.G_event (i := 1) rfl (by kernel_rfl) (by rfl) (fun K hK => ?_)
          go_simp
          refine (HF.out _).mono ?_
          rintro e v0 ⟨rfl, hv0⟩
          refine hK _ _ hv0 ?_
          clear hK K x0 x1
          have hw0 := bt hW hv0
          first | (refine Reg.G_step (i := 2) rfl (by kernel_rfl) (by rfl) (fun K hK => ?_); go_big_quiet_op; refine hK _ ?_; clear hK K) | (refine Reg.G_skip (i := 2) rfl (by kernel_rfl) (by rfl) ?_; simp only [Act.put, List.setIfInBounds_toArray, List.set_cons_zero, List.set_cons_succ])
          first | (refine Reg.G_step (i := 3) rfl (by kernel_rfl) (by rfl) (fun K hK => ?_); go_big_quiet_op; refine hK _ ?_; clear hK K) | (refine Reg.G_skip (i := 3) rfl (by kernel_rfl) (by rfl) ?_; simp only [Act.put, List.setIfInBounds_toArray, List.set_cons_zero, List.set_cons_succ])
          first | (refine Reg.G_step (i := 4) rfl (by kernel_rfl) (by rfl) (fun K hK => ?_); go_big_quiet_op; refine hK _ ?_; clear hK K) | (refine Reg.G_skip (i := 4) rfl (by kernel_rfl) (by rfl) ?_; simp only [Act.put, List.setIfInBounds_toArray, List.set_cons_zero, List.set_cons_succ])
          first | (refine Reg.G_step (i := 5) rfl (by kernel_rfl) (by rfl) (fun K hK => ?_); go_big_quiet_op; refine hK _ ?_; clear hK K) | (refine Reg.G_skip (i := 5) rfl (by kernel_rfl) (by rfl) ?_; simp only [Act.put, List.setIfInBounds_toArray, List.set_cons_zero, List.set_cons_succ])
          first | (refine Reg.G_step (i := 6) rfl (by kernel_rfl) (by rfl) (fun K hK => ?_); go_big_quiet_op; refine hK _ ?_; clear hK K) | (refine Reg.G_skip (i := 6) rfl (by kernel_rfl) (by rfl) ?_; simp only [Act.put, List.setIfInBounds_toArray, List.set_cons_zero, List.set_cons_succ])
          first | (refine Reg.G_step (i := 7) rfl (by kernel_rfl) (by rfl) (fun K hK => ?_); go_big_quiet_op; refine hK _ ?_; clear hK K) | (refine Reg.G_skip (i := 7) rfl (by kernel_rfl) (by rfl) ?_; simp only [Act.put, List.setIfInBounds_toArray, List.set_cons_zero, List.set_cons_succ])
          first | (refine Reg.G_step (i := 8) rfl (by kernel_rfl) (by rfl) (fun K hK => ?_); go_big_quiet_op; refine hK _ ?_; clear hK K) | (refine Reg.G_skip (i := 8) rfl (by kernel_rfl) (by rfl) ?_; simp only [Act.put, List.setIfInBounds_toArray, List.set_cons_zero, List.set_cons_succ])
          first | (refine Reg.G_step (i := 9) rfl (by kernel_rfl) (by rfl) (fun K hK => ?_); go_big_quiet_op; refine hK _ ?_; clear hK K) | (refine Reg.G_skip (i := 9) rfl (by kernel_rfl) (by rfl) ?_; simp only [Act.put, List.setIfInBounds_toArray, List.set_cons_zero, List.set_cons_succ])
          refine Reg.G_skip (i := 10) rfl (by kernel_rfl) (by rfl) ?_
          simp only [Act.put, List.setIfInBounds_toArray, List.set_cons_zero, List.set_cons_succ]
          first | (refine Reg.G_step (i := 11) rfl (by kernel_rfl) (by rfl) (fun K hK => ?_); go_big_quiet_op; refine hK _ ?_; clear hK K) | (refine Reg.G_skip (i := 11) rfl (by kernel_rfl) (by rfl) ?_; simp only [Act.put, List.setIfInBounds_toArray, List.set_cons_zero, List.set_cons_succ])
          refine Reg.G_done (by kernel_rfl) ?_
          have HB3 := Lib.hid (bt HB2.out hw0)
          clear hw0 hv0 hW
          go_wp2_with fail
          go_ret
          exact ⟨ret_v (x := .bool false) (by rw [decide_eq_false HNo.out]), bt HB1.out HB3.out⟩
      · obtain rfl : j = n := by omega
        have HYes := Lib.hid (HM.out.2 HG.out)
        go_wp2_with fail
        go_ret
        exact ⟨ret_v (x := .bool true) (by rw [decide_eq_true HYes.out]), bt HB1.out HBl.out⟩
end Go.Proofs.Ytbjgflinggelpaa.Sc

namespace Go.Proofs.Ytbjgflinggelpaa.Sc
open Go.RowKit Go.Proofs.Ytbjgflinggelpaa.BM Go.Proofs.Ytbjgflinggelpaa.VaM Go.Proofs.Ytbjgflinggelpaa.Va Go.Proofs.Ytbjgflinggelpaa.ScM

set_option maxRecDepth 100000 in
set_option maxHeartbeats 4000000 in
theorem refMay_any (s : Sc) (A : Option Addr) (c : Nat) (w : World) (hS : SlF w A s.f c) (hz : Fine s) :
    Calls Try.prog 35 #[.agg #[.string s.s, .int .i64 s.v, .slice A s.f.length c]] w fun e w' => e = .returned (.bool (decide (May s))) ∧ Below w.heap.size w w' := by
  obtain ⟨nm, v, l⟩ := s
  simp only at hS ⊢
  have hl := slF_len hS
  have HN := Lib.hid (fun W => refName_any nm W hz.1)
  have hmay : May ⟨nm, v, l⟩ ↔ Nm nm ∧ 1 ≤ v ∧ v ≤ 1000 ∧ l.length ≤ 6 ∧ Gd l l.length := Iff.rfl
  obtain ⟨n, hn⟩ : ∃ n, n = l.length := ⟨_, rfl⟩
  rw [← hn] at hl hmay ⊢
  have HLen := Lib.hid hn
  have HS := Lib.hid hS
  have HMay := Lib.hid hmay
  have HX0 := Lib.hid (bx_new_t w 24 (.string nm) (.int .i64 v) (.slice A n c))
  have HB0 := Lib.hid ((Below.refl w.heap.size w).alloc (Nat.le_refl _) (.cells #[.string nm, .int .i64 v, .slice A n c] 24))
  clear hn hS hmay hz
  obtain ⟨⟨p0, p1, p2⟩, _⟩ := HX0.out
  go_enter Try.func35, Try.ntmps35
  go_wp2_with fail
  refine (HN.out _).mono ?_
  rintro e w1 ⟨rfl, rfl⟩
  obtain ⟨w1, hw1⟩ : ∃ w1, w1 = w.alloc (.cells #[.string nm, .int .i64 v, .slice A n c] 24) := ⟨_, rfl⟩
  rw [← hw1] at HB0 HX0 p0 p1 p2 ⊢
  clear HN hw1
  have hways : ¬ Nm nm ∨ (Nm nm ∧ v < 1) ∨ (Nm nm ∧ 1 ≤ v ∧ 1000 < v) ∨ (Nm nm ∧ 1 ≤ v ∧ v ≤ 1000 ∧ 6 < n) ∨ (Nm nm ∧ 1 ≤ v ∧ v ≤ 1000 ∧ n ≤ 6) := by
    by_cases h : Nm nm
    · simp only [h, true_and, not_true, false_or]
      omega
    · exact Or.inl h
  rcases hways with m1 | ⟨m1, m2⟩ | ⟨m1, m2, m3⟩ | ⟨m1, m2, m3, m4⟩ | ⟨m1, m2, m3, m4⟩
  · rw [decide_eq_false m1]
    have HM := Lib.hid (show ¬ May ⟨nm, v, l⟩ from fun h => m1 (HMay.out.1 h).1)
    clear m1
    go_wp2_with fail
    go_ret
    exact ⟨ret_v (x := .bool false) (by rw [decide_eq_false HM.out]), HB0.out⟩
  · rw [decide_eq_true m1]
    have HM := Lib.hid (show ¬ May ⟨nm, v, l⟩ from fun h => by have := (HMay.out.1 h).2.1; omega)
    clear m1
    go_wp2_with fail
    go_ret
    exact ⟨ret_v (x := .bool false) (by rw [decide_eq_false HM.out]), HB0.out⟩
  · rw [decide_eq_true m1]
    have HM := Lib.hid (show ¬ May ⟨nm, v, l⟩ from fun h => by have := (HMay.out.1 h).2.2.1; omega)
    clear m1
    go_wp2_with fail
    go_ret
    exact ⟨ret_v (x := .bool false) (by rw [decide_eq_false HM.out]), HB0.out⟩
  · rw [decide_eq_true m1]
    have HM := Lib.hid (show ¬ May ⟨nm, v, l⟩ from fun h => by have := (HMay.out.1 h).2.2.2.1; omega)
    clear m1
    go_wp2_with fail
    go_ret
    exact ⟨ret_v (x := .bool false) (by rw [decide_eq_false HM.out]), HB0.out⟩
  · rw [decide_eq_true m1]
    have HM := Lib.hid (show May ⟨nm, v, l⟩ ↔ Gd l n from ⟨fun h => (HMay.out.1 h).2.2.2.2, fun h => HMay.out.2 ⟨m1, m2, m3, m4, h⟩⟩)
    clear m1 HMay
    go_wp2_with fail
    clear p0 p1 p2
    go_loopw [4] (fun i wr => ∃ j : Nat, i = .int .i64 j ∧ j ≤ n ∧ Gd l j ∧ Below w1.heap.size w1 wr) (fun i _ => n - (intOf i).toNat)
    case atStart => exact ⟨0, rfl, Nat.zero_le _, fun r hr => absurd hr (Nat.not_lt_zero r), Below.refl _ _⟩
    case round =>
      obtain ⟨j, rfl, hj, hgood, hbel⟩ := hrel
      have HG := Lib.hid hgood
      have HBl := Lib.hid hbel
      clear hgood hbel
      obtain ⟨⟨_, _, x2⟩, _⟩ := HX0.out.kept HBl.out
      by_cases hjn : j < n
      · obtain ⟨b, q, hix, hc, hsz⟩ := HS.out.at j (by rw [← HLen.out]; exact hjn)
        have hiff : GdAt l j ↔ FOk (l.getD j d0) ∧ ¬ Has (l.take j) (l.getD j d0).s := Iff.rfl
        obtain ⟨⟨fs, fk⟩, hf⟩ : ∃ f, f = l.getD j d0 := ⟨_, rfl⟩
        rw [← hf] at hc hsz hiff
        obtain ⟨c0, c1⟩ := hc wr (bt HB0.out HBl.out)
        simp only at c0 c1 hsz hiff
        rw [has_take (by rw [← HLen.out]; exact hj)] at hiff
        have hi := fun W => hix W n c hjn
        have HIff := Lib.hid hiff
        have HC := Lib.hid hc
        have HNf := Lib.hid (fun W => refName_any fs W hsz)
        clear hc hix hf hiff
        go_wp2_with fail
        refine (HNf.out _).mono ?_
        rintro e w2 ⟨rfl, rfl⟩
        have hfw : ¬ Nm fs ∨ (Nm fs ∧ fk < 0) ∨ (Nm fs ∧ 0 ≤ fk ∧ 4 ≤ fk) ∨ (Nm fs ∧ 0 ≤ fk ∧ fk < 4) := by
          by_cases h : Nm fs
          · simp only [h, true_and, not_true, false_or]
            omega
          · exact Or.inl h
        rcases hfw with k1 | ⟨k1, k2⟩ | ⟨k1, k2, k3⟩ | ⟨k1, k2, k3⟩
        · rw [decide_eq_false k1]
          have HNo := Lib.hid (show ¬ May ⟨nm, v, l⟩ from fun h => k1 (HIff.out.1 (HM.out.1 h j hjn)).1.1)
          clear k1
          go_wp2_with fail
          go_ret
          exact ⟨ret_v (x := .bool false) (by rw [decide_eq_false HNo.out]), bt HB0.out HBl.out⟩
        · rw [decide_eq_true k1]
          have HNo := Lib.hid (show ¬ May ⟨nm, v, l⟩ from fun h => by have := (HIff.out.1 (HM.out.1 h j hjn)).1.2.1; simp only at this; omega)
          clear k1
          go_wp2_with fail
          go_ret
          exact ⟨ret_v (x := .bool false) (by rw [decide_eq_false HNo.out]), bt HB0.out HBl.out⟩
        · rw [decide_eq_true k1]
          have HNo := Lib.hid (show ¬ May ⟨nm, v, l⟩ from fun h => by have := (HIff.out.1 (HM.out.1 h j hjn)).1.2.2; simp only at this; omega)
          clear k1
          go_wp2_with fail
          go_ret
          exact ⟨ret_v (x := .bool false) (by rw [decide_eq_false HNo.out]), bt HB0.out HBl.out⟩
        · have HOk := Lib.hid (show FOk ⟨fs, fk⟩ from ⟨k1, k2, k3⟩)
          rw [decide_eq_true k1]
          clear k1
          go_wp2_with fail
          clear c0 c1 x2
          go_loopw [6] (fun i wt => ∃ r : Nat, i = .int .i64 r ∧ r ≤ j ∧ (∀ x, x < r → (l.getD x d0).s ≠ fs) ∧ Below w1.heap.size w1 wt) (fun i _ => j - (intOf i).toNat)
          case atStart => exact ⟨0, rfl, Nat.zero_le _, fun r hr => absurd hr (Nat.not_lt_zero r), HBl.out⟩
          case round =>
            obtain ⟨r, rfl, hr, hne, hbel⟩ := hrel
            have HNe := Lib.hid hne
            have HBt := Lib.hid hbel
            clear hne hbel
            by_cases hrj : r < j
            · obtain ⟨b', q', hix', hc', _⟩ := HS.out.at r (by rw [← HLen.out]; omega)
              obtain ⟨⟨gs, gk⟩, hg⟩ : ∃ f, f = l.getD r d0 := ⟨_, rfl⟩
              rw [← hg] at hc'
              have HGs := Lib.hid hg
              have hi' := fun W => hix' W n c (by omega)
              obtain ⟨⟨_, _, x2⟩, _⟩ := HX0.out.kept HBt.out
              obtain ⟨c0, _⟩ := HC.out wr (bt HB0.out HBt.out)
              obtain ⟨g0, _⟩ := hc' wr (bt HB0.out HBt.out)
              simp only at c0 g0
              clear hc' hix' hg
              by_cases he : gs = fs
              · have hee : (gs.toList == fs.toList) = true := by rw [he]; simp
                have HNo := Lib.hid (show ¬ May ⟨nm, v, l⟩ from fun h => (HIff.out.1 (HM.out.1 h j hjn)).2 r hrj (by rw [← HGs.out]; exact he))
                clear he
                go_wp2_with fail
                go_quiet (fail)
                go_wp2_with fail
                go_ret
                exact ⟨ret_v (x := .bool false) (by rw [decide_eq_false HNo.out]), below_drewN (bt HB0.out HBt.out) _⟩
              · have hee := str_ne he
                have HE := Lib.hid he
                clear he
                go_wp2_with fail
                go_quiet (fail)
                go_wp2_with fail
                go_roundw
                case rel =>
                  refine ⟨r + 1, by go_num, by omega, fun x hx => ?_, below_drewN HBt.out _⟩
                  by_cases e : x = r
                  · rw [e, ← HGs.out]
                    exact HE.out
                  · exact HNe.out x (by omega)
                case measure => simp [intOf]; omega
            · obtain rfl : r = j := by omega
              have HGo := Lib.hid (HG.out.succ (HIff.out.2 ⟨HOk.out, HNe.out⟩))
              go_wp2_with fail
              go_roundw
              case rel => exact ⟨r + 1, by go_num, by omega, HGo.out, HBt.out⟩
              case measure => simp [intOf]; omega
      · obtain rfl : j = n := by omega
        have HYes := Lib.hid (HM.out.2 HG.out)
        go_wp2_with fail
        go_ret
        exact ⟨ret_v (x := .bool true) (by rw [decide_eq_true HYes.out]), bt HB0.out HBl.out⟩
end Go.Proofs.Ytbjgflinggelpaa.Sc

namespace Go.Proofs.Ytbjgflinggelpaa.Ex
open Go.RowKit Go.Proofs.Ytbjgflinggelpaa.BM Go.Proofs.Ytbjgflinggelpaa.VaM Go.Proofs.Ytbjgflinggelpaa.Va Go.Proofs.Ytbjgflinggelpaa.ExM Go.Proofs.Ytbjgflinggelpaa.EvM
open Go.Proofs.Ytbjgflinggelpaa.Sc (SlF slF_len)

set_option maxRecDepth 100000 in
set_option maxHeartbeats 4000000 in
theorem refEval_any (e : Ev) (l : List O) (A : Option Addr) (c : Nat) (B : Option Addr) (d : Nat) (w : World) (hS : SlV w A e.v c) (hz : Ev.Fine e) (hO : SlO w B l d) :
    Calls Try.prog 18 #[.agg #[.string e.s, .int .i64 e.t, .slice A e.v.length c], .slice B l.length d] w (TwoV (eval e l) w) := by
  have hml := fun W (h : Below w.heap.size w W) => refMay_any l B d W (hO.kept h)
  have hme := fun W (h : Below w.heap.size w W) => Ev.refMay_any e A c W (hS.kept h) hz
  have hth := fun (g : ExM.May l ∧ EvM.May e) W (h : Below w.heap.size w W) => through_any e.v l false A c B d W (hS.kept h) (hO.kept h) (fun x hx => g.2.vok hx) (fun x hx => g.1.ok hx) g.1.2
  have hno : ¬ (ExM.May l ∧ EvM.May e) → eval e l = (v0, 1) := fun h => by rw [eval, if_pos h]
  have hyes : (ExM.May l ∧ EvM.May e) → eval e l = through e.v l false := fun h => by rw [eval, if_neg (fun k => k h)]
  obtain ⟨R, hR⟩ : ∃ R, R = eval e l := ⟨_, rfl⟩
  rw [← hR] at hno hyes ⊢
  have hth2 := fun (g : ExM.May l ∧ EvM.May e) W (h : Below w.heap.size w W) => by
    have := hth g W h
    rw [← hyes g] at this
    exact this
  obtain ⟨nm, t, vs⟩ := e
  simp only at hml hme hth2 hno ⊢
  obtain ⟨n, hn⟩ : ∃ n, n = vs.length := ⟨_, rfl⟩
  obtain ⟨m, hm⟩ : ∃ n, n = l.length := ⟨_, rfl⟩
  simp only [← hn, ← hm] at hml hme hth2
  rw [← hn, ← hm]
  obtain ⟨⟨k, j, s⟩, r⟩ := R
  unfold TwoV at hth2
  simp only at hth2
  have HMl := Lib.hid hml
  have HMe := Lib.hid hme
  have HTh := Lib.hid hth2
  have HNo := Lib.hid hno
  have hb1 := (Below.refl w.heap.size w).alloc (Nat.le_refl _) (.cells #[.string nm, .int .i64 t, .slice A n c] 27)
  have hx1 := bx_new_t w 27 (.string nm) (.int .i64 t) (.slice A n c)
  obtain ⟨u1, hu1⟩ : ∃ u, u = w.alloc (.cells #[.string nm, .int .i64 t, .slice A n c] 27) := ⟨_, rfl⟩
  have hs1 : u1.heap.size = w.heap.size + 1 := by rw [hu1]; simp
  rw [← hu1] at hb1 hx1
  have hb2 := (Below.refl u1.heap.size u1).alloc (Nat.le_refl _) (.cells #[.int .i64 0, .int .i64 0, .string ⟨#[]⟩] 38)
  have hz2 := bx_new_t u1 38 (.int .i64 0) (.int .i64 0) (.string ⟨#[]⟩)
  rw [hs1] at hz2
  have hx2 := hx1.kept hb2
  have hbb := bt hb1 hb2
  rw [hu1] at hx2 hz2 hbb
  have HX2 := Lib.hid hx2
  have HZ2 := Lib.hid hz2
  have HB2 := Lib.hid hbb
  clear hb1 hx1 hs1 hb2 hz2 hx2 hbb hu1 u1 hml hme hth hth2 hno hyes hR hS hz hO hn hm
  obtain ⟨⟨p0, p1, p2⟩, _⟩ := HX2.out
  go_enter Try.func18, Try.ntmps18
  go_wp2_with fail
  obtain ⟨w2, hw2⟩ : ∃ w2, w2 = (w.alloc (.cells #[.string nm, .int .i64 t, .slice A n c] 27)).alloc (.cells #[.int .i64 0, .int .i64 0, .string ⟨#[]⟩] 38) := ⟨_, rfl⟩
  rw [← hw2] at HX2 HZ2 HB2 ⊢
  clear hw2 p0 p1 p2
  refine (HMl.out w2 HB2.out).mono ?_
  rintro e w3 ⟨rfl, hb3⟩
  have HB3 := Lib.hid (bt HB2.out hb3)
  have HX3 := Lib.hid (HX2.out.kept hb3)
  have HZ3 := Lib.hid (HZ2.out.kept hb3)
  clear hb3 HB2 HX2 HZ2
  obtain ⟨⟨p0, p1, p2⟩, _⟩ := HX3.out
  obtain ⟨a1, ha1⟩ : ∃ a, a = decide (ExM.May l) := ⟨_, rfl⟩
  rw [← ha1]
  have HA1 := Lib.hid ha1
  clear ha1
  go_wp2_with fail
  refine (HMe.out w3 HB3.out).mono ?_
  rintro e w4 ⟨rfl, hb4⟩
  have HB4 := Lib.hid (bt HB3.out hb4)
  have HX4 := Lib.hid (HX3.out.kept hb4)
  have HZ4 := Lib.hid (HZ3.out.kept hb4)
  clear hb4 HB3 HX3 HZ3 p0 p1 p2
  obtain ⟨⟨p0, p1, p2⟩, _⟩ := HX4.out
  obtain ⟨a2, ha2⟩ : ∃ a, a = decide (EvM.May ⟨nm, t, vs⟩) := ⟨_, rfl⟩
  rw [← ha2]
  have HA2 := Lib.hid ha2
  clear ha2
  have hways : (a1 = false ∨ (a1 = true ∧ a2 = false)) ∨ (a1 = true ∧ a2 = true) := by cases a1 <;> cases a2 <;> simp
  rcases hways with hbad | ⟨rfl, rfl⟩
  · have HR := Lib.hid (HNo.out (fun h => by
      have g1 := HA1.out
      have g2 := HA2.out
      rw [decide_eq_true h.1] at g1
      rw [decide_eq_true h.2] at g2
      subst g1 g2
      simp at hbad))
    have hst := bx_store HZ4.out (.int .i64 0) (.int .i64 0) (.string ⟨#[]⟩)
    obtain ⟨⟨g0, g1, g2⟩, _⟩ := hst
    have G0 := Lib.hid g0
    have G1 := Lib.hid g1
    have G2 := Lib.hid g2
    have HF := Lib.hid (stored3 HB4.out (Nat.le_succ _) (.int .i64 0) (.int .i64 0) (.string ⟨#[]⟩))
    obtain ⟨⟨z0, z1, z2⟩, z3, z4, z5⟩ := HZ4.out
    clear g0 g1 g2 HA1 HA2
    rcases hbad with rfl | ⟨rfl, rfl⟩
    all_goals
      go_wp2_with fail
      obtain ⟨W2, hW2⟩ : ∃ W2, W2 = ((w4.setCell ⟨w.heap.size + 1, 0, none⟩ (.int .i64 0)).setCell ⟨w.heap.size + 1, 1, none⟩ (.int .i64 0)).setCell ⟨w.heap.size + 1, 2, none⟩ (.string ⟨#[]⟩) := ⟨_, rfl⟩
      rw [← hW2] at HF G0 G1 G2 ⊢
      have g0 := G0.out
      have g1 := G1.out
      have g2 := G2.out
      clear hW2 z0 z1 z2 z3 z4 z5
      exact bodyPost_ret (v := .tuple #[.agg #[.int .i64 0, .int .i64 0, .string ⟨#[]⟩], .int .i64 1]) (by simp [results, Try.results18, go_sem, g0, g1, g2]) rfl ⟨ret_v (by rw [HR.out]; rfl), HF.out⟩
  · have HT := Lib.hid (HTh.out ⟨of_decide_eq_true HA1.out.symm, of_decide_eq_true HA2.out.symm⟩ w4 HB4.out)
    clear HA1 HA2 HNo HMl HMe HTh
    go_wp2_with fail
    refine HT.out.mono ?_
    rintro e w5 ⟨rfl, hb5⟩
    have ha6 := (Below.refl w5.heap.size w5).alloc (Nat.le_refl _) (.cells #[.int .i64 k, .int .i64 j, .string s] 38)
    have hy6 := bx_new_t w5 38 (.int .i64 k) (.int .i64 j) (.string s)
    have HB6 := Lib.hid (bt HB4.out (bt hb5 ha6))
    have HZ6 := Lib.hid (HZ4.out.kept (bt hb5 ha6))
    have hst := bx_store HZ6.out (.int .i64 k) (.int .i64 j) (.string s)
    obtain ⟨⟨g0, g1, g2⟩, _⟩ := hst
    have G0 := Lib.hid g0
    have G1 := Lib.hid g1
    have G2 := Lib.hid g2
    have HF := Lib.hid (stored3 HB6.out (Nat.le_succ _) (.int .i64 k) (.int .i64 j) (.string s))
    obtain ⟨⟨z0, z1, z2⟩, z3, z4, z5⟩ := HZ6.out
    obtain ⟨⟨y0, y1, y2⟩, _⟩ := hy6
    clear g0 g1 g2 p0 p1 p2 ha6 hb5
    go_wp2_with fail
    obtain ⟨W2, hW2⟩ : ∃ W2, W2 = (((w5.alloc (.cells #[.int .i64 k, .int .i64 j, .string s] 38)).setCell ⟨w.heap.size + 1, 0, none⟩ (.int .i64 k)).setCell ⟨w.heap.size + 1, 1, none⟩ (.int .i64 j)).setCell ⟨w.heap.size + 1, 2, none⟩ (.string s) := ⟨_, rfl⟩
    rw [← hW2] at HF G0 G1 G2 ⊢
    have g0 := G0.out
    have g1 := G1.out
    have g2 := G2.out
    clear hW2 z0 z1 z2 z3 z4 z5 y0 y1 y2
    exact bodyPost_ret (v := .tuple #[.agg #[.int .i64 k, .int .i64 j, .string s], .int .i64 r]) (by simp [results, Try.results18, go_sem, g0, g1, g2]) rfl ⟨rfl, HF.out⟩

theorem holds_b {e : Ev} {l : List O} {b1 b2 b3 b4 : Bool} (h1 : ((l.length : Int) == 0) = b1) (h2 : ((eval e l).2 == 0) = b2) (h3 : ((eval e l).1.k == 1) = b3) (h4 : ((eval e l).1.n == 1) = b4) : holds e l = (b1 || (b2 && (b3 && b4))) := by
  subst h1 h2 h3 h4
  unfold holds
  rw [Bool.eq_iff_iff]
  simp only [Bool.or_eq_true, Bool.and_eq_true, decide_eq_true_iff, beq_iff_eq]
  constructor
  · rintro (h | h)
    · exact Or.inl (by rw [h]; rfl)
    · exact Or.inr h
  · rintro (h | h)
    · exact Or.inl (List.eq_nil_of_length_eq_zero (by omega))
    · exact Or.inr h

set_option maxRecDepth 100000 in
set_option maxHeartbeats 4000000 in
theorem refHolds_any (e : Ev) (l : List O) (A : Option Addr) (c : Nat) (B : Option Addr) (d : Nat) (w : World) (hS : SlV w A e.v c) (hz : Ev.Fine e) (hO : SlO w B l d) :
    Calls Try.prog 24 #[.agg #[.string e.s, .int .i64 e.t, .slice A e.v.length c], .slice B l.length d] w fun r w' => r = .returned (.bool (holds e l)) ∧ Below w.heap.size w w' := by
  have hev := fun W (h : Below w.heap.size w W) => refEval_any e l A c B d W (hS.kept h) hz (hO.kept h)
  obtain ⟨b1, g1⟩ : ∃ b, ((l.length : Int) == 0) = b := ⟨_, rfl⟩
  obtain ⟨b2, g2⟩ : ∃ b, ((eval e l).2 == 0) = b := ⟨_, rfl⟩
  obtain ⟨b3, g3⟩ : ∃ b, ((eval e l).1.k == 1) = b := ⟨_, rfl⟩
  obtain ⟨b4, g4⟩ : ∃ b, ((eval e l).1.n == 1) = b := ⟨_, rfl⟩
  have hh := holds_b g1 g2 g3 g4
  obtain ⟨H, hH⟩ : ∃ H, H = holds e l := ⟨_, rfl⟩
  rw [← hH] at hh ⊢
  obtain ⟨R, hR⟩ : ∃ R, R = eval e l := ⟨_, rfl⟩
  rw [← hR] at g2 g3 g4
  simp only [← hR] at hev
  obtain ⟨⟨k, j, s⟩, r⟩ := R
  unfold TwoV at hev
  simp only at hev g2 g3 g4
  obtain ⟨nm, t, vs⟩ := e
  simp only at hev ⊢
  obtain ⟨n, hn⟩ : ∃ n, n = vs.length := ⟨_, rfl⟩
  obtain ⟨m, hm⟩ : ∃ n, n = l.length := ⟨_, rfl⟩
  simp only [← hn, ← hm] at hev
  rw [← hm] at g1
  rw [← hn, ← hm]
  have HEv := Lib.hid hev
  have HH := Lib.hid hh
  have HX1 := Lib.hid (bx_new_t w 27 (.string nm) (.int .i64 t) (.slice A n c))
  have HB1 := Lib.hid ((Below.refl w.heap.size w).alloc (Nat.le_refl _) (.cells #[.string nm, .int .i64 t, .slice A n c] 27))
  clear hev hh hH hR hn hm hS hz hO
  obtain ⟨⟨p0, p1, p2⟩, _⟩ := HX1.out
  go_enter Try.func24, Try.ntmps24
  go_wp2_with fail
  refine (HEv.out _ HB1.out).mono ?_
  rintro e w2 ⟨rfl, hb2⟩
  have ha3 := (Below.refl w2.heap.size w2).alloc (Nat.le_refl _) (.cells #[.int .i64 k, .int .i64 j, .string s] 38)
  have HB3 := Lib.hid (bt HB1.out (bt hb2 ha3))
  obtain ⟨⟨y0, y1, y2⟩, _⟩ := bx_new_t w2 38 (.int .i64 k) (.int .i64 j) (.string s)
  clear hb2 ha3 HB1 HX1 HEv p0 p1 p2
  have hways : b1 = true ∨ (b1 = false ∧ b2 = false) ∨ (b1 = false ∧ b2 = true ∧ b3 = false) ∨ (b1 = false ∧ b2 = true ∧ b3 = true) := by cases b1 <;> cases b2 <;> cases b3 <;> simp
  rcases hways with rfl | ⟨rfl, rfl⟩ | ⟨rfl, rfl, rfl⟩ | ⟨rfl, rfl, rfl⟩
  · go_wp2_with fail
    go_ret
    exact ⟨ret_v (x := .bool true) (by rw [HH.out]; rfl), HB3.out⟩
  · go_wp2_with fail
    go_ret
    exact ⟨ret_v (x := .bool false) (by rw [HH.out]; rfl), HB3.out⟩
  · go_wp2_with fail
    go_ret
    exact ⟨ret_v (x := .bool false) (by rw [HH.out]; rfl), HB3.out⟩
  · go_wp2_with fail
    go_ret
    exact ⟨ret_v (x := .bool b4) (by rw [HH.out]; rfl), HB3.out⟩
end Go.Proofs.Ytbjgflinggelpaa.Ex

namespace Go.Proofs.Ytbjgflinggelpaa.Ex
open Go.RowKit Go.Proofs.Ytbjgflinggelpaa.BM Go.Proofs.Ytbjgflinggelpaa.VaM Go.Proofs.Ytbjgflinggelpaa.Va Go.Proofs.Ytbjgflinggelpaa.ExM Go.Proofs.Ytbjgflinggelpaa.EvM
open Go.Proofs.Ytbjgflinggelpaa.Sc (SlF slF_len)

theorem kval_may {k : Int} (h0 : 0 ≤ k) (h4 : k < 4) : VaM.May (kval k) ∧ Rng (kval k) := by
  refine ⟨?_, ⟨(by decide : (-9223372036854775808 : Int) ≤ 0), (by decide : (0 : Int) ≤ 9223372036854775807)⟩⟩
  have hw : k = 0 ∨ k = 1 ∨ k = 2 ∨ k = 3 := by omega
  rcases hw with rfl | rfl | rfl | rfl <;> decide

/-- The kinds' values. -/
def kvs (s : ScM.Sc) : List V := s.f.map fun f => kval f.k

theorem kvs_may {s : ScM.Sc} (h : ScM.May s) : ∀ x ∈ kvs s, VaM.May x ∧ Rng x := by
  intro x hx
  obtain ⟨f, hf, rfl⟩ := List.mem_map.1 hx
  obtain ⟨i, hi, rfl⟩ := List.getElem_of_mem hf
  have h1 := (h.2.2.2.2 i hi).1
  rw [List.getD_eq_getElem?_getD, List.getElem?_eq_getElem hi] at h1
  exact kval_may h1.2.1 h1.2.2

theorem kvs_take {s : ScM.Sc} {j : Nat} (h : j < s.f.length) : (kvs s).take (j + 1) = (kvs s).take j ++ [kval (s.f.getD j ScM.d0).k] := by
  unfold kvs
  rw [← List.map_take, ← List.map_take, List.take_add_one, List.getElem?_eq_getElem h, List.map_append, List.getD_eq_getElem?_getD, List.getElem?_eq_getElem h]
  rfl

set_option maxRecDepth 100000 in
set_option maxHeartbeats 4000000 in
theorem refKind_any (s : ScM.Sc) (l : List O) (A : Option Addr) (c : Nat) (B : Option Addr) (d : Nat) (w : World) (hF : SlF w A s.f c) (hz : Sc.Fine s) (hO : SlO w B l d) :
    Calls Try.prog 16 #[.agg #[.string s.s, .int .i64 s.v, .slice A s.f.length c], .slice B l.length d] w fun e w' => e = .returned (.tuple #[.int .i64 (kind s l).1, .int .i64 (kind s l).2]) ∧ Below w.heap.size w w' := by
  have hml := fun W (h : Below w.heap.size w W) => refMay_any l B d W (hO.kept h)
  have hms := fun W (h : Below w.heap.size w W) => Sc.refMay_any s A c W (hF.kept h) hz
  have hth := fun (g : ScM.May s ∧ ExM.May l) K k W (h : Below w.heap.size w W) (hk : SlV W K (kvs s) k) => through_any (kvs s) l true K k B d W hk (hO.kept h) (fun x hx => (kvs_may g.1 x hx).1) (fun x hx => g.2.ok hx) g.2.2
  have hno : ¬ (ScM.May s ∧ ExM.May l) → kind s l = (0, 1) := fun h => by rw [kind, if_pos h]
  have hyes : (ScM.May s ∧ ExM.May l) → kind s l = ((through (kvs s) l true).1.k, (through (kvs s) l true).2) := fun h => by rw [kind, if_neg (fun k => k h)]; rfl
  have hfat := fun j (hj : j < s.f.length) => hF.at j hj
  have hkm := @kvs_may s
  have hkt := fun j => @kvs_take s j
  have hkl : (kvs s).length = s.f.length := by unfold kvs; rw [List.length_map]
  have hl := slF_len hF
  have h6 : ScM.May s → s.f.length ≤ 6 := fun h => h.2.2.2.1
  obtain ⟨⟨rk, re⟩, hR⟩ : ∃ R, R = kind s l := ⟨_, rfl⟩
  rw [← hR] at hno hyes ⊢
  obtain ⟨Y, hY⟩ : ∃ Y, Y = through (kvs s) l true := ⟨_, rfl⟩
  rw [← hY] at hyes
  simp only [← hY] at hth
  obtain ⟨KV', hKV⟩ : ∃ K, K = kvs s := ⟨_, rfl⟩
  rw [← hKV] at hkm hkl
  simp only [← hKV] at hth hkt
  clear hY hKV hR
  obtain ⟨⟨yk, yn, ys⟩, yr⟩ := Y
  unfold TwoV at hth
  simp only at hth hyes ⊢
  obtain ⟨nm, v, f⟩ := s
  simp only at hms hfat hkt hkl hl h6 hno hyes ⊢
  obtain ⟨n, hn⟩ : ∃ n, n = f.length := ⟨_, rfl⟩
  obtain ⟨m, hm⟩ : ∃ n, n = l.length := ⟨_, rfl⟩
  simp only [← hn] at hms hfat hkt hkl hl h6
  simp only [← hm] at hml hth
  rw [← hn, ← hm]
  have HMl := Lib.hid hml
  have HMs := Lib.hid hms
  have HTh := Lib.hid hth
  have HNo := Lib.hid hno
  have HYes := Lib.hid hyes
  have HFat := Lib.hid hfat
  have HKm := Lib.hid hkm
  have HKt := Lib.hid hkt
  have HKl := Lib.hid hkl
  have H6 := Lib.hid h6
  have HX1 := Lib.hid (bx_new_t w 24 (.string nm) (.int .i64 v) (.slice A n c))
  have HB1 := Lib.hid ((Below.refl w.heap.size w).alloc (Nat.le_refl _) (.cells #[.string nm, .int .i64 v, .slice A n c] 24))
  clear hml hms hth hno hyes hfat hkm hkt hkl h6 hF hz hO hn hm
  obtain ⟨⟨p0, p1, p2⟩, _⟩ := HX1.out
  go_enter Try.func16, Try.ntmps16
  go_wp2_with fail
  obtain ⟨w1, hw1⟩ : ∃ w1, w1 = w.alloc (.cells #[.string nm, .int .i64 v, .slice A n c] 24) := ⟨_, rfl⟩
  rw [← hw1] at HX1 HB1 ⊢
  clear hw1 p0 p1 p2
  refine (HMs.out w1 HB1.out).mono ?_
  rintro e w2 ⟨rfl, hb2⟩
  have HB2 := Lib.hid (bt HB1.out hb2)
  have HX2 := Lib.hid (HX1.out.kept hb2)
  clear hb2 HB1 HX1
  obtain ⟨a1, ha1⟩ : ∃ a, a = decide (ScM.May ⟨nm, v, f⟩) := ⟨_, rfl⟩
  rw [← ha1]
  have HA1 := Lib.hid ha1
  clear ha1
  go_wp2_with fail
  refine (HMl.out w2 HB2.out).mono ?_
  rintro e w3 ⟨rfl, hb3⟩
  have HB3 := Lib.hid (bt HB2.out hb3)
  have HX3 := Lib.hid (HX2.out.kept hb3)
  clear hb3 HB2 HX2
  obtain ⟨a2, ha2⟩ : ∃ a, a = decide (ExM.May l) := ⟨_, rfl⟩
  rw [← ha2]
  have HA2 := Lib.hid ha2
  clear ha2
  have hways : (a1 = false ∨ (a1 = true ∧ a2 = false)) ∨ (a1 = true ∧ a2 = true) := by cases a1 <;> cases a2 <;> simp
  rcases hways with hbad | ⟨rfl, rfl⟩
  · have HR := Lib.hid (HNo.out (fun h => by
      have g1 := HA1.out
      have g2 := HA2.out
      rw [decide_eq_true h.1] at g1
      rw [decide_eq_true h.2] at g2
      subst g1 g2
      simp at hbad))
    clear HA1 HA2
    rcases hbad with rfl | ⟨rfl, rfl⟩
    all_goals
      go_wp2_with fail
      exact bodyPost_ret (v := .tuple #[.int .i64 0, .int .i64 1]) (by simp [results, Try.results16, go_sem]) rfl ⟨ret_v (by have h := HR.out; injection h with h1 h2; rw [h1, h2]), HB3.out⟩
  · have hms := of_decide_eq_true HA1.out.symm
    have hml := of_decide_eq_true HA2.out.symm
    have HTw := Lib.hid (HTh.out ⟨hms, hml⟩)
    have HY := Lib.hid (HYes.out ⟨hms, hml⟩)
    have HKy := Lib.hid (HKm.out hms)
    have hn6 := H6.out hms
    clear hms hml HA1 HA2 HNo HYes HTh HKm H6
    go_wp2_with fail
    go_loopw [8, 9] (fun u i wr => ∃ j : Nat, i = .int .i64 j ∧ j ≤ n ∧ Pile w3.heap.size (KV'.take j) u wr ∧ Below w3.heap.size w3 wr) (fun _ i _ => n - (intOf i).toNat)
    case atStart => exact ⟨0, rfl, Nat.zero_le _, pile_nil _ _, Below.refl _ _⟩
    case round =>
      obtain ⟨j, rfl, hj, hpile, hbel⟩ := hrel
      have HP := Lib.hid hpile
      have HBl := Lib.hid hbel
      clear hpile hbel
      obtain ⟨⟨p0, p1, p2⟩, _⟩ := HX3.out.kept HBl.out
      by_cases hjn : j < n
      · obtain ⟨b, q, hix, hc, _⟩ := HFat.out j hjn
        have hkt := HKt.out j hjn
        obtain ⟨⟨fs, fk⟩, hf⟩ : ∃ e, e = f.getD j ScM.d0 := ⟨_, rfl⟩
        rw [← hf] at hc hkt
        obtain ⟨y0, y1⟩ := hc wr (bt HB3.out HBl.out)
        simp only at y0 y1
        have hi := fun W => hix W n c hjn
        have HKj := Lib.hid hkt
        have HTl := Lib.hid (show (KV'.take j).length = j from by rw [List.length_take, HKl.out]; omega)
        have ha2 := (Below.refl wr.heap.size wr).alloc (Nat.le_refl _) (.cells #[.int .i64 fk, .int .i64 0, .string ⟨#[]⟩] 38)
        have HN2 := Lib.hid (one_new wr (kval fk))
        have HP2 := Lib.hid (HP.out.kept ha2)
        have HB2 := Lib.hid (bt HBl.out ha2)
        have hz2 := HB2.out.size
        have hp2 := HP2.out.1
        rw [HTl.out] at hp2
        have HPo := Lib.hid hp2
        clear hc hix hf hkt ha2 hp2
        go_wp2_with (at_builtin; refine wp_append_v rfl (.tmp 29) (.tmp 37) rfl w3.heap.size _ j (KV'.take j) rfl HPo.out (some ⟨wr.heap.size, 0, none⟩) 1 1 [kval fk] rfl rfl HN2.out (by omega) hz2 ?_; intro u4 w4 hown4 hgrow4; refine pause ?_)
        have HB4 := Lib.hid (HB2.out.grown hgrow4 hz2 (fun q hq => (HP2.out.1.lt q hq).1))
        rw [← HKj.out] at hown4
        have HP4 := Lib.hid (show Pile w3.heap.size (KV'.take (j + 1)) u4 w4 from ⟨by rw [show (KV'.take (j + 1)).length = j + 1 from by rw [List.length_take, HKl.out]; omega]; exact hown4, fun y hy => HKy.out y (List.mem_of_mem_take hy)⟩)
        clear hown4 hgrow4
        unfold Pause
        go_wp2_with fail
        go_roundw
        case rel => exact ⟨j + 1, by go_num, by omega, HP4.out, HB4.out⟩
        case measure => simp [intOf]; omega
      · obtain rfl : j = n := by omega
        have hp := HP.out
        rw [show KV'.take j = KV' from by rw [← HKl.out]; exact List.take_length] at hp
        obtain ⟨K, k, rfl, hsl, _⟩ := hp.sl
        have HCa := Lib.hid (HTw.out K k wr (bt HB3.out HBl.out) hsl)
        rw [HKl.out] at HCa ⊢
        clear hp hsl HTw
        go_wp2_with fail
        refine HCa.out.mono ?_
        rintro e w5 ⟨rfl, hb5⟩
        have ha6 := (Below.refl w5.heap.size w5).alloc (Nat.le_refl _) (.cells #[.int .i64 yk, .int .i64 yn, .string ys] 38)
        obtain ⟨⟨y0, y1, y2⟩, _⟩ := bx_new_t w5 38 (.int .i64 yk) (.int .i64 yn) (.string ys)
        have HB6 := Lib.hid (bt HB3.out (bt HBl.out (bt hb5 ha6)))
        clear hb5 ha6 p0 p1 p2 HCa
        go_wp2_with fail
        exact bodyPost_ret (v := .tuple #[.int .i64 yk, .int .i64 yr]) (by simp [results, Try.results16, go_sem]) rfl ⟨ret_v (by have h := HY.out; injection h with h1 h2; rw [h1, h2]), HB6.out⟩
end Go.Proofs.Ytbjgflinggelpaa.Ex

namespace Go.Proofs.Ytbjgflinggelpaa.Ex
open Go.RowKit Go.Proofs.Ytbjgflinggelpaa.BM Go.Proofs.Ytbjgflinggelpaa.VaM Go.Proofs.Ytbjgflinggelpaa.Va Go.Proofs.Ytbjgflinggelpaa.ExM Go.Proofs.Ytbjgflinggelpaa.EvM
open Go.Proofs.Ytbjgflinggelpaa.Sc (SlF slF_len)

/-- A value's kind. -/
theorem field_k (k n : Int) (s : ByteArray) (w : World) : (Instr.field 38 (.agg #[.int .i64 k, .int .i64 n, .string s]) 0).run Try.prog w = .ok (.int .i64 k) w := by kernel_rfl

/-- A new pile. -/
theorem held_new {vs : List V} {L : Option Addr} {vc : Nat} {w : World} (kb : Bool) (hV : SlV w L vs vc) : Held w.heap.size vs L vc kb [] (w.alloc (.cells #[.slice none 0 0, .slice L vs.length vc, .bool kb] 67)) :=
  ⟨⟨none, 0, bx_new_t w _ _ _ _, things_nil _ _⟩, fun _ hW => hV.kept (((Below.refl w.heap.size w).alloc (Nat.le_refl _) _).trans hW)⟩

set_option maxRecDepth 100000 in
set_option maxHeartbeats 4000000 in
theorem anyOf_any (s : ScM.Sc) (A : Option Addr) (c : Nat) (w : World) (hF : SlF w A s.f c) (hs : ScM.May s) :
    Calls Try.prog 33 #[.slice A s.f.length c] w fun e w' => ∃ K k, e = .returned (.slice K s.f.length k) ∧ SlV w' K (kvs s) k ∧ Below w.heap.size w w' := by
  have hfat := fun j (hj : j < s.f.length) => hF.at j hj
  have hkm := kvs_may hs
  have hkt := fun j => @kvs_take s j
  have hkl : (kvs s).length = s.f.length := by unfold kvs; rw [List.length_map]
  have h6 : s.f.length ≤ 6 := hs.2.2.2.1
  obtain ⟨KV', hKV⟩ : ∃ K, K = kvs s := ⟨_, rfl⟩
  rw [← hKV] at hkm hkl
  simp only [← hKV] at hkt
  rw [← hKV]
  obtain ⟨f, hf⟩ : ∃ f, f = s.f := ⟨_, rfl⟩
  simp only [← hf] at hfat hkt hkl h6
  rw [← hf]
  obtain ⟨n, hn⟩ : ∃ n, n = f.length := ⟨_, rfl⟩
  simp only [← hn] at hfat hkt hkl h6
  rw [← hn]
  have HFat := Lib.hid hfat
  have HKm := Lib.hid hkm
  have HKt := Lib.hid hkt
  have HKl := Lib.hid hkl
  obtain ⟨i0, hi0, hz0, hz1, hz2⟩ := info_parts tyV.info
  obtain ⟨w1, hmk, hown1, hg1⟩ := run_make_own (P := Try.prog) w w.heap.size 25 38 i0 _ 3 tyV.und hi0 hz0 hz1 .i64 .i64 n (by rw [hz2]; omega) (by unfold maxLen; omega) (Nat.le_refl _)
  have HB1 := Lib.hid ((Below.refl w.heap.size w).grown hg1 (Nat.le_refl _) (fun _ h => by cases h))
  obtain ⟨u1, hu1⟩ : ∃ u, u = (Value.slice (some ⟨w.heap.size, 0, none⟩) 0 n) := ⟨_, rfl⟩
  rw [← hu1] at hmk hown1
  have HP1 := Lib.hid (show Pile w.heap.size (KV'.take 0) u1 w1 from ⟨by rw [List.take_zero]; exact hown1, fun x hx => by rw [List.take_zero] at hx; cases hx⟩)
  clear hfat hkm hkt hkl hF hs hKV hf hn hi0 hz0 hz1 hz2 hown1 hg1 hu1
  go_enter Try.func33, Try.ntmps33
  go_wp2_with fail
  clear hmk
  go_loopw [3, 11] (fun u i wr => ∃ j : Nat, i = .int .i64 j ∧ j ≤ n ∧ Pile w.heap.size (KV'.take j) u wr ∧ Below w.heap.size w wr) (fun _ i _ => n - (intOf i).toNat)
  case atStart => exact ⟨0, rfl, Nat.zero_le _, HP1.out, HB1.out⟩
  case round =>
    obtain ⟨j, rfl, hj, hpile, hbel⟩ := hrel
    have HP := Lib.hid hpile
    have HBl := Lib.hid hbel
    clear hpile hbel
    by_cases hjn : j < n
    · obtain ⟨b, q, hix, hc, _⟩ := HFat.out j hjn
      have hkt := HKt.out j hjn
      obtain ⟨⟨fs, fk⟩, hf⟩ : ∃ e, e = f.getD j ScM.d0 := ⟨_, rfl⟩
      rw [← hf] at hc hkt
      obtain ⟨y0, y1⟩ := hc wr HBl.out
      simp only at y0 y1
      have hi := fun W => hix W n c hjn
      have HKj := Lib.hid hkt
      have HTl := Lib.hid (show (KV'.take j).length = j from by rw [List.length_take, HKl.out]; omega)
      have ha1 := (Below.refl wr.heap.size wr).alloc (Nat.le_refl _) (.cells #[.string fs, .int .i64 fk] 63)
      obtain ⟨⟨z0, z1⟩, _⟩ := bx2_new wr 63 (.string fs) (.int .i64 fk)
      obtain ⟨w2, hw2⟩ : ∃ w2, w2 = wr.alloc (.cells #[.string fs, .int .i64 fk] 63) := ⟨_, rfl⟩
      rw [← hw2] at ha1
      have ha2 := (Below.refl w2.heap.size w2).alloc (Nat.le_refl _) (.cells #[.int .i64 fk, .int .i64 0, .string ⟨#[]⟩] 38)
      have hn2 := one_new w2 (kval fk)
      have hp2 := HP.out.kept (bt ha1 ha2)
      have hb2 := bt HBl.out (bt ha1 ha2)
      rw [hw2] at hn2 hp2 hb2
      have hsz : (wr.alloc (.cells #[.string fs, .int .i64 fk] 63)).heap.size = wr.heap.size + 1 := by simp
      rw [hsz] at hn2
      have HN2 := Lib.hid hn2
      have HP2 := Lib.hid hp2
      have HB2 := Lib.hid hb2
      have hz2 := HB2.out.size
      have hp3 := HP2.out.1
      rw [HTl.out] at hp3
      have HPo := Lib.hid hp3
      clear hc hix hf hkt ha1 ha2 hp2 hp3 hn2 hb2 hsz hw2 w2
      go_wp2_with (at_builtin; refine wp_append_v rfl (.tmp 15) (.tmp 19) rfl w.heap.size _ j (KV'.take j) rfl HPo.out (some ⟨wr.heap.size + 1, 0, none⟩) 1 1 [kval fk] rfl rfl HN2.out (by omega) hz2 ?_; intro u4 w4 hown4 hgrow4; refine pause ?_)
      have HB4 := Lib.hid (HB2.out.grown hgrow4 hz2 (fun q hq => (HP2.out.1.lt q hq).1))
      rw [← HKj.out] at hown4
      have HP4 := Lib.hid (show Pile w.heap.size (KV'.take (j + 1)) u4 w4 from ⟨by rw [show (KV'.take (j + 1)).length = j + 1 from by rw [List.length_take, HKl.out]; omega]; exact hown4, fun y hy => HKm.out y (List.mem_of_mem_take hy)⟩)
      clear hown4 hgrow4
      unfold Pause
      go_wp2_with fail
      go_roundw
      case rel => exact ⟨j + 1, by go_num, by omega, HP4.out, HB4.out⟩
      case measure => simp [intOf]; omega
    · obtain rfl : j = n := by omega
      have hp := HP.out
      rw [show KV'.take j = KV' from by rw [← HKl.out]; exact List.take_length] at hp
      obtain ⟨K, k, rfl, hsl, _⟩ := hp.sl
      rw [HKl.out] at *
      have HSl := Lib.hid hsl
      clear hp hsl
      go_wp2_with fail
      go_ret
      exact ⟨K, k, rfl, HSl.out, HBl.out⟩

set_option maxRecDepth 100000 in
set_option maxHeartbeats 8000000 in
theorem Kind_any (s : ScM.Sc) (l : List O) (A : Option Addr) (c : Nat) (B : Option Addr) (d : Nat) (w : World) (hF : SlF w A s.f c) (hz : Sc.Fine s) (hO : SlO w B l d) :
    Calls Try.prog 15 #[.agg #[.string s.s, .int .i64 s.v, .slice A s.f.length c], .slice B l.length d] w fun e w' => e = .returned (.tuple #[.int .i64 (kind s l).1, .int .i64 (kind s l).2]) ∧ Below w.heap.size w w' := by
  have hml := fun W (h : Below w.heap.size w W) => may_own l B d W (hO.kept h)
  have hms := fun W (h : Below w.heap.size w W) => Sc.May_any s A c W (hF.kept h) hz
  have hao := fun W (h : Below w.heap.size w W) (g : ScM.May s) => anyOf_any s A c W (hF.kept h) g
  have hth := fun (g : ScM.May s ∧ ExM.May l) K k W (h : Below w.heap.size w W) (hk : SlV W K (kvs s) k) => through_own (held_new true hk) (kvs_may g.1) l B d (fun _ h' => hO.kept ((h.mono (Nat.le_refl _)).trans (((Below.refl w.heap.size W).alloc h.size _).trans (h'.mono h.size)))) (fun x hx => g.2.ok hx) g.2.2
  have hno : ¬ (ScM.May s ∧ ExM.May l) → kind s l = (0, 1) := fun h => by rw [kind, if_pos h]
  have hyes : (ScM.May s ∧ ExM.May l) → kind s l = ((runW (kvs s) true l []).1.k, (runW (kvs s) true l []).2) := fun h => by
    obtain ⟨h1, h2⟩ := through_kind (kvs s) l
    rw [kind, if_neg (fun k => k h), h1, h2]
    rfl
  have hrm : ScM.May s → ExM.May l → VaM.May (runW (kvs s) true l []).1 := fun g1 g2 => (runW_may (kvs_may g1) l [] (fun o ho => ⟨(g2.ok ho).2.2.2.2.2.1, hO.rngs o ho⟩) (fun x hx => by cases hx)).1
  have hre := runW_err (kvs s) true l []
  have hkl : (kvs s).length = s.f.length := by unfold kvs; rw [List.length_map]
  obtain ⟨⟨rk, re⟩, hR⟩ : ∃ R, R = kind s l := ⟨_, rfl⟩
  rw [← hR] at hno hyes ⊢
  obtain ⟨Y, hY⟩ : ∃ Y, Y = runW (kvs s) true l [] := ⟨_, rfl⟩
  rw [← hY] at hyes hrm hre
  simp only [← hY, hkl] at hth
  obtain ⟨KV', hKV⟩ : ∃ K, K = kvs s := ⟨_, rfl⟩
  simp only [← hKV] at hth hao
  clear hY hKV hR hkl
  obtain ⟨y, yr⟩ := Y
  simp only at hyes hrm hre
  obtain ⟨nm, v, f⟩ := s
  simp only at hms hao hth
  simp only
  obtain ⟨n, hn⟩ : ∃ n, n = f.length := ⟨_, rfl⟩
  obtain ⟨m, hm⟩ : ∃ n, n = l.length := ⟨_, rfl⟩
  simp only [← hn] at hms hao hth
  simp only [← hm] at hml hth
  rw [← hn, ← hm]
  have HMl := Lib.hid hml
  have HMs := Lib.hid hms
  have HAo := Lib.hid hao
  have HTh := Lib.hid hth
  have HNo := Lib.hid hno
  have HYes := Lib.hid hyes
  have HRm := Lib.hid hrm
  have HRe := Lib.hid hre
  have HX1 := Lib.hid (bx_new_t w 24 (.string nm) (.int .i64 v) (.slice A n c))
  have HB1 := Lib.hid ((Below.refl w.heap.size w).alloc (Nat.le_refl _) (.cells #[.string nm, .int .i64 v, .slice A n c] 24))
  clear hml hms hao hth hno hyes hrm hre hF hz hO hn hm
  obtain ⟨⟨p0, p1, p2⟩, _⟩ := HX1.out
  go_enter Try.func15, Try.ntmps15
  go_wp2_with fail
  obtain ⟨w1, hw1⟩ : ∃ w1, w1 = w.alloc (.cells #[.string nm, .int .i64 v, .slice A n c] 24) := ⟨_, rfl⟩
  rw [← hw1] at HX1 HB1 ⊢
  clear hw1 p0 p1 p2
  refine (HMs.out w1 HB1.out).mono ?_
  rintro e w2 ⟨rfl, hb2⟩
  have HB2 := Lib.hid (bt HB1.out hb2)
  have HX2 := Lib.hid (HX1.out.kept hb2)
  clear hb2 HB1 HX1 HMs
  by_cases hms : ScM.May ⟨nm, v, f⟩
  · rw [decide_eq_true hms]
    have HS := Lib.hid hms
    clear hms
    go_wp2_with fail
    refine (HMl.out w2 HB2.out).mono ?_
    rintro e w3 ⟨rfl, hb3⟩
    have HB3 := Lib.hid (bt HB2.out hb3)
    have HX3 := Lib.hid (HX2.out.kept hb3)
    clear hb3 HB2 HX2 HMl
    by_cases hml : ExM.May l
    · rw [decide_eq_true hml]
      have HTw := Lib.hid (HTh.out ⟨HS.out, hml⟩)
      have HY := Lib.hid (HYes.out ⟨HS.out, hml⟩)
      have HYm := Lib.hid (HRm.out HS.out hml)
      obtain ⟨⟨p0, p1, p2⟩, _⟩ := HX3.out
      clear hml HNo HYes HTh HRm
      go_wp2_with fail
      refine (HAo.out w3 HB3.out HS.out).mono ?_
      rintro e w4 ⟨K, k, rfl, hsl, hb4⟩
      have HB4 := Lib.hid (bt HB3.out hb4)
      have HC := Lib.hid (HTw.out K k w4 HB4.out hsl)
      have HB5 := Lib.hid (bt HB4.out ((Below.refl w4.heap.size w4).alloc (Nat.le_refl _) (.cells #[.slice none 0 0, .slice K n k, .bool true] 67)))
      have hsz := HB4.out.size
      clear hsl hb4 p0 p1 p2 HAo HTw
      go_wp2_with fail
      obtain ⟨w5, hw5⟩ : ∃ w5, w5 = w4.alloc (.cells #[.slice none 0 0, .slice K n k, .bool true] 67) := ⟨_, rfl⟩
      rw [← hw5] at HC HB5 ⊢
      clear hw5
      refine HC.out.mono ?_
      rintro e w6 ⟨rfl, hb6⟩
      have HB6 := Lib.hid (HB5.out.trans (hb6.mono hsz))
      clear hb6 HC HB5 HB4 HB3
      by_cases hyr : yr = 0
      · subst hyr
        rw [laid_ok]
        clear HRe
        rcases may_ways HYm.out with ⟨a, rfl⟩ | ⟨a, rfl⟩ | ⟨a, rfl⟩ | ⟨a, rfl⟩
        · rw [th_0]
          have z0 := meth_v0
          have z1 := field_k
          have HV := Lib.hid (value_number a)
          unfold ValueV at HV
          simp only at HV
          clear HYm
          go_wp2_with fail
          refine (HV.out _).mono ?_
          rintro e w7 ⟨rfl, hb7⟩
          have HB7 := Lib.hid (bt HB6.out hb7)
          clear hb7
          go_wp2_with fail
          go_ret2
          exact ⟨ret_v (x := .tuple #[.int .i64 0, .int .i64 0]) (by have h := HY.out; injection h with h1 h2; rw [h1, h2]), HB7.out⟩
        · rw [th_1]
          have z0 := meth_v1
          have z1 := field_k
          have HV := Lib.hid (value_truth a)
          unfold ValueV at HV
          clear HYm
          go_wp2_with fail
          refine (HV.out _).mono ?_
          rintro e w7 ⟨rfl, hb7⟩
          have HB7 := Lib.hid (bt HB6.out hb7)
          clear hb7
          go_wp2_with fail
          go_ret2
          exact ⟨ret_v (x := .tuple #[.int .i64 1, .int .i64 0]) (by have h := HY.out; injection h with h1 h2; rw [h1, h2]; rfl), HB7.out⟩
        · rw [th_2]
          have z0 := meth_v2
          have z1 := field_k
          have HV := Lib.hid (value_text a)
          unfold ValueV at HV
          simp only at HV
          clear HYm
          go_wp2_with fail
          refine (HV.out _).mono ?_
          rintro e w7 ⟨rfl, hb7⟩
          have HB7 := Lib.hid (bt HB6.out hb7)
          clear hb7
          go_wp2_with fail
          go_ret2
          exact ⟨ret_v (x := .tuple #[.int .i64 2, .int .i64 0]) (by have h := HY.out; injection h with h1 h2; rw [h1, h2]), HB7.out⟩
        · rw [th_3]
          have z0 := meth_v3
          have z1 := field_k
          have HV := Lib.hid (value_moment a)
          unfold ValueV at HV
          simp only at HV
          clear HYm
          go_wp2_with fail
          refine (HV.out _).mono ?_
          rintro e w7 ⟨rfl, hb7⟩
          have HB7 := Lib.hid (bt HB6.out hb7)
          clear hb7
          go_wp2_with fail
          go_ret2
          exact ⟨ret_v (x := .tuple #[.int .i64 3, .int .i64 0]) (by have h := HY.out; injection h with h1 h2; rw [h1, h2]), HB7.out⟩
      · rw [laid_no _ hyr]
        have g1 : (yr != 0) = true := by simpa using hyr
        have HY0 := Lib.hid (HRe.out hyr)
        clear hyr HRe
        go_wp2_with fail
        go_ret2
        exact ⟨ret_v (x := .tuple #[.int .i64 0, .int .i64 yr]) (by have h := HY.out; injection h with h1 h2; rw [h1, h2, HY0.out]; rfl), HB6.out⟩
    · rw [decide_eq_false hml]
      have HR := Lib.hid (HNo.out (fun h => hml h.2))
      clear hml
      go_wp2_with fail
      go_ret2
      exact ⟨ret_v (x := .tuple #[.int .i64 0, .int .i64 1]) (by have h := HR.out; injection h with h1 h2; rw [h1, h2]), HB3.out⟩
  · rw [decide_eq_false hms]
    have HR := Lib.hid (HNo.out (fun h => hms h.1))
    clear hms
    go_wp2_with fail
    go_ret2
    exact ⟨ret_v (x := .tuple #[.int .i64 0, .int .i64 1]) (by have h := HR.out; injection h with h1 h2; rw [h1, h2]), HB2.out⟩
end Go.Proofs.Ytbjgflinggelpaa.Ex

namespace Go.Proofs.Ytbjgflinggelpaa.Ex
open Go.RowKit Go.Proofs.Ytbjgflinggelpaa.BM Go.Proofs.Ytbjgflinggelpaa.VaM Go.Proofs.Ytbjgflinggelpaa.Va Go.Proofs.Ytbjgflinggelpaa.ExM Go.Proofs.Ytbjgflinggelpaa.EvM

set_option maxRecDepth 100000 in
set_option maxHeartbeats 8000000 in
theorem Eval_any (e : Ev) (l : List O) (A : Option Addr) (c : Nat) (B : Option Addr) (d : Nat) (w : World) (hS : SlV w A e.v c) (hz : Ev.Fine e) (hO : SlO w B l d) :
    Calls Try.prog 17 #[.agg #[.string e.s, .int .i64 e.t, .slice A e.v.length c], .slice B l.length d] w (TwoV (eval e l) w) := by
  have hml := fun W (h : Below w.heap.size w W) => may_own l B d W (hO.kept h)
  have hme := fun W (h : Below w.heap.size w W) => Ev.May_any e A c W (hS.kept h) hz
  have hvm : EvM.May e → ∀ x ∈ e.v, VaM.May x ∧ Rng x := fun h x hx => ⟨h.vok hx, (hS.2 x hx).2⟩
  have hth := fun (g : ExM.May l ∧ EvM.May e) W (h : Below w.heap.size w W) => through_own (held_new false (hS.kept h)) (hvm g.2) l B d (fun _ h' => hO.kept (h.trans (((Below.refl w.heap.size W).alloc h.size _).trans (h'.mono h.size)))) (fun x hx => g.1.ok hx) g.1.2
  have hno : ¬ (ExM.May l ∧ EvM.May e) → eval e l = (v0, 1) := fun h => by rw [eval, if_pos h]
  have hyes : (ExM.May l ∧ EvM.May e) → runW e.v false l [] = eval e l := fun h => by rw [eval, if_neg (fun k => k h), through_is]
  obtain ⟨hrm, _, hre⟩ := eval_good (e := e) (l := l) (fun x hx => (hS.2 x hx).2) hO.rngs
  have hth2 := fun (g : ExM.May l ∧ EvM.May e) W (h : Below w.heap.size w W) => by
    have := hth g W h
    rw [hyes g] at this
    exact this
  obtain ⟨R, hR⟩ : ∃ R, R = eval e l := ⟨_, rfl⟩
  rw [← hR] at hno hrm hre ⊢
  simp only [← hR] at hth2
  obtain ⟨nm, t, vs⟩ := e
  simp only at hml hme hth2 hno ⊢
  obtain ⟨n, hn⟩ : ∃ n, n = vs.length := ⟨_, rfl⟩
  obtain ⟨m, hm⟩ : ∃ n, n = l.length := ⟨_, rfl⟩
  simp only [← hn, ← hm] at hml hme hth2
  rw [← hn, ← hm]
  obtain ⟨y, r⟩ := R
  unfold TwoV
  simp only at hrm hre ⊢
  have HMl := Lib.hid hml
  have HMe := Lib.hid hme
  have HTh := Lib.hid hth2
  have HNo := Lib.hid hno
  have HRm := Lib.hid hrm
  have HRe := Lib.hid hre
  have hb1 := (Below.refl w.heap.size w).alloc (Nat.le_refl _) (.cells #[.string nm, .int .i64 t, .slice A n c] 27)
  have hx1 := bx_new_t w 27 (.string nm) (.int .i64 t) (.slice A n c)
  obtain ⟨u1, hu1⟩ : ∃ u, u = w.alloc (.cells #[.string nm, .int .i64 t, .slice A n c] 27) := ⟨_, rfl⟩
  have hs1 : u1.heap.size = w.heap.size + 1 := by rw [hu1]; simp
  rw [← hu1] at hb1 hx1
  have hb2 := (Below.refl u1.heap.size u1).alloc (Nat.le_refl _) (.cells #[.int .i64 0, .int .i64 0, .string ⟨#[]⟩] 38)
  have hz2 := bx_new_t u1 38 (.int .i64 0) (.int .i64 0) (.string ⟨#[]⟩)
  rw [hs1] at hz2
  have hx2 := hx1.kept hb2
  have hbb := bt hb1 hb2
  rw [hu1] at hx2 hz2 hbb
  have HX2 := Lib.hid hx2
  have HZ2 := Lib.hid hz2
  have HB2 := Lib.hid hbb
  clear hb1 hx1 hs1 hb2 hz2 hx2 hbb hu1 u1 hml hme hth hth2 hno hyes hR hS hz hO hn hm hvm hrm hre
  obtain ⟨⟨p0, p1, p2⟩, _⟩ := HX2.out
  go_enter Try.func17, Try.ntmps17
  go_wp2_with fail
  obtain ⟨w2, hw2⟩ : ∃ w2, w2 = (w.alloc (.cells #[.string nm, .int .i64 t, .slice A n c] 27)).alloc (.cells #[.int .i64 0, .int .i64 0, .string ⟨#[]⟩] 38) := ⟨_, rfl⟩
  rw [← hw2] at HX2 HZ2 HB2 ⊢
  clear hw2 p0 p1 p2
  refine (HMl.out w2 HB2.out).mono ?_
  rintro e w3 ⟨rfl, hb3⟩
  have HB3 := Lib.hid (bt HB2.out hb3)
  have HX3 := Lib.hid (HX2.out.kept hb3)
  have HZ3 := Lib.hid (HZ2.out.kept hb3)
  clear hb3 HB2 HX2 HZ2 HMl
  by_cases hml : ExM.May l
  · rw [decide_eq_true hml]
    have HL := Lib.hid hml
    clear hml
    obtain ⟨⟨p0, p1, p2⟩, _⟩ := HX3.out
    go_wp2_with fail
    refine (HMe.out w3 HB3.out).mono ?_
    rintro e w4 ⟨rfl, hb4⟩
    have HB4 := Lib.hid (bt HB3.out hb4)
    have HX4 := Lib.hid (HX3.out.kept hb4)
    have HZ4 := Lib.hid (HZ3.out.kept hb4)
    clear hb4 HB3 HX3 HZ3 p0 p1 p2 HMe
    by_cases hme : EvM.May ⟨nm, t, vs⟩
    · rw [decide_eq_true hme]
      have HC := Lib.hid (HTh.out ⟨HL.out, hme⟩ w4 HB4.out)
      clear hme HNo HTh
      have ha5 := (Below.refl w4.heap.size w4).alloc (Nat.le_refl _) (.cells #[.slice none 0 0, .slice A n c, .bool false] 67)
      have HZ5 := Lib.hid (HZ4.out.kept ha5)
      have HB5 := Lib.hid (bt HB4.out ha5)
      have hsz := HB4.out.size
      have hlt := HZ4.out.lt
      obtain ⟨⟨p0, p1, p2⟩, _⟩ := HX4.out
      clear ha5 HX4 HB4
      go_wp2_with fail
      obtain ⟨w5, hw5⟩ : ∃ w5, w5 = w4.alloc (.cells #[.slice none 0 0, .slice A n c, .bool false] 67) := ⟨_, rfl⟩
      rw [← hw5] at HC HB5 HZ5 ⊢
      clear hw5 p0 p1 p2
      refine HC.out.mono ?_
      rintro e w6 ⟨rfl, hb6⟩
      have HB6 := Lib.hid (HB5.out.trans (hb6.mono hsz))
      have HZ6 := Lib.hid (HZ5.out.below hb6 hlt)
      clear hb6 HC HB5 HZ5 HZ4
      by_cases hr : r = 0
      · subst hr
        rw [laid_ok]
        clear HRe
        rcases may_ways HRm.out with ⟨a, rfl⟩ | ⟨a, rfl⟩ | ⟨a, rfl⟩ | ⟨a, rfl⟩
        · rw [th_0]
          have z9 := meth_v0
          have HV := Lib.hid (value_number a)
          obtain ⟨⟨k, j, s⟩, hy⟩ : ∃ y : V, y = ⟨0, a, e0⟩ := ⟨_, rfl⟩
          rw [← hy] at HV
          have HY := Lib.hid hy
          unfold ValueV at HV
          simp only at HV
          clear hy HRm
          go_wp2_with fail
          refine (HV.out _).mono ?_
          rintro e w7 ⟨rfl, hb7⟩
          have HZ7 := Lib.hid (HZ6.out.kept hb7)
          have HB7 := Lib.hid (bt HB6.out hb7)
          have hst := bx_store HZ7.out (.int .i64 k) (.int .i64 j) (.string s)
          obtain ⟨⟨g0, g1, g2⟩, _⟩ := hst
          have G0 := Lib.hid g0
          have G1 := Lib.hid g1
          have G2 := Lib.hid g2
          have HF := Lib.hid (stored3 HB7.out (Nat.le_succ _) (.int .i64 k) (.int .i64 j) (.string s))
          obtain ⟨⟨z0, z1, z2⟩, z3, z4, z5⟩ := HZ7.out
          clear g0 g1 g2 hb7 z9
          go_wp2_with fail
          obtain ⟨W2, hW2⟩ : ∃ W2, W2 = ((w7.setCell ⟨w.heap.size + 1, 0, none⟩ (.int .i64 k)).setCell ⟨w.heap.size + 1, 1, none⟩ (.int .i64 j)).setCell ⟨w.heap.size + 1, 2, none⟩ (.string s) := ⟨_, rfl⟩
          rw [← hW2] at HF G0 G1 G2 ⊢
          have g0 := G0.out
          have g1 := G1.out
          have g2 := G2.out
          clear hW2 z0 z1 z2 z3 z4 z5
          exact bodyPost_ret (v := .tuple #[.agg #[.int .i64 k, .int .i64 j, .string s], .int .i64 0]) (by simp [results, Try.results17, go_sem, g0, g1, g2]) rfl ⟨ret_v (by have h := HY.out; first | (rw [← h]; done) | (injection h with h1 h2 h3; rw [h1, h2, h3])), HF.out⟩
        · rw [th_1]
          have z9 := meth_v1
          have HV := Lib.hid (value_truth a)
          obtain ⟨⟨k, j, s⟩, hy⟩ : ∃ y : V, y = truth a := ⟨_, rfl⟩
          rw [← hy] at HV
          have HY := Lib.hid hy
          unfold ValueV at HV
          simp only at HV
          clear hy HRm
          go_wp2_with fail
          refine (HV.out _).mono ?_
          rintro e w7 ⟨rfl, hb7⟩
          have HZ7 := Lib.hid (HZ6.out.kept hb7)
          have HB7 := Lib.hid (bt HB6.out hb7)
          have hst := bx_store HZ7.out (.int .i64 k) (.int .i64 j) (.string s)
          obtain ⟨⟨g0, g1, g2⟩, _⟩ := hst
          have G0 := Lib.hid g0
          have G1 := Lib.hid g1
          have G2 := Lib.hid g2
          have HF := Lib.hid (stored3 HB7.out (Nat.le_succ _) (.int .i64 k) (.int .i64 j) (.string s))
          obtain ⟨⟨z0, z1, z2⟩, z3, z4, z5⟩ := HZ7.out
          clear g0 g1 g2 hb7 z9
          go_wp2_with fail
          obtain ⟨W2, hW2⟩ : ∃ W2, W2 = ((w7.setCell ⟨w.heap.size + 1, 0, none⟩ (.int .i64 k)).setCell ⟨w.heap.size + 1, 1, none⟩ (.int .i64 j)).setCell ⟨w.heap.size + 1, 2, none⟩ (.string s) := ⟨_, rfl⟩
          rw [← hW2] at HF G0 G1 G2 ⊢
          have g0 := G0.out
          have g1 := G1.out
          have g2 := G2.out
          clear hW2 z0 z1 z2 z3 z4 z5
          exact bodyPost_ret (v := .tuple #[.agg #[.int .i64 k, .int .i64 j, .string s], .int .i64 0]) (by simp [results, Try.results17, go_sem, g0, g1, g2]) rfl ⟨ret_v (by have h := HY.out; first | (rw [← h]; done) | (injection h with h1 h2 h3; rw [h1, h2, h3])), HF.out⟩
        · rw [th_2]
          have z9 := meth_v2
          have HV := Lib.hid (value_text a)
          obtain ⟨⟨k, j, s⟩, hy⟩ : ∃ y : V, y = ⟨2, 0, a⟩ := ⟨_, rfl⟩
          rw [← hy] at HV
          have HY := Lib.hid hy
          unfold ValueV at HV
          simp only at HV
          clear hy HRm
          go_wp2_with fail
          refine (HV.out _).mono ?_
          rintro e w7 ⟨rfl, hb7⟩
          have HZ7 := Lib.hid (HZ6.out.kept hb7)
          have HB7 := Lib.hid (bt HB6.out hb7)
          have hst := bx_store HZ7.out (.int .i64 k) (.int .i64 j) (.string s)
          obtain ⟨⟨g0, g1, g2⟩, _⟩ := hst
          have G0 := Lib.hid g0
          have G1 := Lib.hid g1
          have G2 := Lib.hid g2
          have HF := Lib.hid (stored3 HB7.out (Nat.le_succ _) (.int .i64 k) (.int .i64 j) (.string s))
          obtain ⟨⟨z0, z1, z2⟩, z3, z4, z5⟩ := HZ7.out
          clear g0 g1 g2 hb7 z9
          go_wp2_with fail
          obtain ⟨W2, hW2⟩ : ∃ W2, W2 = ((w7.setCell ⟨w.heap.size + 1, 0, none⟩ (.int .i64 k)).setCell ⟨w.heap.size + 1, 1, none⟩ (.int .i64 j)).setCell ⟨w.heap.size + 1, 2, none⟩ (.string s) := ⟨_, rfl⟩
          rw [← hW2] at HF G0 G1 G2 ⊢
          have g0 := G0.out
          have g1 := G1.out
          have g2 := G2.out
          clear hW2 z0 z1 z2 z3 z4 z5
          exact bodyPost_ret (v := .tuple #[.agg #[.int .i64 k, .int .i64 j, .string s], .int .i64 0]) (by simp [results, Try.results17, go_sem, g0, g1, g2]) rfl ⟨ret_v (by have h := HY.out; first | (rw [← h]; done) | (injection h with h1 h2 h3; rw [h1, h2, h3])), HF.out⟩
        · rw [th_3]
          have z9 := meth_v3
          have HV := Lib.hid (value_moment a)
          obtain ⟨⟨k, j, s⟩, hy⟩ : ∃ y : V, y = ⟨3, a, e0⟩ := ⟨_, rfl⟩
          rw [← hy] at HV
          have HY := Lib.hid hy
          unfold ValueV at HV
          simp only at HV
          clear hy HRm
          go_wp2_with fail
          refine (HV.out _).mono ?_
          rintro e w7 ⟨rfl, hb7⟩
          have HZ7 := Lib.hid (HZ6.out.kept hb7)
          have HB7 := Lib.hid (bt HB6.out hb7)
          have hst := bx_store HZ7.out (.int .i64 k) (.int .i64 j) (.string s)
          obtain ⟨⟨g0, g1, g2⟩, _⟩ := hst
          have G0 := Lib.hid g0
          have G1 := Lib.hid g1
          have G2 := Lib.hid g2
          have HF := Lib.hid (stored3 HB7.out (Nat.le_succ _) (.int .i64 k) (.int .i64 j) (.string s))
          obtain ⟨⟨z0, z1, z2⟩, z3, z4, z5⟩ := HZ7.out
          clear g0 g1 g2 hb7 z9
          go_wp2_with fail
          obtain ⟨W2, hW2⟩ : ∃ W2, W2 = ((w7.setCell ⟨w.heap.size + 1, 0, none⟩ (.int .i64 k)).setCell ⟨w.heap.size + 1, 1, none⟩ (.int .i64 j)).setCell ⟨w.heap.size + 1, 2, none⟩ (.string s) := ⟨_, rfl⟩
          rw [← hW2] at HF G0 G1 G2 ⊢
          have g0 := G0.out
          have g1 := G1.out
          have g2 := G2.out
          clear hW2 z0 z1 z2 z3 z4 z5
          exact bodyPost_ret (v := .tuple #[.agg #[.int .i64 k, .int .i64 j, .string s], .int .i64 0]) (by simp [results, Try.results17, go_sem, g0, g1, g2]) rfl ⟨ret_v (by have h := HY.out; first | (rw [← h]; done) | (injection h with h1 h2 h3; rw [h1, h2, h3])), HF.out⟩
      · rw [laid_no _ hr]
        have g1 : (r != 0) = true := by simpa using hr
        have HY0 := Lib.hid (HRe.out hr)
        have hst := bx_store HZ6.out (.int .i64 0) (.int .i64 0) (.string ⟨#[]⟩)
        obtain ⟨⟨g0', g1', g2'⟩, _⟩ := hst
        have G0 := Lib.hid g0'
        have G1 := Lib.hid g1'
        have G2 := Lib.hid g2'
        have HF := Lib.hid (stored3 HB6.out (Nat.le_succ _) (.int .i64 0) (.int .i64 0) (.string ⟨#[]⟩))
        obtain ⟨⟨z0, z1, z2⟩, z3, z4, z5⟩ := HZ6.out
        clear g0' g1' g2' hr HRe
        go_wp2_with fail
        obtain ⟨W2, hW2⟩ : ∃ W2, W2 = ((w6.setCell ⟨w.heap.size + 1, 0, none⟩ (.int .i64 0)).setCell ⟨w.heap.size + 1, 1, none⟩ (.int .i64 0)).setCell ⟨w.heap.size + 1, 2, none⟩ (.string ⟨#[]⟩) := ⟨_, rfl⟩
        rw [← hW2] at HF G0 G1 G2 ⊢
        have g0 := G0.out
        have g1 := G1.out
        have g2 := G2.out
        clear hW2 z0 z1 z2 z3 z4 z5
        exact bodyPost_ret (v := .tuple #[.agg #[.int .i64 0, .int .i64 0, .string ⟨#[]⟩], .int .i64 r]) (by simp [results, Try.results17, go_sem, g0, g1, g2]) rfl ⟨ret_v (by rw [HY0.out]; rfl), HF.out⟩
    · rw [decide_eq_false hme]
      have HR := Lib.hid (HNo.out (fun h => hme h.2))
      clear hme
      have hst := bx_store HZ4.out (.int .i64 0) (.int .i64 0) (.string ⟨#[]⟩)
      obtain ⟨⟨g0, g1, g2⟩, _⟩ := hst
      have G0 := Lib.hid g0
      have G1 := Lib.hid g1
      have G2 := Lib.hid g2
      have HF := Lib.hid (stored3 HB4.out (Nat.le_succ _) (.int .i64 0) (.int .i64 0) (.string ⟨#[]⟩))
      obtain ⟨⟨z0, z1, z2⟩, z3, z4, z5⟩ := HZ4.out
      clear g0 g1 g2
      go_wp2_with fail
      obtain ⟨W2, hW2⟩ : ∃ W2, W2 = ((w4.setCell ⟨w.heap.size + 1, 0, none⟩ (.int .i64 0)).setCell ⟨w.heap.size + 1, 1, none⟩ (.int .i64 0)).setCell ⟨w.heap.size + 1, 2, none⟩ (.string ⟨#[]⟩) := ⟨_, rfl⟩
      rw [← hW2] at HF G0 G1 G2 ⊢
      have g0 := G0.out
      have g1 := G1.out
      have g2 := G2.out
      clear hW2 z0 z1 z2 z3 z4 z5
      exact bodyPost_ret (v := .tuple #[.agg #[.int .i64 0, .int .i64 0, .string ⟨#[]⟩], .int .i64 1]) (by simp [results, Try.results17, go_sem, g0, g1, g2]) rfl ⟨ret_v (by have h := HR.out; injection h with h1 h2; rw [h1, h2]; rfl), HF.out⟩
  · rw [decide_eq_false hml]
    have HR := Lib.hid (HNo.out (fun h => hml h.1))
    clear hml
    have hst := bx_store HZ3.out (.int .i64 0) (.int .i64 0) (.string ⟨#[]⟩)
    obtain ⟨⟨g0, g1, g2⟩, _⟩ := hst
    have G0 := Lib.hid g0
    have G1 := Lib.hid g1
    have G2 := Lib.hid g2
    have HF := Lib.hid (stored3 HB3.out (Nat.le_succ _) (.int .i64 0) (.int .i64 0) (.string ⟨#[]⟩))
    obtain ⟨⟨z0, z1, z2⟩, z3, z4, z5⟩ := HZ3.out
    clear g0 g1 g2
    go_wp2_with fail
    obtain ⟨W2, hW2⟩ : ∃ W2, W2 = ((w3.setCell ⟨w.heap.size + 1, 0, none⟩ (.int .i64 0)).setCell ⟨w.heap.size + 1, 1, none⟩ (.int .i64 0)).setCell ⟨w.heap.size + 1, 2, none⟩ (.string ⟨#[]⟩) := ⟨_, rfl⟩
    rw [← hW2] at HF G0 G1 G2 ⊢
    have g0 := G0.out
    have g1 := G1.out
    have g2 := G2.out
    clear hW2 z0 z1 z2 z3 z4 z5
    exact bodyPost_ret (v := .tuple #[.agg #[.int .i64 0, .int .i64 0, .string ⟨#[]⟩], .int .i64 1]) (by simp [results, Try.results17, go_sem, g0, g1, g2]) rfl ⟨ret_v (by have h := HR.out; injection h with h1 h2; rw [h1, h2]; rfl), HF.out⟩

set_option maxRecDepth 100000 in
set_option maxHeartbeats 4000000 in
theorem Holds_any (e : Ev) (l : List O) (A : Option Addr) (c : Nat) (B : Option Addr) (d : Nat) (w : World) (hS : SlV w A e.v c) (hz : Ev.Fine e) (hO : SlO w B l d) :
    Calls Try.prog 25 #[.agg #[.string e.s, .int .i64 e.t, .slice A e.v.length c], .slice B l.length d] w fun r w' => r = .returned (.bool (holds e l)) ∧ Below w.heap.size w w' := by
  have hev := fun W (h : Below w.heap.size w W) => Eval_any e l A c B d W (hS.kept h) hz (hO.kept h)
  have hh := holds_own (e := e) (l := l) (fun x hx => (hS.2 x hx).2) hO.rngs
  obtain ⟨H, hH⟩ : ∃ H, H = holds e l := ⟨_, rfl⟩
  rw [← hH] at hh ⊢
  obtain ⟨R, hR⟩ : ∃ R, R = eval e l := ⟨_, rfl⟩
  rw [← hR] at hh
  simp only [← hR] at hev
  obtain ⟨⟨k, j, s⟩, r⟩ := R
  unfold TwoV at hev
  simp only at hev hh
  obtain ⟨nm, t, vs⟩ := e
  simp only at hev ⊢
  obtain ⟨n, hn⟩ : ∃ n, n = vs.length := ⟨_, rfl⟩
  obtain ⟨m, hm⟩ : ∃ n, n = l.length := ⟨_, rfl⟩
  simp only [← hn, ← hm] at hev
  rw [← hm] at hh
  rw [← hn, ← hm]
  have HEv := Lib.hid hev
  have HH := Lib.hid hh
  have HX1 := Lib.hid (bx_new_t w 27 (.string nm) (.int .i64 t) (.slice A n c))
  have HB1 := Lib.hid ((Below.refl w.heap.size w).alloc (Nat.le_refl _) (.cells #[.string nm, .int .i64 t, .slice A n c] 27))
  clear hev hh hH hR hn hm hS hz hO
  obtain ⟨⟨p0, p1, p2⟩, _⟩ := HX1.out
  by_cases h0 : m = 0
  · subst h0
    go_enter Try.func25, Try.ntmps25
    go_wp2_with fail
    go_ret
    exact ⟨ret_v (x := .bool true) (by rw [HH.out]; rfl), HB1.out⟩
  · have g1 : (m == 0) = false := by simpa using h0
    have g2 : ((m : Int) == 0) = false := by simpa using (show (m : Int) ≠ 0 by omega)
    have HHm := Lib.hid (show H = same ⟨k, j, s⟩ (truth true) from by rw [HH.out, decide_eq_false h0, Bool.false_or])
    have hq := eql_v k j 1 1 s ⟨#[]⟩
    rw [show same ⟨k, j, s⟩ ⟨1, 1, ⟨#[]⟩⟩ = same ⟨k, j, s⟩ (truth true) from rfl] at hq
    rw [← HHm.out] at hq
    have HV := Lib.hid (value_truth true)
    unfold ValueV at HV
    rw [show (truth true).k = 1 from rfl, show (truth true).n = 1 from rfl, show (truth true).s = ⟨#[]⟩ from rfl] at HV
    clear HH h0
    go_enter Try.func25, Try.ntmps25
    go_wp2_with fail
    refine (HEv.out _ HB1.out).mono ?_
    rintro e w2 ⟨rfl, hb2⟩
    have ha3 := (Below.refl w2.heap.size w2).alloc (Nat.le_refl _) (.cells #[.int .i64 k, .int .i64 j, .string s] 38)
    have HB3 := Lib.hid (bt HB1.out (bt hb2 ha3))
    obtain ⟨⟨y0, y1, y2⟩, _⟩ := bx_new_t w2 38 (.int .i64 k) (.int .i64 j) (.string s)
    obtain ⟨g, hg⟩ : ∃ g, g = w2.heap.size := ⟨_, rfl⟩
    clear hb2 ha3 HB1 HX1 HEv p0 p1 p2
    go_wp2_with fail
    obtain ⟨w3, hw3⟩ : ∃ w3, w3 = w2.alloc (.cells #[.int .i64 k, .int .i64 j, .string s] 38) := ⟨_, rfl⟩
    rw [← hw3, ← hg] at y0 y1 y2 ⊢
    rw [← hw3] at HB3
    clear hw3 hg
    refine Reg.G_start (by kernel_rfl) (by repeat (first | exact Reg.frameless_bodyPost | refine Reg.frameless_then ?_ | refine Reg.frameless_inBlock ?_)) (fun W hW => ?_)
    have hbw := Reg.below_trans HB3.out hW
    have x0 := Reg.later_cell hW y0
    have x1 := Reg.later_cell hW y1
    have x2 := Reg.later_cell hW y2
    clear y0 y1 y2
    first | (refine Reg.G_step (i := 0) rfl (by kernel_rfl) (by rfl) (fun K hK => ?_); go_big_quiet_op; refine hK _ ?_; clear hK K) | (refine Reg.G_skip (i := 0) rfl (by kernel_rfl) (by rfl) ?_; simp only [Act.put, List.setIfInBounds_toArray, List.set_cons_zero, List.set_cons_succ])
    refine Reg.G_event (i := 1) rfl (by kernel_rfl) (by rfl) (fun K hK => ?_)
    go_simp
    refine (HV.out _).mono ?_
    rintro e v0' ⟨rfl, hv0⟩
    refine hK _ _ hv0 ?_
    clear hK K
    have hw0 := bt hbw hv0
    first | (refine Reg.G_step (i := 2) rfl (by kernel_rfl) (by rfl) (fun K hK => ?_); go_big_quiet_op; refine hK _ ?_; clear hK K) | (refine Reg.G_skip (i := 2) rfl (by kernel_rfl) (by rfl) ?_; simp only [Act.put, List.setIfInBounds_toArray, List.set_cons_zero, List.set_cons_succ])
    first | (refine Reg.G_step (i := 3) rfl (by kernel_rfl) (by rfl) (fun K hK => ?_); go_big_quiet_op; refine hK _ ?_; clear hK K) | (refine Reg.G_skip (i := 3) rfl (by kernel_rfl) (by rfl) ?_; simp only [Act.put, List.setIfInBounds_toArray, List.set_cons_zero, List.set_cons_succ])
    refine Reg.G_done rfl ?_
    go_wp2_with fail
    go_ret
    exact ⟨rfl, hw0⟩
end Go.Proofs.Ytbjgflinggelpaa.Ex

namespace Go.Proofs.Ytbjgflinggelpaa.LeZ
open Go.RowKit Go.Proofs.Ytbjgflinggelpaa.BM

theorem refZig_any (n : Int) (w : World) (h0 : -9223372036854775808 ≤ n) (h1 : n ≤ 9223372036854775807) :
    Calls Try.prog 64 #[.int .i64 n] w fun e w' => e = .returned (.int .u64 (zig n)) ∧ w = w' := by
  by_cases h : n < 0
  · go_enter Try.func64, Try.ntmps64
    go_wp2
    go_ret
    refine ⟨ret_int ?_, rfl⟩
    simp only [zig]
    rw [if_pos (by omega)]
    omega
  · go_enter Try.func64, Try.ntmps64
    go_wp2
    go_ret
    refine ⟨ret_int ?_, rfl⟩
    simp only [zig]
    rw [if_neg (by omega)]

theorem refZag_any (n : Int) (w : World) (h0 : 0 ≤ n) (h1 : n ≤ 18446744073709551615) :
    Calls Try.prog 68 #[.int .u64 n] w fun e w' => e = .returned (.int .i64 (zag n)) ∧ w = w' := by
  by_cases h : n % 2 = 1
  · have h2 : ¬ n % 2 = 0 := by omega
    go_enter Try.func68, Try.ntmps68
    go_wp2
    go_ret
    refine ⟨ret_int ?_, rfl⟩
    simp only [zag]
    rw [if_pos h]
  · have h2 : n % 2 = 0 := by omega
    go_enter Try.func68, Try.ntmps68
    go_wp2
    go_ret
    refine ⟨ret_int ?_, rfl⟩
    simp only [zag]
    rw [if_neg (by omega)]
end Go.Proofs.Ytbjgflinggelpaa.LeZ

namespace Go.Proofs.Ytbjgflinggelpaa.Va
open Go.RowKit Go.Proofs.Ytbjgflinggelpaa.BM Go.Proofs.Ytbjgflinggelpaa.LM Go.Proofs.Ytbjgflinggelpaa.LeM Go.Proofs.Ytbjgflinggelpaa.LeZ Go.Proofs.Ytbjgflinggelpaa.VaM

def Putted (v : V) (w : World) : Ending → World → Prop := fun e w' => ∃ A c, e = .returned (.tuple #[.slice A (pv v).length c, .bool (decide (May v))]) ∧ SlB w' A (pv v) c ∧ (∀ a, A = some a → w.heap.size ≤ a.block) ∧ Below w.heap.size w w'

theorem putted_v {v : V} {ys : List Int} (hm : May v) (ht : pv v = ys) (A : Option Addr) (c : Nat) : Value.tuple #[.slice A (pv v).length c, .bool (decide (May v))] = .tuple #[.slice A ys.length c, .bool true] := by rw [ht, decide_eq_true hm]

theorem putted_n {v : V} (hm : ¬ May v) : Value.tuple #[.slice none (pv v).length 0, .bool (decide (May v))] = .tuple #[.slice none 0 0, .bool false] := by rw [decide_eq_false hm, pv, if_neg hm]; rfl

set_option maxRecDepth 100000 in
set_option maxHeartbeats 1000000 in
theorem Put_any (k n : Int) (s : ByteArray) (w : World) (hr : Rng ⟨k, n, s⟩) :
    Calls Try.prog 63 #[.agg #[.int .i64 k, .int .i64 n, .string s]] w (Putted ⟨k, n, s⟩ w) := by
  have HB := Lib.hid ((Below.refl w.heap.size w).alloc (Nat.le_refl _) (.cells #[.int .i64 k, .int .i64 n, .string s] 38))
  have HX := Lib.hid (bx_new w (.int .i64 k) (.int .i64 n) (.string s))
  have HT := Lib.hid (fun W => tail_any ⟨k, n, s⟩ W hr)
  have HR := Lib.hid hr
  clear hr
  go_enter Try.func63, Try.ntmps63
  go_wp2_with fail
  refine (held_any k n s _).mono ?_
  rintro e w1 ⟨rfl, hb1⟩
  have HB1 := Lib.hid (bt HB.out hb1)
  have HX1 := Lib.hid (HX.out.kept hb1)
  obtain ⟨h, hh⟩ : ∃ h, h = heldV ⟨k, n, s⟩ := ⟨_, rfl⟩
  rw [← hh] at HT ⊢
  clear hb1 HB HX hh
  go_wp2_with fail
  refine (HT.out _).mono ?_
  rintro e w2 ⟨A, c, rfl, h2, hb2⟩
  have HB2 := Lib.hid (bt HB1.out hb2)
  have hx2 := HX1.out.kept hb2
  have HS := Lib.hid h2
  clear hb2 HB1 HX1 h2 HT
  by_cases hm : May ⟨k, n, s⟩
  · have ht : tl ⟨k, n, s⟩ = putL (num ⟨k, n, s⟩) ++ bl s := by rw [tl, if_pos hm]
    have hp : pv ⟨k, n, s⟩ = [k] ++ tl ⟨k, n, s⟩ := by rw [pv, if_pos hm, ht]; rfl
    have hk := may_kind hm
    simp only at hk
    have hl : (tl ⟨k, n, s⟩).length ≤ 60 := by
      have := putV_len hm HR.out
      rw [show putV ⟨k, n, s⟩ = [k] ++ tl ⟨k, n, s⟩ from by rw [ht]; rfl, List.length_append] at this
      omega
    obtain ⟨t, hT⟩ : ∃ t, t = tl ⟨k, n, s⟩ := ⟨_, rfl⟩
    rw [← hT] at hl hp HS ⊢
    obtain ⟨m, hM⟩ : ∃ m, m = t.length := ⟨_, rfl⟩
    rw [← hM] at hl ⊢
    have HM := Lib.hid hM
    have HP := Lib.hid hp
    have HMay := Lib.hid hm
    rw [decide_eq_true hm]
    have hcap := HS.out.2.2.1
    have HC := Lib.hid hcap
    obtain ⟨⟨c0, c1, c2⟩, _⟩ := hx2
    have hz2 := HB2.out.size
    have hown0 := World.ownsRow_lit (base := w.heap.size) (e := 5) (size := 1) w2 #[.int .u8 k] 1 hz2 (by decide) rfl
    have HO := Lib.hid hown0
    have HS' := Lib.hid (HS.out.kept ((Below.refl _ _).alloc (Nat.le_refl _) (.cells #[.int .u8 k] 5)))
    clear hm hp hM hT ht hcap c1 c2 hown0
    go_wp2_with (at_builtin; refine wp_append_b rfl (.tmp 17) (.tmp 18) rfl w.heap.size _ 1 [k] rfl HO.out A m c t rfl HM.out.symm HS'.out.1 HC.out (by omega) (by simp; omega) ?_; intro v1 w3 hown3 hgrow3; refine pause ?_)
    have hB3 : Below w.heap.size w w3 := (HB2.out.alloc (HB2.out.size) _).grown hgrow3 (by simp; omega) (fun q hq => (HO.out.lt q hq).1)
    rw [show [k] ++ t = pv ⟨k, n, s⟩ from HP.out.symm] at hown3
    obtain ⟨A', c', rfl, hl3, h3, h4⟩ := own_slB hown3 (pv_bytes _)
    have hz3 := hB3.size
    have HS3 := Lib.hid h3
    have HB3 := Lib.hid hB3
    have HL3 := Lib.hid hl3
    have H4 := Lib.hid (fun a ha => (h4 a ha).2.1)
    clear h3 hB3 hown3 hgrow3 h4 hl3
    unfold Pause
    go_wp2_with fail
    go_ret2
    exact ⟨A', c', ret_v (putted_v HMay.out rfl A' c'), HS3.out, H4.out, HB3.out⟩
  · rw [decide_eq_false hm]
    have HMay := Lib.hid hm
    have hp : pv ⟨k, n, s⟩ = [] := by rw [pv, if_neg hm]
    have HP := Lib.hid hp
    clear hm hp hx2
    go_wp2_with fail
    go_ret2
    exact ⟨none, 0, ret_v (putted_n HMay.out), by rw [HP.out]; exact slB_none _, (fun a ha => by cases ha), HB2.out⟩
end Go.Proofs.Ytbjgflinggelpaa.Va

namespace Go.Proofs.Ytbjgflinggelpaa.LeG
open Go.RowKit Go.Proofs.Ytbjgflinggelpaa.LeM Go.Proofs.Ytbjgflinggelpaa.LeZ Go.Proofs.Ytbjgflinggelpaa.LeP Go.Proofs.Ytbjgflinggelpaa.BM

set_option maxRecDepth 100000 in
theorem refPut_any (n : Nat) (w : World) (hn : n < 18446744073709551616) :
    Calls Try.prog 42 #[.int .u64 n] w (Puts n w) := by
  obtain ⟨i0, hi, hz0, hz1, hz2⟩ := info_parts info_u8
  have hL10 := putL_len64 hn
  obtain ⟨L, hLd⟩ : ∃ L, L = (putL n).length := ⟨_, rfl⟩
  rw [← hLd] at hL10
  have HL := Lib.hid hLd
  clear hLd
  go_enter Try.func42, Try.ntmps42
  go_wp2_with fail
  go_loopw [0, 3] (fun nn v wr => ∃ (k m : Nat) (pre : List Int), nn = .int .u64 m ∧ St n w k m pre v wr) (fun nn _ _ => (intOf nn).toNat)
  case atStart => exact ⟨0, n, [], rfl, rfl, rfl, Nat.le_refl _, World.ownsRow_nil _ _ _ _, Below.refl _ _⟩
  case round =>
    obtain ⟨k, m, pre, rfl, hst⟩ := hrel
    have hown := hst.2.2.2.1
    have hbel := hst.2.2.2.2
    have hpl : L = k + (putL m).length := by rw [HL.out, hst.2.1, List.length_append, hst.1]
    have hpm := putL_pos m
    have hmn : m ≤ n := hst.2.2.1
    have hk10 : k + 1 ≤ 10 := by omega
    clear hpl hpm
    by_cases hm : 128 ≤ m
    · go_wp2_with (at_builtin; refine wpList_append_own _ rfl (.tmp 6) (.tmp 11) 29 rfl w.heap.size 5 i0 (.int .u8 0) 1 1 Try.underlying29 hi hz0 hz1 hz2 rfl (by decide) _ _ _ rfl (hown.alloc _) ⟨wr.heap.size, 0, none⟩ 1 1 [.int .u8 ((m : Int) % 128 + 128)] rfl rfl (cell_one_new _ _ _) (fun x hx => by simp at hx; subst hx; rfl) (by unfold maxLen; omega) (by omega) (by have := hbel.size; simp; omega) ?_; intro v' w1 hown1 hgrow1 _)
      have hs := hst.step hm hown1 hgrow1
      clear hown1 hgrow1 hst hown hbel
      go_wp2
      go_roundw
      case rel => exact ⟨k + 1, m / 128, _, by go_num, hs⟩
      case measure => simp [intOf]; omega
    · have hm' : m < 128 := by omega
      go_wp2_with (at_builtin; refine wpList_append_own _ rfl (.tmp 15) (.tmp 18) 29 rfl w.heap.size 5 i0 (.int .u8 0) 1 1 Try.underlying29 hi hz0 hz1 hz2 rfl (by decide) _ _ _ rfl (hown.alloc _) ⟨wr.heap.size, 0, none⟩ 1 1 [.int .u8 (m : Int)] rfl rfl (cell_one_new _ _ _) (fun x hx => by simp at hx; subst hx; rfl) (by unfold maxLen; omega) (by omega) (by have := hbel.size; simp; omega) ?_; intro v' w1 hown1 hgrow1 _)
      have hs := hst.last hm' hown1 hgrow1
      clear hown1 hgrow1 hst hown hbel
      go_wp2
      go_ret
      exact hs

theorem refPut_mem (n : Nat) (w : World) (hn : n < 18446744073709551616) :
    Calls Try.prog 42 #[.int .u64 n] w fun e w' => ∃ g cap, e = .returned (.slice (some ⟨g, 0, none⟩) (putL n).length cap) ∧
      IsB w' (some ⟨g, 0, none⟩) (putL n) ∧ Below w.heap.size w w' := by
  refine (refPut_any n w hn).mono ?_
  rintro e w' ⟨v, rfl, hown, hb⟩
  obtain ⟨g, cap, rfl, _, h1, h2, h3, h4⟩ := isB_own hown (putL_bytes n) (putL_pos n)
  exact ⟨g, cap, rfl, h4, hb⟩
end Go.Proofs.Ytbjgflinggelpaa.LeG

namespace Go.Proofs.Ytbjgflinggelpaa.Va
open Go.RowKit Go.Proofs.Ytbjgflinggelpaa.BM Go.Proofs.Ytbjgflinggelpaa.LM Go.Proofs.Ytbjgflinggelpaa.LeM Go.Proofs.Ytbjgflinggelpaa.LeZ Go.Proofs.Ytbjgflinggelpaa.VaM

theorem refPut_sl (n : Nat) (w : World) (hn : n < 18446744073709551616) : Calls Try.prog 42 #[.int .u64 n] w (PutSl n w) := (LeG.refPut_any n w hn).mono fun _ _ h => putSl_of h

set_option maxRecDepth 100000 in
set_option maxHeartbeats 2000000 in
theorem refPut_any (k n : Int) (s : ByteArray) (w : World) (hr : Rng ⟨k, n, s⟩) :
    Calls Try.prog 43 #[.agg #[.int .i64 k, .int .i64 n, .string s]] w (Putted ⟨k, n, s⟩ w) := by
  have HB := Lib.hid ((Below.refl w.heap.size w).alloc (Nat.le_refl _) (.cells #[.int .i64 k, .int .i64 n, .string s] 38))
  have HX := Lib.hid (bx_new w (.int .i64 k) (.int .i64 n) (.string s))
  have HR := Lib.hid hr
  clear hr
  go_enter Try.func43, Try.ntmps43
  go_wp2_with fail
  refine (refMay_any k n s _).mono ?_
  rintro e w1 ⟨rfl, hb1⟩
  have HB1 := Lib.hid (bt HB.out hb1)
  have HX1 := Lib.hid (HX.out.kept hb1)
  clear hb1 HB HX
  by_cases hm : May ⟨k, n, s⟩
  · rw [decide_eq_true hm]
    have hN : num ⟨k, n, s⟩ < 18446744073709551616 := num_lt hm HR.out
    have hP := fun W => refPut_sl (num ⟨k, n, s⟩) W hN
    have hpv : pv ⟨k, n, s⟩ = [k] ++ putL (num ⟨k, n, s⟩) ++ bl s := by rw [pv, if_pos hm]; rfl
    have hlen := putL_len64 hN
    have hpos := putL_pos (num ⟨k, n, s⟩)
    have hk := may_kind hm
    have hsz := may_size hm
    simp only at hk hsz
    have hz := zig_rng (n := n) HR.out.1 HR.out.2
    have HZ := Lib.hid (fun W => refZig_any n W HR.out.1 HR.out.2)
    have hk0 : k = 0 → zig n = ((num ⟨k, n, s⟩ : Nat) : Int) := fun h => by
      rw [num, if_pos h]
      show zig n = ((zig n).toNat : Int)
      omega
    have hk2 : k = 2 → (s.size : Int) = ((num ⟨k, n, s⟩ : Nat) : Int) := fun h => by rw [num, if_neg (show ¬ k = 0 by omega), if_pos h]
    have hk1 : k ≠ 0 → k ≠ 2 → 0 ≤ n ∧ n = ((num ⟨k, n, s⟩ : Nat) : Int) := fun h h' => by
      have e : num ⟨k, n, s⟩ = n.toNat := by rw [num, if_neg h, if_neg h']
      rw [e]
      rcases hm with ⟨h1, _, _⟩ | ⟨_, h1 | ⟨_, h1⟩ | ⟨_, h1, h2⟩⟩
      · exact absurd h1 h'
      · exact absurd h1 h
      · replace h1 : n = 0 ∨ n = 1 := h1
        omega
      · replace h1 : 0 ≤ n := h1
        omega
    obtain ⟨N, hNd⟩ : ∃ N, N = num ⟨k, n, s⟩ := ⟨_, rfl⟩
    rw [← hNd] at hN hpv hlen hpos hk0 hk2 hk1
    simp only [← hNd] at hP
    have HPut := Lib.hid hP
    have HPv := Lib.hid hpv
    have HMay := Lib.hid hm
    have HK0 := Lib.hid hk0
    have HK1 := Lib.hid hk1
    have HK2 := Lib.hid hk2
    obtain ⟨L, hL⟩ : ∃ L, L = (putL N).length := ⟨_, rfl⟩
    rw [← hL] at hlen hpos
    have HL := Lib.hid hL
    obtain ⟨⟨p0, p1, p2⟩, _⟩ := HX1.out
    clear hP hpv hm hk0 hk1 hk2 hNd hL
    by_cases k0 : k = 0
    · have hz' := HK0.out k0
      subst k0
      go_wp2_with fail
      refine (HZ.out _).mono ?_
      rintro e w2 ⟨rfl, rfl⟩
      rw [hz']
      clear hz'
      go_wp2_with fail
      refine RegB.GS_start (fun x => Bx x w.heap.size (.int .i64 0) (.int .i64 n) (.string s)) (by kernel_rfl) (by repeat (first | exact Reg.frameless_bodyPost | refine Reg.frameless_then ?_ | refine Reg.frameless_inBlock ?_)) (fun W hW => HX1.out.kept hW) (fun W hW => ?_)
      have HW := Lib.hid hW
      have x0 : ∀ x : RegB.At (fun x => Bx x w.heap.size (.int .i64 0) (.int .i64 n) (.string s)), x.world.cell? ⟨w.heap.size, 0, none⟩ = some (.int .i64 0) := fun x => x.ok.1.1
      haveI : Nonempty (RegB.At (fun x => Bx x w.heap.size (.int .i64 0) (.int .i64 n) (.string s))) := ⟨⟨W, HX1.out.kept hW⟩⟩
      clear hW p0 p1 p2
      first | (refine RegB.GS_step (i := 0) rfl (by kernel_rfl) (by rfl) (fun K hK => ?_); go_big_quiet_op; refine hK _ ?_; clear hK K)
      first | (refine RegB.GS_step (i := 1) rfl (by kernel_rfl) (by rfl) (fun K hK => ?_); go_big_quiet_op; refine hK _ ?_; clear hK K)
      first | (refine RegB.GS_step (i := 2) rfl (by kernel_rfl) (by rfl) (fun K hK => ?_); go_big_quiet_op; refine hK _ ?_; clear hK K)
      first | (refine RegB.GS_step (i := 4) rfl (by kernel_rfl) (by rfl) (fun K hK => ?_); go_big_quiet_op; refine hK _ ?_; clear hK K)
      refine RegB.GS_fork (i := 3) (j := 5) rfl rfl (by kernel_rfl) (by rfl) (by rfl) (fun K hK => ?_) (fun K hK => ?_)
      focus
        go_simp
        refine hK _ _ ((HX1.out.kept HW.out).kept ((Below.refl _ _).alloc (Nat.le_refl _) _)) ?_
        clear hK K
        refine RegB.GS_event (i := 5) rfl (by kernel_rfl) (by rfl) (fun K hK => ?_)
        go_simp
        refine (HPut.out _).mono ?_
        rintro e w4 ⟨A, c, rfl, h4, _, hB4⟩
        rw [← HL.out]
        refine hK _ _ (((HX1.out.kept HW.out).kept ((Below.refl _ _).alloc (Nat.le_refl _) _)).kept hB4) ?_
        clear hK K
        have hown := RegA.own_below (World.ownsRow_lit (base := w1.heap.size) (e := 5) (size := 1) W #[.int .u8 0] 1 HW.out.size (by decide) rfl) hB4
        have hbel : Below w1.heap.size w1 w4 := bt HW.out (bt ((Below.refl _ W).alloc (Nat.le_refl _) (.cells #[.int .u8 0] 5)) hB4)
        obtain ⟨g, hg⟩ : ∃ g, g = W.heap.size := ⟨_, rfl⟩
        rw [← hg] at hown ⊢
        have HO := Lib.hid hown
        have HBel := Lib.hid hbel
        have H4 := Lib.hid h4
        clear hown hbel h4 hB4 hg
      rotate_left
      focus
        go_simp
        refine (HPut.out _).mono ?_
        rintro e w3 ⟨A, c, rfl, h3, _, hB3⟩
        rw [← HL.out]
        refine hK _ _ ((HX1.out.kept HW.out).kept hB3) ?_
        clear hK K
        refine RegB.GS_event (i := 3) rfl (by kernel_rfl) (by rfl) (fun K hK => ?_)
        go_simp
        refine hK _ _ (((HX1.out.kept HW.out).kept hB3).kept ((Below.refl _ _).alloc (Nat.le_refl _) _)) ?_
        clear hK K
        have hown := World.ownsRow_lit (base := w1.heap.size) (e := 5) (size := 1) w3 #[.int .u8 0] 1 (bt HW.out hB3).size (by decide) rfl
        have hbel : Below w1.heap.size w1 (w3.alloc (.cells #[.int .u8 0] 5)) := bt HW.out (bt hB3 ((Below.refl _ w3).alloc (Nat.le_refl _) (.cells #[.int .u8 0] 5)))
        have h4 := h3.kept ((Below.refl _ w3).alloc (Nat.le_refl _) (.cells #[.int .u8 0] 5))
        obtain ⟨g, hg⟩ : ∃ g, g = w3.heap.size := ⟨_, rfl⟩
        obtain ⟨w4, hw4⟩ : ∃ w4, w4 = w3.alloc (.cells #[.int .u8 0] 5) := ⟨_, rfl⟩
        rw [← hw4] at hown hbel h4 ⊢
        rw [← hg] at hown ⊢
        have HO := Lib.hid hown
        have HBel := Lib.hid hbel
        have H4 := Lib.hid h4
        clear hown hbel h4 hB3 h3 hg hw4
      all_goals
        have hsz1 := HBel.out.size
        refine RegB.GS_event (i := 6) rfl (by kernel_rfl) (by rfl) (fun K hK => ?_)
        refine RegA.op_append_b (.tmp 30) (.tmp 32) rfl w1.heap.size _ 1 [0] rfl HO.out A L c (putL N) rfl HL.out.symm H4.out.1 hpos (by omega) hsz1 ?_
        intro v5 w5 hown5 hgrow5
        have hB5 : Below w1.heap.size w1 w5 := HBel.out.grown hgrow5 hsz1 (fun q hq => (HO.out.lt q hq).1)
        refine hK _ _ (HX1.out.kept hB5) ?_
        clear hK K
        simp only [Act.put, List.setIfInBounds_toArray, List.set_cons_zero, List.set_cons_succ]
        first | (refine RegB.GS_step (i := 7) rfl (by kernel_rfl) (by rfl) (fun K hK => ?_); go_big_quiet_op; refine hK _ ?_; clear hK K)
        refine RegB.GS_done (by kernel_rfl) ?_
        obtain ⟨⟨p0, p1, p2⟩, _⟩ := HX1.out.kept hB5
        have hsz5 := hB5.size
        have HO5 := Lib.hid hown5
        have HB5 := Lib.hid hB5
        clear hown5 hB5 hgrow5 x0 p0 p1
        go_wp2_with (at_builtin; refine wp_append_s rfl (.tmp 34) (.tmp 36) 9 Try.underlying9 rfl w1.heap.size v5 (1 + L) ([0] ++ putL N) rfl HO5.out s rfl (by omega) hsz5 ?_; intro v6 w6 hown6 hgrow6; refine pause ?_)
        have hB6 : Below w1.heap.size w1 w6 := HB5.out.grown hgrow6 hsz5 (fun q hq => (HO5.out.lt q hq).1)
        rw [← HPv.out] at hown6
        obtain ⟨A6, c6, rfl, hl6, h6, h7⟩ := own_slB hown6 (pv_bytes _)
        have hszw := HB1.out.size
        have H7 := Lib.hid (show ∀ a, A6 = some a → w.heap.size ≤ a.block from fun a ha => by have := (h7 a ha).2.1; omega)
        have H6 := Lib.hid h6
        have HB6 := Lib.hid (bt HB1.out hB6)
        clear h6 h7 hB6 hown6 hgrow6 p2 hl6
        unfold Pause
        go_wp2_with fail
        go_ret2
        exact ⟨A6, c6, ret_v (putted_v HMay.out rfl A6 c6), H6.out, H7.out, HB6.out⟩
    · by_cases k2 : k = 2
      · have hz' := HK2.out k2
        subst k2
        go_wp2_with fail
        refine RegB.GS_start (fun x => Bx x w.heap.size (.int .i64 2) (.int .i64 n) (.string s)) (by kernel_rfl) (by repeat (first | exact Reg.frameless_bodyPost | refine Reg.frameless_then ?_ | refine Reg.frameless_inBlock ?_)) (fun W hW => HX1.out.kept hW) (fun W hW => ?_)
        have HW := Lib.hid hW
        have x0 : ∀ x : RegB.At (fun x => Bx x w.heap.size (.int .i64 2) (.int .i64 n) (.string s)), x.world.cell? ⟨w.heap.size, 0, none⟩ = some (.int .i64 2) := fun x => x.ok.1.1
        haveI : Nonempty (RegB.At (fun x => Bx x w.heap.size (.int .i64 2) (.int .i64 n) (.string s))) := ⟨⟨W, HX1.out.kept hW⟩⟩
        clear hW p0 p1 p2
        first | (refine RegB.GS_step (i := 0) rfl (by kernel_rfl) (by rfl) (fun K hK => ?_); go_big_quiet_op; refine hK _ ?_; clear hK K)
        first | (refine RegB.GS_step (i := 1) rfl (by kernel_rfl) (by rfl) (fun K hK => ?_); go_big_quiet_op; refine hK _ ?_; clear hK K)
        first | (refine RegB.GS_step (i := 2) rfl (by kernel_rfl) (by rfl) (fun K hK => ?_); go_big_quiet_op; refine hK _ ?_; clear hK K)
        first | (refine RegB.GS_step (i := 4) rfl (by kernel_rfl) (by rfl) (fun K hK => ?_); go_big_quiet_op; refine hK _ ?_; clear hK K)
        refine RegB.GS_fork (i := 3) (j := 5) rfl rfl (by kernel_rfl) (by rfl) (by rfl) (fun K hK => ?_) (fun K hK => ?_)
        focus
          go_simp
          refine hK _ _ ((HX1.out.kept HW.out).kept ((Below.refl _ _).alloc (Nat.le_refl _) _)) ?_
          clear hK K
          refine RegB.GS_event (i := 5) rfl (by kernel_rfl) (by rfl) (fun K hK => ?_)
          go_simp
          refine (HPut.out _).mono ?_
          rintro e w4 ⟨A, c, rfl, h4, _, hB4⟩
          rw [← HL.out]
          refine hK _ _ (((HX1.out.kept HW.out).kept ((Below.refl _ _).alloc (Nat.le_refl _) _)).kept hB4) ?_
          clear hK K
          have hown := RegA.own_below (World.ownsRow_lit (base := w1.heap.size) (e := 5) (size := 1) W #[.int .u8 2] 1 HW.out.size (by decide) rfl) hB4
          have hbel : Below w1.heap.size w1 w4 := bt HW.out (bt ((Below.refl _ W).alloc (Nat.le_refl _) (.cells #[.int .u8 2] 5)) hB4)
          obtain ⟨g, hg⟩ : ∃ g, g = W.heap.size := ⟨_, rfl⟩
          rw [← hg] at hown ⊢
          have HO := Lib.hid hown
          have HBel := Lib.hid hbel
          have H4 := Lib.hid h4
          clear hown hbel h4 hB4 hg
        rotate_left
        focus
          go_simp
          refine (HPut.out _).mono ?_
          rintro e w3 ⟨A, c, rfl, h3, _, hB3⟩
          rw [← HL.out]
          refine hK _ _ ((HX1.out.kept HW.out).kept hB3) ?_
          clear hK K
          refine RegB.GS_event (i := 3) rfl (by kernel_rfl) (by rfl) (fun K hK => ?_)
          go_simp
          refine hK _ _ (((HX1.out.kept HW.out).kept hB3).kept ((Below.refl _ _).alloc (Nat.le_refl _) _)) ?_
          clear hK K
          have hown := World.ownsRow_lit (base := w1.heap.size) (e := 5) (size := 1) w3 #[.int .u8 2] 1 (bt HW.out hB3).size (by decide) rfl
          have hbel : Below w1.heap.size w1 (w3.alloc (.cells #[.int .u8 2] 5)) := bt HW.out (bt hB3 ((Below.refl _ w3).alloc (Nat.le_refl _) (.cells #[.int .u8 2] 5)))
          have h4 := h3.kept ((Below.refl _ w3).alloc (Nat.le_refl _) (.cells #[.int .u8 2] 5))
          obtain ⟨g, hg⟩ : ∃ g, g = w3.heap.size := ⟨_, rfl⟩
          obtain ⟨w4, hw4⟩ : ∃ w4, w4 = w3.alloc (.cells #[.int .u8 2] 5) := ⟨_, rfl⟩
          rw [← hw4] at hown hbel h4 ⊢
          rw [← hg] at hown ⊢
          have HO := Lib.hid hown
          have HBel := Lib.hid hbel
          have H4 := Lib.hid h4
          clear hown hbel h4 hB3 h3 hg hw4
        all_goals
          have hsz1 := HBel.out.size
          refine RegB.GS_event (i := 6) rfl (by kernel_rfl) (by rfl) (fun K hK => ?_)
          refine RegA.op_append_b (.tmp 30) (.tmp 32) rfl w1.heap.size _ 1 [2] rfl HO.out A L c (putL N) rfl HL.out.symm H4.out.1 hpos (by omega) hsz1 ?_
          intro v5 w5 hown5 hgrow5
          have hB5 : Below w1.heap.size w1 w5 := HBel.out.grown hgrow5 hsz1 (fun q hq => (HO.out.lt q hq).1)
          refine hK _ _ (HX1.out.kept hB5) ?_
          clear hK K
          simp only [Act.put, List.setIfInBounds_toArray, List.set_cons_zero, List.set_cons_succ]
          first | (refine RegB.GS_step (i := 7) rfl (by kernel_rfl) (by rfl) (fun K hK => ?_); go_big_quiet_op; refine hK _ ?_; clear hK K)
          refine RegB.GS_done (by kernel_rfl) ?_
          obtain ⟨⟨p0, p1, p2⟩, _⟩ := HX1.out.kept hB5
          have hsz5 := hB5.size
          have HO5 := Lib.hid hown5
          have HB5 := Lib.hid hB5
          clear hown5 hB5 hgrow5 x0 p0 p1
          go_wp2_with (at_builtin; refine wp_append_s rfl (.tmp 34) (.tmp 36) 9 Try.underlying9 rfl w1.heap.size v5 (1 + L) ([2] ++ putL N) rfl HO5.out s rfl (by omega) hsz5 ?_; intro v6 w6 hown6 hgrow6; refine pause ?_)
          have hB6 : Below w1.heap.size w1 w6 := HB5.out.grown hgrow6 hsz5 (fun q hq => (HO5.out.lt q hq).1)
          rw [← HPv.out] at hown6
          obtain ⟨A6, c6, rfl, hl6, h6, h7⟩ := own_slB hown6 (pv_bytes _)
          have hszw := HB1.out.size
          have H7 := Lib.hid (show ∀ a, A6 = some a → w.heap.size ≤ a.block from fun a ha => by have := (h7 a ha).2.1; omega)
          have H6 := Lib.hid h6
          have HB6 := Lib.hid (bt HB1.out hB6)
          clear h6 h7 hB6 hown6 hgrow6 p2 hl6
          unfold Pause
          go_wp2_with fail
          go_ret2
          exact ⟨A6, c6, ret_v (putted_v HMay.out rfl A6 c6), H6.out, H7.out, HB6.out⟩
      · obtain ⟨hn0, hn1⟩ := HK1.out k0 k2
        have hnb : n ≤ 9223372036854775807 := HR.out.2
        subst hn1
        have b0 : (k == 0) = false := by simpa using k0
        have b2 : (k == 2) = false := by simpa using k2
        go_wp2_with fail
        refine RegB.GS_start (fun x => Bx x w.heap.size (.int .i64 k) (.int .i64 (N : Int)) (.string s)) (by kernel_rfl) (by repeat (first | exact Reg.frameless_bodyPost | refine Reg.frameless_then ?_ | refine Reg.frameless_inBlock ?_)) (fun W hW => HX1.out.kept hW) (fun W hW => ?_)
        have HW := Lib.hid hW
        have x0 : ∀ x : RegB.At (fun x => Bx x w.heap.size (.int .i64 k) (.int .i64 (N : Int)) (.string s)), x.world.cell? ⟨w.heap.size, 0, none⟩ = some (.int .i64 k) := fun x => x.ok.1.1
        haveI : Nonempty (RegB.At (fun x => Bx x w.heap.size (.int .i64 k) (.int .i64 (N : Int)) (.string s))) := ⟨⟨W, HX1.out.kept hW⟩⟩
        clear hW p0 p1 p2
        first | (refine RegB.GS_step (i := 0) rfl (by kernel_rfl) (by rfl) (fun K hK => ?_); go_big_quiet_op; refine hK _ ?_; clear hK K)
        first | (refine RegB.GS_step (i := 1) rfl (by kernel_rfl) (by rfl) (fun K hK => ?_); go_big_quiet_op; refine hK _ ?_; clear hK K)
        first | (refine RegB.GS_step (i := 2) rfl (by kernel_rfl) (by rfl) (fun K hK => ?_); go_big_quiet_op; refine hK _ ?_; clear hK K)
        first | (refine RegB.GS_step (i := 4) rfl (by kernel_rfl) (by rfl) (fun K hK => ?_); go_big_quiet_op; refine hK _ ?_; clear hK K)
        refine RegB.GS_fork (i := 3) (j := 5) rfl rfl (by kernel_rfl) (by rfl) (by rfl) (fun K hK => ?_) (fun K hK => ?_)
        focus
          go_simp
          refine hK _ _ ((HX1.out.kept HW.out).kept ((Below.refl _ _).alloc (Nat.le_refl _) _)) ?_
          clear hK K
          refine RegB.GS_event (i := 5) rfl (by kernel_rfl) (by rfl) (fun K hK => ?_)
          go_simp
          refine (HPut.out _).mono ?_
          rintro e w4 ⟨A, c, rfl, h4, _, hB4⟩
          rw [← HL.out]
          refine hK _ _ (((HX1.out.kept HW.out).kept ((Below.refl _ _).alloc (Nat.le_refl _) _)).kept hB4) ?_
          clear hK K
          have hown := RegA.own_below (World.ownsRow_lit (base := w1.heap.size) (e := 5) (size := 1) W #[.int .u8 k] 1 HW.out.size (by decide) rfl) hB4
          have hbel : Below w1.heap.size w1 w4 := bt HW.out (bt ((Below.refl _ W).alloc (Nat.le_refl _) (.cells #[.int .u8 k] 5)) hB4)
          obtain ⟨g, hg⟩ : ∃ g, g = W.heap.size := ⟨_, rfl⟩
          rw [← hg] at hown ⊢
          have HO := Lib.hid hown
          have HBel := Lib.hid hbel
          have H4 := Lib.hid h4
          clear hown hbel h4 hB4 hg
        rotate_left
        focus
          go_simp
          refine (HPut.out _).mono ?_
          rintro e w3 ⟨A, c, rfl, h3, _, hB3⟩
          rw [← HL.out]
          refine hK _ _ ((HX1.out.kept HW.out).kept hB3) ?_
          clear hK K
          refine RegB.GS_event (i := 3) rfl (by kernel_rfl) (by rfl) (fun K hK => ?_)
          go_simp
          refine hK _ _ (((HX1.out.kept HW.out).kept hB3).kept ((Below.refl _ _).alloc (Nat.le_refl _) _)) ?_
          clear hK K
          have hown := World.ownsRow_lit (base := w1.heap.size) (e := 5) (size := 1) w3 #[.int .u8 k] 1 (bt HW.out hB3).size (by decide) rfl
          have hbel : Below w1.heap.size w1 (w3.alloc (.cells #[.int .u8 k] 5)) := bt HW.out (bt hB3 ((Below.refl _ w3).alloc (Nat.le_refl _) (.cells #[.int .u8 k] 5)))
          have h4 := h3.kept ((Below.refl _ w3).alloc (Nat.le_refl _) (.cells #[.int .u8 k] 5))
          obtain ⟨g, hg⟩ : ∃ g, g = w3.heap.size := ⟨_, rfl⟩
          obtain ⟨w4, hw4⟩ : ∃ w4, w4 = w3.alloc (.cells #[.int .u8 k] 5) := ⟨_, rfl⟩
          rw [← hw4] at hown hbel h4 ⊢
          rw [← hg] at hown ⊢
          have HO := Lib.hid hown
          have HBel := Lib.hid hbel
          have H4 := Lib.hid h4
          clear hown hbel h4 hB3 h3 hg hw4
        all_goals
          have hsz1 := HBel.out.size
          refine RegB.GS_event (i := 6) rfl (by kernel_rfl) (by rfl) (fun K hK => ?_)
          refine RegA.op_append_b (.tmp 30) (.tmp 32) rfl w1.heap.size _ 1 [k] rfl HO.out A L c (putL N) rfl HL.out.symm H4.out.1 hpos (by omega) hsz1 ?_
          intro v5 w5 hown5 hgrow5
          have hB5 : Below w1.heap.size w1 w5 := HBel.out.grown hgrow5 hsz1 (fun q hq => (HO.out.lt q hq).1)
          refine hK _ _ (HX1.out.kept hB5) ?_
          clear hK K
          simp only [Act.put, List.setIfInBounds_toArray, List.set_cons_zero, List.set_cons_succ]
          first | (refine RegB.GS_step (i := 7) rfl (by kernel_rfl) (by rfl) (fun K hK => ?_); go_big_quiet_op; refine hK _ ?_; clear hK K)
          refine RegB.GS_done (by kernel_rfl) ?_
          obtain ⟨⟨p0, p1, p2⟩, _⟩ := HX1.out.kept hB5
          have hsz5 := hB5.size
          have HO5 := Lib.hid hown5
          have HB5 := Lib.hid hB5
          clear hown5 hB5 hgrow5 x0 p0 p1
          go_wp2_with (at_builtin; refine wp_append_s rfl (.tmp 34) (.tmp 36) 9 Try.underlying9 rfl w1.heap.size v5 (1 + L) ([k] ++ putL N) rfl HO5.out s rfl (by omega) hsz5 ?_; intro v6 w6 hown6 hgrow6; refine pause ?_)
          have hB6 : Below w1.heap.size w1 w6 := HB5.out.grown hgrow6 hsz5 (fun q hq => (HO5.out.lt q hq).1)
          rw [← HPv.out] at hown6
          obtain ⟨A6, c6, rfl, hl6, h6, h7⟩ := own_slB hown6 (pv_bytes _)
          have hszw := HB1.out.size
          have H7 := Lib.hid (show ∀ a, A6 = some a → w.heap.size ≤ a.block from fun a ha => by have := (h7 a ha).2.1; omega)
          have H6 := Lib.hid h6
          have HB6 := Lib.hid (bt HB1.out hB6)
          clear h6 h7 hB6 hown6 hgrow6 p2 hl6
          unfold Pause
          go_wp2_with fail
          go_ret2
          exact ⟨A6, c6, ret_v (putted_v HMay.out rfl A6 c6), H6.out, H7.out, HB6.out⟩
  · rw [decide_eq_false hm]
    have HMay := Lib.hid hm
    have hp : pv ⟨k, n, s⟩ = [] := by rw [pv, if_neg hm]
    have HP := Lib.hid hp
    clear hm hp
    go_wp2_with fail
    go_ret2
    exact ⟨none, 0, ret_v (putted_n HMay.out), by rw [HP.out]; exact slB_none _, (fun a ha => by cases ha), HB1.out⟩
end Go.Proofs.Ytbjgflinggelpaa.Va

namespace Go.Proofs.Ytbjgflinggelpaa.Ex
open Go.RowKit Go.Proofs.Ytbjgflinggelpaa.BM Go.Proofs.Ytbjgflinggelpaa.LM Go.Proofs.Ytbjgflinggelpaa.LeM Go.Proofs.Ytbjgflinggelpaa.ExM Go.Proofs.Ytbjgflinggelpaa.EvM
open Go.Proofs.Ytbjgflinggelpaa.VaM (V Rng putV putV_len putV_bytes)
open Go.Proofs.Ytbjgflinggelpaa.Va (PutSl ret_v)

/-- What Put answers. -/
def Putted (l : List O) (w : World) : Ending → World → Prop := fun r w' => ∃ A c, r = .returned (.tuple #[.slice A (ExM.pv l).length c, .bool (decide (ExM.May l))]) ∧ SlB w' A (ExM.pv l) c ∧ Below w.heap.size w w'

theorem take_snocO {l : List O} {j : Nat} (hj : j < l.length) : l.take (j + 1) = l.take j ++ [l.getD j o0] := by
  rw [List.take_succ_eq_append_getElem hj]
  simp [List.getD_eq_getElem?_getD, hj]

theorem pO_push {o : O} (h : o.c = 0) : pO o = o.c :: putV o.v := by rw [pO, if_pos h]
theorem pO_load {o : O} (h : o.c = 1) : pO o = [o.c, o.a] := by rw [pO, if_neg (by omega), if_pos h]
theorem pO_none {o : O} (h0 : o.c ≠ 0) (h1 : o.c ≠ 1) : pO o = [o.c] := by rw [pO, if_neg h0, if_neg h1]

set_option maxRecDepth 100000 in
set_option maxHeartbeats 8000000 in
theorem refPut_any (l : List O) (A : Option Addr) (c : Nat) (w : World) (hS : SlO w A l c) :
    Calls Try.prog 20 #[.slice A l.length c] w (Putted l w) := by
  have hm1 := refMay_any l A c w hS
  have hl := slO_len hS
  have HS := Lib.hid hS
  have hrn : ExM.Rngs l := hS.rngs
  by_cases hmay : ExM.May l
  · have HMay := Lib.hid hmay
    have hpv : ExM.pv l = pL l := by rw [ExM.pv, if_pos hmay]
    have hl12 := hmay.2
    have hok := fun x hx => hmay.ok (x := x) hx
    have hlen := fun j => (show (pOs (l.take j)).length ≤ 52 * 12 from Nat.le_trans (pOs_len (fun x hx => hok x (List.mem_of_mem_take hx)) (fun x hx => hrn x (List.mem_of_mem_take hx))) (Nat.mul_le_mul_left 52 (by rw [List.length_take]; omega)))
    rw [decide_eq_true hmay] at hm1
    have HPv := Lib.hid hpv
    have HOk := Lib.hid hok
    have HPl := Lib.hid (fun W => Va.refPut_sl l.length W (by omega))
    have hq3 := putL_len64 (n := l.length) (by omega)
    have HLe := Lib.hid hlen
    have HRn := Lib.hid hrn
    clear hpv hok hS hlen hrn hmay
    obtain ⟨P, hP⟩ : ∃ P, P = putL l.length := ⟨_, rfl⟩
    have HPre := Lib.hid hP
    obtain ⟨n, hn⟩ : ∃ n, n = l.length := ⟨_, rfl⟩
    rw [← hn] at hl hl12 hm1 HPl hq3 ⊢
    have HN := Lib.hid hn
    rw [← hn] at hP
    rw [← hP] at hq3
    have HPn := Lib.hid hP
    have HM1 := Lib.hid hm1
    clear hn hm1 hP
    go_enter Try.func20, Try.ntmps20
    go_wp2_with fail
    refine HM1.out.mono ?_
    rintro e w1 ⟨rfl, hb1⟩
    have HB1 := Lib.hid hb1
    clear hb1 HM1
    go_wp2_with fail
    refine (HPl.out w1).mono ?_
    rintro e w2 ⟨A2, c2, rfl, _, hown2, hb2⟩
    rw [← HPn.out] at hown2 ⊢
    have hsz : w.heap.size ≤ w1.heap.size := HB1.out.size
    have HO2 := Lib.hid hown2
    have HB2 := Lib.hid hb2
    clear hown2 hb2 HPl
    obtain ⟨m3, hm3⟩ : ∃ m, m = P.length := ⟨_, rfl⟩
    rw [← hm3] at HO2 hq3 ⊢
    have HM3 := Lib.hid hm3
    clear hm3
    go_wp2_with fail
    go_loopw [5, 6] (fun u i wr => ∃ (j k : Nat), i = .int .i64 j ∧ j ≤ n ∧ k = (P ++ pOs (l.take j)).length ∧ wr.ownsRow w1.heap.size 5 1 u k (cs (P ++ pOs (l.take j))) ∧ Below w1.heap.size w1 wr) (fun _ i _ => n - (intOf i).toNat)
    case atStart => exact ⟨0, m3, rfl, Nat.zero_le _, by simpa [pOs] using HM3.out, by simpa [pOs] using HO2.out, HB2.out⟩
    case round =>
      obtain ⟨j, k, rfl, hj, hk, hown, hbel⟩ := hrel
      have hk2 : k ≤ 700 := by
        rw [hk, List.length_append, ← HM3.out]
        have := HLe.out j
        omega
      have HO := Lib.hid hown
      have HK := Lib.hid hk
      have HBl2 := Lib.hid hbel
      clear hown hk hbel HO2 HB2
      by_cases hjn : j < n
      · obtain ⟨b, q, hix, hc, hfz⟩ := HS.out.at j (by rw [← HN.out]; exact hjn)
        have hfok := HOk.out _ (ExM.getD_mem (l := l) (i := j) (by rw [← HN.out]; exact hjn))
        have hsn := take_snocO (l := l) (j := j) (by rw [← HN.out]; exact hjn)
        obtain ⟨⟨fc, fa, fk, fn, fs⟩, hf⟩ : ∃ f, f = l.getD j o0 := ⟨_, rfl⟩
        rw [← hf] at hc hfok hsn hfz
        have hrg := hfz.2.1
        obtain ⟨c0, c1', c2', c3', c4'⟩ := hc wr (bt HB1.out HBl2.out)
        simp only at c0 c1' c2' c3' c4' hrg
        have hi := fun W => hix W n c hjn
        obtain ⟨k1, k2, k3, k4, _, hvm, _⟩ := hfok
        simp only at k1 k2 k3 k4 hvm
        have HSn := Lib.hid hsn
        have hc256 : fc % 256 = fc := by omega
        have ha256 : fa % 256 = fa := by omega
        have HC := Lib.hid hc
        have ha3 := (Below.refl wr.heap.size wr).alloc (Nat.le_refl _) (.cells #[.int .u8 fc] 5)
        have HNew := Lib.hid (isB_new wr [fc] (by intro x hx; simp only [List.mem_singleton] at hx; omega))
        have HO3 := Lib.hid (RegA.own_below HO.out ha3)
        have HB3 := Lib.hid (bt HBl2.out ha3)
        have hz3 := HB3.out.size
        clear hix hf hsn ha3 hfz hc
        go_wp2_with (at_builtin; refine wp_append_b rfl (.tmp 23) (.tmp 30) rfl w1.heap.size _ k _ rfl HO3.out (some ⟨wr.heap.size, 0, none⟩) 1 1 [fc] rfl rfl HNew.out (fun h => by cases h) (by omega) hz3 ?_; intro u4 w4 hown4 hgrow4; refine pause ?_)
        have hB4 : Below w1.heap.size w1 w4 := HB3.out.grown hgrow4 hz3 (fun q hq => (HO3.out.lt q hq).1)
        have HO4 := Lib.hid hown4
        have HB4 := Lib.hid hB4
        clear hown4 hgrow4 hB4 HO3 HB3 HNew c0 c1' c2' c3' c4'
        unfold Pause
        obtain ⟨c0, c1', c2', c3', c4'⟩ := HC.out w4 (bt HB1.out HB4.out)
        simp only at c0 c1' c2' c3' c4'
        by_cases h0 : fc = 0
        · have g0 : (fc == 0) = true := by simpa using h0
          have g1 : (fc == 1) = false := by rw [h0]; rfl
          have HpO := Lib.hid (pO_push (o := ⟨fc, fa, fk, fn, fs⟩) h0)
          have hput := fun W => Va.refPut_any fk fn fs W hrg
          have hpp := (show VaM.pv ⟨fk, fn, fs⟩ = putV ⟨fk, fn, fs⟩ from by rw [VaM.pv, if_pos hvm])
          unfold Va.Putted at hput
          rw [hpp, decide_eq_true hvm] at hput
          have hpl := (putV_len hvm hrg).2
          obtain ⟨m, hm⟩ : ∃ m, m = (putV ⟨fk, fn, fs⟩).length := ⟨_, rfl⟩
          rw [← hm] at hpl
          simp only [← hm] at hput
          have HPu := Lib.hid hput
          have HM := Lib.hid hm
          clear h0 hput hpp hm
          go_wp2_with fail
          refine (HPu.out _).mono ?_
          rintro e w5 ⟨A5, c5, rfl, hs5, _, hb5⟩
          have HO5 := Lib.hid (RegA.own_below HO4.out hb5)
          have HB5 := Lib.hid (bt HB4.out hb5)
          have HS5 := Lib.hid hs5
          have hz5 := HB5.out.size
          clear hs5 hb5 c0 c1' c2' c3' c4' HPu HO4
          go_wp2_with (at_builtin; refine wp_append_b rfl (.tmp 47) (.tmp 48) rfl w1.heap.size _ (k + 1) _ rfl HO5.out A5 m c5 (putV ⟨fk, fn, fs⟩) rfl HM.out.symm HS5.out.1 HS5.out.2.2.1 (by omega) hz5 ?_; intro u6 w6 hown6 hgrow6; refine pause ?_)
          have hB6 : Below w1.heap.size w1 w6 := HB5.out.grown hgrow6 hz5 (fun q hq => (HO5.out.lt q hq).1)
          have he6 : (P ++ pOs (l.take j) ++ [fc]) ++ putV ⟨fk, fn, fs⟩ = P ++ pOs (l.take (j + 1)) := by
            rw [HSn.out, pOs_snoc, HpO.out, List.append_assoc, List.append_assoc]
            rfl
          rw [he6] at hown6
          have hk6 : k + 1 + m = (P ++ pOs (l.take (j + 1))).length := by
            rw [← he6, List.length_append, List.length_append, ← HM.out, ← HK.out]
            rfl
          have HO6 := Lib.hid hown6
          have HB6 := Lib.hid hB6
          have HK6 := Lib.hid hk6
          clear hown6 hgrow6 hB6 he6 hk6
          unfold Pause
          obtain ⟨c0, c1', c2', c3', c4'⟩ := HC.out w6 (bt HB1.out HB6.out)
          simp only at c0 c1' c2' c3' c4'
          go_wp2_with fail
          go_roundw
          case rel => exact ⟨j + 1, k + 1 + m, by go_num, by omega, HK6.out, HO6.out, HB6.out⟩
          case measure => simp [intOf]; omega
        · have g0 : (fc == 0) = false := by simpa using h0
          by_cases h1 : fc = 1
          · have g1 : (fc == 1) = true := by simpa using h1
            have HpO := Lib.hid (pO_load (o := ⟨fc, fa, fk, fn, fs⟩) h1)
            have ha5 := (Below.refl w4.heap.size w4).alloc (Nat.le_refl _) (.cells #[.int .u8 fa] 5)
            have HNew := Lib.hid (isB_new w4 [fa] (by intro x hx; simp only [List.mem_singleton] at hx; omega))
            have HO5 := Lib.hid (RegA.own_below HO4.out ha5)
            have HB5 := Lib.hid (bt HB4.out ha5)
            have hz5 := HB5.out.size
            clear h0 h1 ha5
            go_wp2_with (at_builtin; refine wp_append_b rfl (.tmp 56) (.tmp 63) rfl w1.heap.size _ (k + 1) _ rfl HO5.out (some ⟨w4.heap.size, 0, none⟩) 1 1 [fa] rfl rfl HNew.out (fun h => by cases h) (by omega) hz5 ?_; intro u6 w6 hown6 hgrow6; refine pause ?_)
            have hB6 : Below w1.heap.size w1 w6 := HB5.out.grown hgrow6 hz5 (fun q hq => (HO5.out.lt q hq).1)
            have he6 : (P ++ pOs (l.take j) ++ [fc]) ++ [fa] = P ++ pOs (l.take (j + 1)) := by
              rw [HSn.out, pOs_snoc, HpO.out, List.append_assoc, List.append_assoc]
              rfl
            rw [he6] at hown6
            have hk6 : k + 1 + 1 = (P ++ pOs (l.take (j + 1))).length := by
              rw [← he6, List.length_append, List.length_append, ← HK.out]
              rfl
            have HO6 := Lib.hid hown6
            have HB6 := Lib.hid hB6
            have HK6 := Lib.hid hk6
            clear hown6 hgrow6 hB6 he6 hk6
            unfold Pause
            go_wp2_with fail
            go_roundw
            case rel => exact ⟨j + 1, k + 1 + 1, by go_num, by omega, HK6.out, HO6.out, HB6.out⟩
            case measure => simp [intOf]; omega
          · have g1 : (fc == 1) = false := by simpa using h1
            have HpO := Lib.hid (pO_none (o := ⟨fc, fa, fk, fn, fs⟩) h0 h1)
            have he6 : P ++ pOs (l.take j) ++ [fc] = P ++ pOs (l.take (j + 1)) := by
              rw [HSn.out, pOs_snoc, HpO.out, List.append_assoc]
            have hown6 := HO4.out
            rw [he6] at hown6
            have hk6 : k + 1 = (P ++ pOs (l.take (j + 1))).length := by
              rw [← he6, List.length_append, ← HK.out]
              rfl
            have HO6 := Lib.hid hown6
            have HK6 := Lib.hid hk6
            clear h0 h1 hown6 he6 hk6
            go_wp2_with fail
            go_roundw
            case rel => exact ⟨j + 1, k + 1, by go_num, by omega, HK6.out, HO6.out, HB4.out⟩
            case measure => simp [intOf]; omega
      · obtain rfl : j = n := by omega
        have hall : P ++ pOs (l.take j) = ExM.pv l := by
          rw [HPv.out, HN.out, List.take_length, HPre.out]
          rfl
        have hown := HO.out
        rw [hall] at hown
        obtain ⟨A5, c5, rfl, hl5, h5, h6⟩ := own_slB hown (ExM.pv_bytes _)
        have HS5 := Lib.hid h5
        have HD := Lib.hid (decide_eq_true HMay.out)
        clear hall hown h5 h6 hl5
        go_wp2_with fail
        go_ret2
        exact ⟨A5, c5, ret_v (x := .tuple #[.slice A5 (ExM.pv l).length c5, .bool true]) (by rw [HD.out]), HS5.out, bt HB1.out HBl2.out⟩
  · have hpv : ExM.pv l = [] := by rw [ExM.pv, if_neg hmay]
    rw [decide_eq_false hmay] at hm1
    have HPv := Lib.hid hpv
    have HD := Lib.hid (decide_eq_false hmay)
    obtain ⟨n, hn⟩ : ∃ n, n = l.length := ⟨_, rfl⟩
    rw [← hn] at hm1 ⊢
    have HM1 := Lib.hid hm1
    clear hn hm1 hpv hmay hS hl hrn
    go_enter Try.func20, Try.ntmps20
    go_wp2_with fail
    refine HM1.out.mono ?_
    rintro e w1 ⟨rfl, hb1⟩
    have HB1 := Lib.hid hb1
    clear hb1 HM1
    go_wp2_with fail
    go_ret2
    exact ⟨none, 0, ret_v (by rw [HD.out, HPv.out]; rfl), by rw [HPv.out]; exact slB_none _, HB1.out⟩
end Go.Proofs.Ytbjgflinggelpaa.Ex

namespace Go.Proofs.Ytbjgflinggelpaa.Ex
open Go.RowKit Go.Proofs.Ytbjgflinggelpaa.BM Go.Proofs.Ytbjgflinggelpaa.LM Go.Proofs.Ytbjgflinggelpaa.LeM Go.Proofs.Ytbjgflinggelpaa.ExM Go.Proofs.Ytbjgflinggelpaa.EvM
open Go.Proofs.Ytbjgflinggelpaa.VaM (V Rng putV putV_len putV_bytes)
open Go.Proofs.Ytbjgflinggelpaa.Va (PutSl Put_sl ret_v)

/-- What stands behind the byte of the code. -/
def tlO (o : O) : List Int := if o.c = 0 then putV o.v else if o.c = 1 then [o.a] else []
theorem pO_tl (o : O) : pO o = o.c :: tlO o := rfl
theorem tlO_len {o : O} (h : Ok o) (hr : Rng o.v) : (tlO o).length ≤ 51 := by
  have := (pO_len h hr).2
  rw [pO_tl, List.length_cons] at this
  omega

set_option maxRecDepth 100000 in
set_option maxHeartbeats 4000000 in
theorem behindCode_any (o : O) (w : World) (ho : Ok o) (hr : Rng o.v) : Calls Try.prog 41 #[agO o] w fun e w' => ∃ A c, e = .returned (.slice A (tlO o).length c) ∧ SlB w' A (tlO o) c ∧ Below w.heap.size w w' := by
  obtain ⟨c, a, ⟨k, n, s⟩⟩ := o
  obtain ⟨k1, k2, k3, k4, _, hvm, _⟩ := ho
  simp only at k1 k2 k3 k4 hvm hr
  obtain ⟨o0, o1, o2, o3, o4⟩ := (bxO_new w ⟨c, a, ⟨k, n, s⟩⟩).cells
  simp only at o0 o1 o2 o3 o4
  have ha := (Below.refl w.heap.size w).alloc (Nat.le_refl _) (.cells #[.int .i64 c, .int .i64 a, .int .i64 k, .int .i64 n, .string s] 52)
  unfold agO
  simp only
  by_cases h0 : c = 0
  · subst h0
    have ht : tlO ⟨0, a, ⟨k, n, s⟩⟩ = putV ⟨k, n, s⟩ := rfl
    rw [ht]
    have hput := fun W => Va.Put_any k n s W hr
    have hpp := (show VaM.pv ⟨k, n, s⟩ = putV ⟨k, n, s⟩ from by rw [VaM.pv, if_pos hvm])
    unfold Va.Putted at hput
    rw [hpp, decide_eq_true hvm] at hput
    obtain ⟨ys, hys⟩ : ∃ y, y = putV ⟨k, n, s⟩ := ⟨_, rfl⟩
    rw [← hys] at hput ⊢
    obtain ⟨m, hm⟩ : ∃ m, m = ys.length := ⟨_, rfl⟩
    rw [← hm] at hput ⊢
    have HP := Lib.hid hput
    have HB := Lib.hid ha
    clear hput hpp hys hm ht ha hvm hr k1 k2
    go_enter Try.func41, Try.ntmps41
    go_wp2_with fail
    refine (HP.out _).mono ?_
    rintro e w1 ⟨A, d, rfl, hs, _, hb⟩
    go_wp2_with fail
    go_ret
    exact ⟨A, d, rfl, hs, bt HB.out hb⟩
  · have g0 : (c == 0) = false := by simpa using h0
    by_cases h1 : c = 1
    · subst h1
      have ht : tlO ⟨1, a, ⟨k, n, s⟩⟩ = [a] := rfl
      rw [ht]
      have ha256 : a % 256 = a := by omega
      obtain ⟨w1, hw1⟩ : ∃ w1, w1 = w.alloc (.cells #[.int .i64 1, .int .i64 a, .int .i64 k, .int .i64 n, .string s] 52) := ⟨_, rfl⟩
      have hsz : w1.heap.size = w.heap.size + 1 := by rw [hw1]; simp
      have hnew := isB_new w1 [a] (by intro x hx; simp only [List.mem_singleton] at hx; omega)
      have hb2 := (Below.refl w1.heap.size w1).alloc (Nat.le_refl _) (.cells #[.int .u8 a] 5)
      rw [← hw1] at ha
      have hbb := bt ha hb2
      rw [hsz] at hnew
      rw [hw1] at hnew hbb
      have HN := Lib.hid hnew
      have HB := Lib.hid hbb
      clear ht hvm hr k1 k2 h0 hw1 hsz hnew hb2 ha hbb w1
      go_enter Try.func41, Try.ntmps41
      go_wp2_with fail
      go_ret
      exact ⟨some ⟨w.heap.size + 1, 0, none⟩, 1, rfl, ⟨HN.out, Nat.le_refl _, (fun h => by cases h), by decide⟩, HB.out⟩
    · have g1 : (c == 1) = false := by simpa using h1
      have ht : tlO ⟨c, a, ⟨k, n, s⟩⟩ = [] := by unfold tlO; rw [if_neg h0, if_neg h1]
      rw [ht]
      have HB := Lib.hid ha
      clear ht hvm hr k1 k2 h0 h1 ha
      go_enter Try.func41, Try.ntmps41
      go_wp2_with fail
      go_ret
      exact ⟨none, 0, rfl, slB_none _, HB.out⟩

set_option maxRecDepth 100000 in
set_option maxHeartbeats 8000000 in
theorem Put_any (l : List O) (A : Option Addr) (c : Nat) (w : World) (hS : SlO w A l c) :
    Calls Try.prog 19 #[.slice A l.length c] w (Putted l w) := by
  have hm1 := may_own l A c w hS
  have hl := slO_len hS
  have HS := Lib.hid hS
  have hrn : ExM.Rngs l := hS.rngs
  by_cases hmay : ExM.May l
  · have HMay := Lib.hid hmay
    have hpv : ExM.pv l = pL l := by rw [ExM.pv, if_pos hmay]
    have hl12 := hmay.2
    have hok := fun x hx => hmay.ok (x := x) hx
    have hlen := fun j => (show (pOs (l.take j)).length ≤ 52 * 12 from Nat.le_trans (pOs_len (fun x hx => hok x (List.mem_of_mem_take hx)) (fun x hx => hrn x (List.mem_of_mem_take hx))) (Nat.mul_le_mul_left 52 (by rw [List.length_take]; omega)))
    rw [decide_eq_true hmay] at hm1
    have HPv := Lib.hid hpv
    have HOk := Lib.hid hok
    have HPl := Lib.hid (fun W => Put_sl l.length W (by omega))
    have hq3 := putL_len64 (n := l.length) (by omega)
    have HLe := Lib.hid hlen
    have HRn := Lib.hid hrn
    clear hpv hok hS hlen hrn hmay
    obtain ⟨P, hP⟩ : ∃ P, P = putL l.length := ⟨_, rfl⟩
    have HPre := Lib.hid hP
    obtain ⟨n, hn⟩ : ∃ n, n = l.length := ⟨_, rfl⟩
    rw [← hn] at hl hl12 hm1 HPl hq3 ⊢
    have HN := Lib.hid hn
    rw [← hn] at hP
    rw [← hP] at hq3
    have HPn := Lib.hid hP
    have HM1 := Lib.hid hm1
    clear hn hm1 hP
    go_enter Try.func19, Try.ntmps19
    go_wp2_with fail
    refine HM1.out.mono ?_
    rintro e w1 ⟨rfl, hb1⟩
    have HB1 := Lib.hid hb1
    clear hb1 HM1
    go_wp2_with fail
    refine (HPl.out w1).mono ?_
    rintro e w2 ⟨A2, c2, rfl, _, hown2, hb2⟩
    rw [← HPn.out] at hown2 ⊢
    have hsz : w.heap.size ≤ w1.heap.size := HB1.out.size
    have HO2 := Lib.hid hown2
    have HB2 := Lib.hid hb2
    clear hown2 hb2 HPl
    obtain ⟨m3, hm3⟩ : ∃ m, m = P.length := ⟨_, rfl⟩
    rw [← hm3] at HO2 hq3 ⊢
    have HM3 := Lib.hid hm3
    clear hm3
    go_wp2_with fail
    go_loopw [4, 16] (fun u i wr => ∃ (j k : Nat), i = .int .i64 j ∧ j ≤ n ∧ k = (P ++ pOs (l.take j)).length ∧ wr.ownsRow w1.heap.size 5 1 u k (cs (P ++ pOs (l.take j))) ∧ Below w1.heap.size w1 wr) (fun _ i _ => n - (intOf i).toNat)
    case atStart => exact ⟨0, m3, rfl, Nat.zero_le _, by simpa [pOs] using HM3.out, by simpa [pOs] using HO2.out, HB2.out⟩
    case round =>
      obtain ⟨j, k, rfl, hj, hk, hown, hbel⟩ := hrel
      have hk2 : k ≤ 700 := by
        rw [hk, List.length_append, ← HM3.out]
        have := HLe.out j
        omega
      have HO := Lib.hid hown
      have HK := Lib.hid hk
      have HBl2 := Lib.hid hbel
      clear hown hk hbel HO2 HB2
      by_cases hjn : j < n
      · obtain ⟨b, q, hix, hc, hfz⟩ := HS.out.at j (by rw [← HN.out]; exact hjn)
        have hfok := HOk.out _ (ExM.getD_mem (l := l) (i := j) (by rw [← HN.out]; exact hjn))
        have hsn := take_snocO (l := l) (j := j) (by rw [← HN.out]; exact hjn)
        obtain ⟨⟨fc, fa, fk, fn, fs⟩, hf⟩ : ∃ f, f = l.getD j o0 := ⟨_, rfl⟩
        rw [← hf] at hc hfok hsn hfz
        have hrg := hfz.2.1
        obtain ⟨c0, c1', c2', c3', c4'⟩ := hc wr (bt HB1.out HBl2.out)
        simp only at c0 c1' c2' c3' c4' hrg
        have hi := fun W => hix W n c hjn
        have hfok' := hfok
        obtain ⟨k1, k2, k3, k4, _, hvm, _⟩ := hfok
        simp only at k1 k2 k3 k4 hvm
        have HSn := Lib.hid hsn
        have hc256 : fc % 256 = fc := by omega
        have ha256 : fa % 256 = fa := by omega
        have HBc := Lib.hid (fun W => behindCode_any ⟨fc, fa, ⟨fk, fn, fs⟩⟩ W hfok' hrg)
        have hml := tlO_len (o := ⟨fc, fa, ⟨fk, fn, fs⟩⟩) hfok' hrg
        unfold agO at HBc
        simp only at HBc
        obtain ⟨m, hm⟩ : ∃ m, m = (tlO ⟨fc, fa, ⟨fk, fn, fs⟩⟩).length := ⟨_, rfl⟩
        rw [← hm] at HBc hml
        have HM := Lib.hid hm
        have ha1 := (Below.refl wr.heap.size wr).alloc (Nat.le_refl _) (.cells #[.int .i64 fc, .int .i64 fa, .int .i64 fk, .int .i64 fn, .string fs] 52)
        have hx1 := bxO_new wr ⟨fc, fa, ⟨fk, fn, fs⟩⟩
        obtain ⟨x0, x1, x2, x3, x4⟩ := hx1.cells
        simp only at x0 x1 x2 x3 x4 hx1
        obtain ⟨w2', hw2'⟩ : ∃ w2', w2' = wr.alloc (.cells #[.int .i64 fc, .int .i64 fa, .int .i64 fk, .int .i64 fn, .string fs] 52) := ⟨_, rfl⟩
        have hsz2 : w2'.heap.size = wr.heap.size + 1 := by rw [hw2']; simp
        rw [← hw2'] at ha1 hx1
        have ha2 := (Below.refl w2'.heap.size w2').alloc (Nat.le_refl _) (.cells #[.int .u8 fc] 5)
        have hnew := isB_new w2' [fc] (by intro x hx; simp only [List.mem_singleton] at hx; omega)
        have hx2 := hx1.kept ha2
        have ha3 := bt ha1 ha2
        rw [hsz2] at hnew
        rw [hw2'] at hnew ha3 hx2
        have HNew := Lib.hid hnew
        have HXo := Lib.hid hx2
        have HO3 := Lib.hid (RegA.own_below HO.out ha3)
        have HB3 := Lib.hid (bt HBl2.out ha3)
        have hz3 := HB3.out.size
        have HFar := Lib.hid (HO.out.lt)
        clear hix hf hsn ha1 ha2 ha3 hfz hc hx1 hx2 hnew hsz2 hw2' w2' hm
        go_wp2_with (at_builtin; refine wp_append_b rfl (.tmp 20) (.tmp 24) rfl w1.heap.size _ k _ rfl HO3.out (some ⟨wr.heap.size + 1, 0, none⟩) 1 1 [fc] rfl rfl HNew.out (fun h => by cases h) (by omega) hz3 ?_; intro u4 w4 hown4 hgrow4; refine pause ?_)
        have HB4 := Lib.hid (HB3.out.grown hgrow4 hz3 (fun q hq => (HO3.out.lt q hq).1))
        have HO4 := Lib.hid hown4
        have hx4 := RG.BxN.grown HXo.out hgrow4 (fun e => by have := (HFar.out _ e.symm).2; omega)
        obtain ⟨o0, o1, o2, o3, o4⟩ := (show BxO w4 wr.heap.size ⟨fc, fa, ⟨fk, fn, fs⟩⟩ from hx4).cells
        simp only at o0 o1 o2 o3 o4
        clear hown4 hgrow4 HO3 HB3 HNew c0 c1' c2' c3' c4' hx4 x0 x1 x2 x3 x4
        unfold Pause
        go_wp2_with fail
        refine (HBc.out _).mono ?_
        rintro e w5 ⟨A5, c5, rfl, hs5, hb5⟩
        have HO5 := Lib.hid (RegA.own_below HO4.out hb5)
        have HB5 := Lib.hid (bt HB4.out hb5)
        have HS5 := Lib.hid hs5
        have hz5 := HB5.out.size
        clear hs5 hb5 o0 o1 o2 o3 o4 HBc HO4
        go_wp2_with (at_builtin; refine wp_append_b rfl (.tmp 26) (.tmp 28) rfl w1.heap.size _ (k + 1) _ rfl HO5.out A5 m c5 (tlO ⟨fc, fa, ⟨fk, fn, fs⟩⟩) rfl HM.out.symm HS5.out.1 HS5.out.2.2.1 (by omega) hz5 ?_; intro u6 w6 hown6 hgrow6; refine pause ?_)
        have hB6 : Below w1.heap.size w1 w6 := HB5.out.grown hgrow6 hz5 (fun q hq => (HO5.out.lt q hq).1)
        have he6 : (P ++ pOs (l.take j) ++ [fc]) ++ tlO ⟨fc, fa, ⟨fk, fn, fs⟩⟩ = P ++ pOs (l.take (j + 1)) := by
          rw [HSn.out, pOs_snoc, pO_tl, List.append_assoc, List.append_assoc]
          rfl
        rw [he6] at hown6
        have hk6 : k + 1 + m = (P ++ pOs (l.take (j + 1))).length := by
          rw [← he6, List.length_append, List.length_append, ← HM.out, ← HK.out]
          rfl
        have HO6 := Lib.hid hown6
        have HB6 := Lib.hid hB6
        have HK6 := Lib.hid hk6
        clear hown6 hgrow6 hB6 he6 hk6
        unfold Pause
        go_wp2_with fail
        go_roundw
        case rel => exact ⟨j + 1, k + 1 + m, by go_num, by omega, HK6.out, HO6.out, HB6.out⟩
        case measure => simp [intOf]; omega
      · obtain rfl : j = n := by omega
        have hall : P ++ pOs (l.take j) = ExM.pv l := by
          rw [HPv.out, HN.out, List.take_length, HPre.out]
          rfl
        have hown := HO.out
        rw [hall] at hown
        obtain ⟨A5, c5, rfl, hl5, h5, h6⟩ := own_slB hown (ExM.pv_bytes _)
        have HS5 := Lib.hid h5
        have HD := Lib.hid (decide_eq_true HMay.out)
        clear hall hown h5 h6 hl5
        go_wp2_with fail
        go_ret2
        exact ⟨A5, c5, ret_v (x := .tuple #[.slice A5 (ExM.pv l).length c5, .bool true]) (by rw [HD.out]), HS5.out, bt HB1.out HBl2.out⟩
  · have hpv : ExM.pv l = [] := by rw [ExM.pv, if_neg hmay]
    rw [decide_eq_false hmay] at hm1
    have HPv := Lib.hid hpv
    have HD := Lib.hid (decide_eq_false hmay)
    obtain ⟨n, hn⟩ : ∃ n, n = l.length := ⟨_, rfl⟩
    rw [← hn] at hm1 ⊢
    have HM1 := Lib.hid hm1
    clear hn hm1 hpv hmay hS hl hrn
    go_enter Try.func19, Try.ntmps19
    go_wp2_with fail
    refine HM1.out.mono ?_
    rintro e w1 ⟨rfl, hb1⟩
    have HB1 := Lib.hid hb1
    clear hb1 HM1
    go_wp2_with fail
    go_ret2
    exact ⟨none, 0, ret_v (by rw [HD.out, HPv.out]; rfl), by rw [HPv.out]; exact slB_none _, HB1.out⟩
end Go.Proofs.Ytbjgflinggelpaa.Ex

namespace Go.Proofs.Ytbjgflinggelpaa.EvM
open Go.RowKit Go.Proofs.Ytbjgflinggelpaa.LeM Go.Proofs.Ytbjgflinggelpaa.VaM Go.Proofs.Ytbjgflinggelpaa.BM
open Go.Proofs.Ytbjgflinggelpaa.ScM (Rs rNum rName rNum_short rName_short rName_iff rNum_iff rNum_le rName_left rNum_left rName_size gN bytes_drop)

def rVal (r : Rs) : V × Rs := ((gotP (getP r.1)).1, (r.1.drop (gotP (getP r.1)).2.1, r.2 || !(gotP (getP r.1)).2.2))
def rVals : Nat → Rs → List V × Rs
  | 0, r => ([], r)
  | n + 1, r => ((rVals n r).1 ++ [(rVal (rVals n r).2).1], (rVal (rVals n r).2).2)
def rAll (xs : List Int) : Ev × Rs :=
  (⟨(rName (xs, false)).1, (rNum 1125899906842624 (rName (xs, false)).2).1, (rVals (rNum 6 (rNum 1125899906842624 (rName (xs, false)).2).2).1 (rNum 6 (rNum 1125899906842624 (rName (xs, false)).2).2).2).1⟩,
    (rVals (rNum 6 (rNum 1125899906842624 (rName (xs, false)).2).2).1 (rNum 6 (rNum 1125899906842624 (rName (xs, false)).2).2).2).2)

theorem rVal_short {r : Rs} (h : r.2 = true) : (rVal r).2.2 = true := by
  unfold rVal
  simp [h]
theorem rVals_short : ∀ {n : Nat} {r : Rs} (_ : r.2 = true), (rVals n r).2.2 = true
  | 0, _, h => h
  | _ + 1, _, h => rVal_short (rVals_short h)

theorem rVal_iff (xs : List Int) : match getP xs with
    | some (x, m) => rVal (xs, false) = (x, (xs.drop m, false))
    | none => (rVal (xs, false)).2.2 = true := by
  unfold rVal
  cases hg : getP xs with
  | none => simp [gotP]
  | some p => simp [gotP]

theorem rVals_cons : ∀ (n : Nat) (r : Rs), rVals (n + 1) r = ((rVal r).1 :: (rVals n (rVal r).2).1, (rVals n (rVal r).2).2)
  | 0, r => rfl
  | n + 1, r => by
    have h := rVals_cons n r
    show ((rVals (n + 1) r).1 ++ [(rVal (rVals (n + 1) r).2).1], (rVal (rVals (n + 1) r).2).2) = _
    rw [h]
    rfl

theorem rVals_iff : ∀ (n : Nat) (xs : List Int), match gVs n xs with
    | some (l, m) => rVals n (xs, false) = (l, (xs.drop m, false))
    | none => (rVals n (xs, false)).2.2 = true
  | 0, xs => rfl
  | n + 1, xs => by
    have h := rVal_iff xs
    rw [rVals_cons]
    simp only [gVs]
    cases hg : getP xs with
    | none =>
      rw [hg] at h
      exact rVals_short h
    | some p =>
      obtain ⟨x, m⟩ := p
      rw [hg] at h
      simp only at h ⊢
      rw [h]
      have h2 := rVals_iff n (xs.drop m)
      cases hr : gVs n (xs.drop m) with
      | none =>
        rw [hr] at h2
        exact h2
      | some q =>
        obtain ⟨l, k⟩ := q
        rw [hr] at h2
        simp only at h2 ⊢
        rw [h2, List.drop_drop]

theorem rAll_iff (xs : List Int) : match gA xs with
    | some (s, m) => rAll xs = (s, (xs.drop m, false))
    | none => (rAll xs).2.2 = true := by
  have h1 := rName_iff xs
  unfold gA rAll
  cases e1 : gN xs with
  | none =>
    rw [e1] at h1
    exact rVals_short (rNum_short (rNum_short h1))
  | some p =>
    obtain ⟨t, a⟩ := p
    rw [e1] at h1
    simp only at h1 ⊢
    rw [h1]
    have h2 := rNum_iff 1125899906842624 (xs.drop a)
    cases e2 : getS (xs.drop a) with
    | none =>
      rw [e2] at h2
      exact rVals_short (rNum_short h2)
    | some p =>
      obtain ⟨v, u⟩ := p
      rw [e2] at h2
      simp only at h2 ⊢
      by_cases hv : v ≤ 1125899906842624
      · rw [if_pos hv] at h2 ⊢
        rw [h2, List.drop_drop]
        have h3 := rNum_iff 6 (xs.drop (a + u))
        cases e3 : getS (xs.drop (a + u)) with
        | none =>
          rw [e3] at h3
          exact rVals_short h3
        | some p =>
          obtain ⟨n, m⟩ := p
          rw [e3] at h3
          simp only at h3 ⊢
          by_cases hn : n ≤ 6
          · rw [if_pos hn] at h3 ⊢
            rw [h3, List.drop_drop]
            have h4 := rVals_iff n (xs.drop (a + u + m))
            cases e4 : gVs n (xs.drop (a + u + m)) with
            | none =>
              rw [e4] at h4
              exact h4
            | some p =>
              obtain ⟨l, k⟩ := p
              rw [e4] at h4
              simp only at h4 ⊢
              rw [h4, List.drop_drop]
          · rw [if_neg hn] at h3 ⊢
            exact rVals_short h3
      · rw [if_neg hv] at h2 ⊢
        exact rVals_short (rNum_short h2)

/-- What Get answers, by the reader. -/
theorem gE_read {xs : List Int} (hb : ∀ x ∈ xs, (0 : Int) ≤ x ∧ x < 256) :
    gotE (gE xs) = if (rAll xs).2.2 = false ∧ May (rAll xs).1 then ((rAll xs).1, xs.length - (rAll xs).2.1.length, true) else (⟨e0, 0, []⟩, 0, false) := by
  have h := rAll_iff xs
  cases hg : gE xs with
  | none =>
    rw [if_neg]
    · rfl
    · rintro ⟨h1, h2⟩
      unfold gE at hg
      cases ha : gA xs with
      | none =>
        rw [ha] at h
        simp only at h
        rw [h1] at h
        cases h
      | some p =>
        obtain ⟨s, m⟩ := p
        rw [ha] at h hg
        simp only at h hg
        rw [h] at h2
        rw [if_pos h2] at hg
        cases hg
  | some p =>
    obtain ⟨s, m⟩ := p
    obtain ⟨k1, k1', k2, k3⟩ := gE_some hb hg
    unfold gE at hg
    cases ha : gA xs with
    | none =>
      rw [ha] at hg
      cases hg
    | some q =>
      obtain ⟨s', m'⟩ := q
      rw [ha] at h hg
      simp only at h hg
      by_cases hm : May s'
      · rw [if_pos hm] at hg
        simp only [Option.some.injEq, Prod.mk.injEq] at hg
        obtain ⟨rfl, rfl⟩ := hg
        rw [h, if_pos ⟨rfl, hm⟩]
        simp only [gotE, List.length_drop]
        congr 2
        omega
      · rw [if_neg hm] at hg
        cases hg

/-- What a reader's value is: no long string, and a number. -/
def Sm (x : V) : Prop := x.s.size ≤ maxLen ∧ Rng x

theorem sm_v0 : Sm v0 := ⟨by unfold maxLen; decide, by decide, by decide⟩

theorem gotP_sm {xs : List Int} (hb : ∀ x ∈ xs, (0 : Int) ≤ x ∧ x < 256) : Sm (gotP (getP xs)).1 ∧ (gotP (getP xs)).2.1 ≤ xs.length := by
  cases hg : getP xs with
  | none => exact ⟨sm_v0, Nat.zero_le _⟩
  | some p =>
    obtain ⟨v, m⟩ := p
    obtain ⟨h1, h2, h3, _⟩ := getP_some hb hg
    refine ⟨⟨?_, h1⟩, h3⟩
    have := may_size h2
    unfold maxLen
    simp only [gotP]
    omega

theorem rNum_bytes {m : Nat} {r : Rs} (hb : ∀ x ∈ r.1, (0 : Int) ≤ x ∧ x < 256) : ∀ x ∈ (rNum m r).2.1, (0 : Int) ≤ x ∧ x < 256 := by
  unfold rNum
  split
  · split
    · exact bytes_drop hb _
    · exact hb
  · exact hb

theorem rVals_good : ∀ (n : Nat) {r : Rs} (_ : ∀ x ∈ r.1, (0 : Int) ≤ x ∧ x < 256), (rVals n r).1.length = n ∧ (∀ x ∈ (rVals n r).1, Sm x) ∧ (∀ x ∈ (rVals n r).2.1, (0 : Int) ≤ x ∧ x < 256) ∧ (rVals n r).2.1.length ≤ r.1.length
  | 0, _, hb => ⟨rfl, (fun f hf => by cases hf), hb, Nat.le_refl _⟩
  | n + 1, r, hb => by
    obtain ⟨h1, h2, h3, h4⟩ := rVals_good n hb
    have h5 := gotP_sm h3
    refine ⟨by show ((rVals n r).1 ++ [_]).length = n + 1; rw [List.length_append, h1]; rfl, fun f hf => ?_, bytes_drop h3 _, ?_⟩
    · rcases List.mem_append.1 hf with h | h
      · exact h2 f h
      · obtain rfl := List.mem_singleton.1 h
        exact h5.1
    · show (List.drop _ (rVals n r).2.1).length ≤ _
      rw [List.length_drop]
      omega

theorem rVals_left : ∀ (n : Nat) (r : Rs), (rVals n r).2.1.length ≤ r.1.length
  | 0, _ => Nat.le_refl _
  | n + 1, r => by
    have h := rVals_left n r
    show (List.drop _ (rVals n r).2.1).length ≤ _
    rw [List.length_drop]
    omega
theorem rAll_left (xs : List Int) : (rAll xs).2.1.length ≤ xs.length :=
  Nat.le_trans (rVals_left _ _) (Nat.le_trans (rNum_left _ _) (Nat.le_trans (rNum_left _ _) (rName_left (xs, false))))
end Go.Proofs.Ytbjgflinggelpaa.EvM
