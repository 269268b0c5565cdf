/- The pile of the document's answer: a row of values of the call's own: read, cut, one put in another's place; no function of the program; nothing is asked. -/
import Derived.Test.YtochpomddfjkoaaExprMath
import Derived.Test.YtochpomddfjkoaaValueApp
import Derived.Test.YtochpomddfjkoaaValueBox
namespace Go.Proofs.Ytochpomddfjkoaa.Ex
open Go.RowKit Go.Proofs.Ytochpomddfjkoaa.BM Go.Proofs.Ytochpomddfjkoaa.LM Go.Proofs.Ytochpomddfjkoaa.VaM Go.Proofs.Ytochpomddfjkoaa.Va Go.Proofs.Ytochpomddfjkoaa.ExM Go.Proofs.Ytochpomddfjkoaa.EvM

/-- A pile: a row of the call's own, of values that may be. -/
def Pile (base : Nat) (p : List V) (u : Value) (w : World) : Prop := w.ownsRow base 52 3 u p.length (p.flatMap encV) ∧ ∀ x ∈ p, VaM.May x ∧ Rng x

theorem may_size {v : V} (h : VaM.May v) : v.s.size ≤ maxLen := by
  rcases h with ⟨_, _, h⟩ | ⟨h, _⟩
  · exact Nat.le_trans h (by unfold maxLen; decide)
  · rw [h]
    exact Nat.zero_le _

theorem pile_nil (base : Nat) (w : World) : Pile base [] (.slice none 0 0) w := ⟨World.ownsRow_nil _ _ _ _, fun x hx => by cases hx⟩

theorem Pile.kept {base : Nat} {p : List V} {u : Value} {w w' : World} (h : Pile base p u w) (hb : Below w.heap.size w w') : Pile base p u w' :=
  ⟨h.1.kept (row := none) ⟨hb.os, hb.tape, hb.output, hb.size, fun k hk _ => hb.block k hk⟩ (by cases u.ownBlock <;> simp), h.2⟩

theorem Pile.sl {base : Nat} {p : List V} {u : Value} {w : World} (h : Pile base p u w) : ∃ A c, u = .slice A p.length c ∧ SlV w A p c ∧ (∀ a, A = some a → base ≤ a.block ∧ a.block < w.heap.size) := by
  obtain ⟨A, c, h1, _, h3, h4⟩ := own_slV h.1 fun x hx => ⟨may_size (h.2 x hx).1, (h.2 x hx).2⟩
  exact ⟨A, c, h1, h3, h4⟩

theorem flat_len : ∀ l : List V, (l.flatMap encV).length = l.length * 3
  | [] => rfl
  | x :: l => by rw [List.flatMap_cons, List.length_append, flat_len l, List.length_cons]; simp only [encV, List.length_cons, List.length_nil]; omega

theorem flat_take : ∀ (l : List V) (k : Nat), (l.flatMap encV).take (k * 3) = (l.take k).flatMap encV
  | _, 0 => by simp
  | [], k + 1 => by simp
  | x :: l, k + 1 => by
    rw [List.flatMap_cons, show (k + 1) * 3 = (encV x).length + k * 3 from by simp only [encV, List.length_cons, List.length_nil]; omega, List.take_length_add_append, flat_take l k, List.take_succ_cons, List.flatMap_cons]

theorem Pile.cut {base : Nat} {p : List V} {A : Option Addr} {c : Nat} {w : World} (h : Pile base p (.slice A p.length c) w) (k : Nat) (hk : k ≤ p.length) : Pile base (p.take k) (.slice A k c) w := by
  have hlen : (p.take k).length = k := by rw [List.length_take, Nat.min_eq_left hk]
  refine ⟨⟨by rw [flat_len], ?_⟩, fun x hx => h.2 x (List.mem_of_mem_take hx)⟩
  rw [hlen]
  rcases h.1.2 with ⟨hv, h0⟩ | ⟨g, cap, cur, hv, hg, hh, hcap, hmx, hs, ht⟩
  · injection hv with h1 h2 h3
    subst h1 h3
    obtain rfl : k = 0 := by omega
    exact Or.inl ⟨rfl, rfl⟩
  · injection hv with h1 h2 h3
    subst h1 h3
    refine Or.inr ⟨g, c, cur, rfl, hg, hh, by omega, hmx, hs, ?_⟩
    rw [← flat_take, ← ht, List.take_take, Nat.min_eq_left (Nat.mul_le_mul_right 3 hk)]

theorem flat_set : ∀ (l : List V) (i : Nat) (x : V), i < l.length → (l.set i x).flatMap encV = (((l.flatMap encV).set (i * 3) (.int .i64 x.k)).set (i * 3 + 1) (.int .i64 x.n)).set (i * 3 + 2) (.string x.s)
  | [], _, _, h => absurd h (Nat.not_lt_zero _)
  | y :: l, 0, x, _ => rfl
  | y :: l, i + 1, x, h => by
    rw [List.set_cons_succ, List.flatMap_cons, flat_set l i x (by simpa using h), List.flatMap_cons, show (i + 1) * 3 = i * 3 + 1 + 1 + 1 from by omega]
    rfl

/-- What a store at a value's place wants, and what it leaves. -/
theorem Pile.store {base : Nat} {p : List V} {A : Option Addr} {c : Nat} {w : World} (h : Pile base p (.slice A p.length c) w) (i : Nat) (hi : i < p.length) :
    ∃ g q, A = some ⟨g, 0, none⟩ ∧ base ≤ g ∧ (∀ W, (Instr.indexAt 27 (.slice A p.length c) (.int .i64 (i : Int))).run Try.prog W = .ok (.pointer (some ⟨g, q, none⟩)) W) ∧
      (∃ u0 u1 u2, w.cell? ⟨g, q, none⟩ = some u0 ∧ w.cell? ⟨g, q + 1, none⟩ = some u1 ∧ w.cell? ⟨g, q + 2, none⟩ = some u2) ∧ (w.frozen? ⟨g, q, none⟩ = false ∧ w.frozen? ⟨g, q + 1, none⟩ = false ∧ w.frozen? ⟨g, q + 2, none⟩ = false) ∧
      ∀ x, VaM.May x → Rng x → Pile base (p.set i x) (.slice A p.length c) (((w.setCell ⟨g, q, none⟩ (.int .i64 x.k)).setCell ⟨g, q + 1, none⟩ (.int .i64 x.n)).setCell ⟨g, q + 2, none⟩ (.string x.s)) ∧
        w.grownBy (((w.setCell ⟨g, q, none⟩ (.int .i64 x.k)).setCell ⟨g, q + 1, none⟩ (.int .i64 x.n)).setCell ⟨g, q + 2, none⟩ (.string x.s)) (some g) := by
  rcases h.1.2 with ⟨_, h0⟩ | ⟨g, cap, cur, hv, hg, _⟩
  · omega
  · injection hv with h1 h2 h3
    subst h1 h3
    refine ⟨g, i * 3, rfl, hg, fun W => ?_, ?_, ⟨h.1.frozenAt _, h.1.frozenAt _, h.1.frozenAt _⟩, fun x hx hr => ?_⟩
    · have := tyV.index W g 0 p.length c i hi
      rw [Nat.zero_add] at this
      exact this
    · have hc : ∀ k, k < p.length * 3 → ∃ u, w.cell? ⟨g, k, none⟩ = some u := fun k hk => by
        rw [h.1.cellAt k hk]
        exact ⟨(p.flatMap encV)[k]'(by rw [flat_len]; exact hk), List.getElem?_eq_getElem _⟩
      obtain ⟨u0, e0⟩ := hc (i * 3) (by omega)
      obtain ⟨u1, e1⟩ := hc (i * 3 + 1) (by omega)
      obtain ⟨u2, e2⟩ := hc (i * 3 + 2) (by omega)
      exact ⟨u0, u1, u2, e0, e1, e2⟩
    · obtain ⟨h1, g1⟩ := h.1.stored (i * 3) (.int .i64 x.k)
      obtain ⟨h2, g2⟩ := h1.stored (i * 3 + 1) (.int .i64 x.n)
      obtain ⟨h3, g3⟩ := h2.stored (i * 3 + 2) (.string x.s)
      have tr : ∀ {a b c : World}, a.grownBy b (some g) → b.grownBy c (some g) → a.grownBy c (some g) := fun h k =>
        ⟨k.os.trans h.os, k.tape.trans h.tape, k.output.trans h.output, Nat.le_trans h.size k.size, fun i hi hne => (k.block i (Nat.lt_of_lt_of_le hi h.size) hne).trans (h.block i hi hne)⟩
      refine ⟨⟨?_, fun y hy => ?_⟩, tr (tr g1 g2) g3⟩
      · rw [flat_set _ _ _ hi, List.length_set]
        exact h3
      · rcases List.mem_or_eq_of_mem_set hy with hy | rfl
        · exact h.2 y hy
        · exact ⟨hx, hr⟩

theorem take_snocV' {p : List V} {x : V} {k : Nat} (h : p.length = k + 1) : p.set k x = p.take k ++ [x] := by
  rw [List.set_eq_take_append_cons_drop, if_pos (by omega), List.drop_of_length_le (by omega)]
end Go.Proofs.Ytochpomddfjkoaa.Ex
