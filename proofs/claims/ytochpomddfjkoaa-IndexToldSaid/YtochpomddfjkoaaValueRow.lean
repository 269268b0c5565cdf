/- Slices of values in memory, by the rows of whatever element; no function of the program; nothing is asked. -/
import Derived.Test.YtochpomddfjkoaaRowG
import Derived.Test.YtochpomddfjkoaaValueList
namespace Go.Proofs.Ytochpomddfjkoaa.Va
open Go.RowKit Go.Proofs.Ytochpomddfjkoaa.BM Go.Proofs.Ytochpomddfjkoaa.LM Go.Proofs.Ytochpomddfjkoaa.VaM

/-- A value's own cells. -/
def encV (v : V) : List Value := [.int .i64 v.k, .int .i64 v.n, .string v.s]
/-- How a value lies. -/
def KV : RG.Kind V := RG.flat 3 encV (fun _ => rfl) (fun v u hu => by
  simp only [encV, List.mem_cons, List.not_mem_nil, or_false] at hu
  rcases hu with rfl | rfl | rfl <;> rfl)

theorem tyV : RG.Ty 27 52 3 32 (.agg #[.int .i64 0, .int .i64 0, .string ⟨#[]⟩]) :=
  ⟨by kernel_rfl, by kernel_rfl, by kernel_rfl, fun _ => by kernel_rfl, rfl, by decide, by decide⟩

/-- A slice of values: where it lies, its length and its capacity; each string's size is an int, and each number. -/
def SlV (w : World) (A : Option Addr) (l : List V) (c : Nat) : Prop := RG.SlG KV (fun _ => True) w A l c ∧ ∀ v ∈ l, v.s.size ≤ maxLen ∧ Rng v

theorem SlV.kept {w w' : World} {A : Option Addr} {l : List V} {c : Nat} (h : SlV w A l c) (hb : Below w.heap.size w w') : SlV w' A l c := ⟨h.1.kept hb, h.2⟩
theorem slV_none (w : World) : SlV w none [] 0 := ⟨RG.slG_none _ _ _, fun v hv => by cases hv⟩
theorem slV_len {w : World} {A : Option Addr} {l : List V} {c : Nat} (h : SlV w A l c) : l.length ≤ 9223372036854775807 := RG.slG_len h.1
theorem SlV.take {w : World} {A : Option Addr} {l : List V} {c : Nat} (h : SlV w A l c) (i : Nat) : SlV w A (l.take i) c := ⟨h.1.take i, fun v hv => h.2 v (List.mem_of_mem_take hv)⟩
theorem slV_grown {w w' : World} {A : Option Addr} {l : List V} {c b : Nat} (h : SlV w A l c) (hg : w.grownBy w' (some b)) (hA : ∀ a, A = some a → a.block ≠ b) : SlV w' A l c := by
  obtain ⟨⟨⟨vs, h1, h2⟩, h3⟩, h4⟩ := h
  refine ⟨⟨⟨vs, fun hx => ?_, RG.Elems.map (w := w) (w' := w') (p := fun _ => True) (q := fun _ => True) (fun _ _ h => h) h2⟩, h3⟩, h4⟩
  obtain ⟨g, o, e, hc⟩ := h1 hx
  exact ⟨g, o, e, fun j u hj => hg.cell (hc j u hj) (fun e' => hA _ e (by injection e'))⟩

/-- The j-th of them. -/
theorem SlV.at {w : World} {A : Option Addr} {l : List V} {c : Nat} (h : SlV w A l c) (d : V) (j : Nat) (hj : j < l.length) :
    ∃ b q, (∀ W n k, j < n → (Instr.indexAt 27 (.slice A n k) (.int .i64 (j : Int))).run Try.prog W = .ok (.pointer (some ⟨b, q, none⟩)) W) ∧ (∀ W, Below w.heap.size w W → CellV W b q (l.getD j d)) ∧ (l.getD j d).s.size ≤ maxLen ∧ Rng (l.getD j d) := by
  have hd : l[j]? = some (l.getD j d) := by rw [List.getD_eq_getElem?_getD, List.getElem?_eq_getElem hj]; rfl
  obtain ⟨b, o, cs, rfl, hW⟩ := h.1.at (by decide) j _ hd
  have hm := h.2 _ (List.mem_of_getElem? hd)
  refine ⟨b, o + j * 3, fun W n k hn => tyV.index W b o n k j hn, fun W hb => ?_, hm.1, hm.2⟩
  obtain ⟨g1, g2⟩ := hW W hb
  obtain rfl : cs = encV (l.getD j d) := g1
  exact ⟨g2 0 _ rfl, g2 1 _ rfl, g2 2 _ rfl⟩

/-- What is owned reads as a slice of values. -/
theorem own_slV {w : World} {base n : Nat} {v : Value} {l : List V} (h : w.ownsRow base 52 3 v n (l.flatMap encV)) (hs : ∀ x ∈ l, x.s.size ≤ maxLen ∧ Rng x) :
    ∃ A c, v = .slice A l.length c ∧ n = l.length ∧ SlV w A l c ∧ (∀ a, A = some a → base ≤ a.block ∧ a.block < w.heap.size) := by
  have hE : ∀ l : List V, RG.Elems KV (fun _ => True) w l (l.flatMap encV) := by
    intro l
    induction l with
    | nil => rfl
    | cons x l ih => exact ⟨encV x, l.flatMap encV, rfl, rfl, ih⟩
  obtain ⟨A, c, h1, h2, h3, h4⟩ := RG.own_slG (K := KV) h (hE l) (by decide)
  exact ⟨A, c, h1, h2, ⟨h3, hs⟩, fun a ha => (h4 a ha).2⟩

/-- append of values onto a row of the call's own, whatever the source: the operation alone. -/
theorem op_append_v {w : World} {o : Oper} {a : Act} {K' : Act → World → Prop} {Q : Exit → Act → World → Prop} (s x : Operand)
    (ho : o.op = .call { callee := .builtin .append, args := #[s, x], argTypes := #[27, 27] })
    (base : Nat) (v : Value) (n : Nat) (l : List V) (hs : a.eval s = v) (hown : w.ownsRow base 52 3 v n (l.flatMap encV))
    (A : Option Addr) (m c : Nat) (r : List V) (hx : a.eval x = .slice A m c) (hm : r.length = m) (hB : RG.SlG KV (fun _ => True) w A r c)
    (hsz : n + m ≤ 1000000000) (hbase : base ≤ w.heap.size)
    (hk : ∀ v' w', w'.ownsRow base 52 3 v' (n + m) ((l ++ r).flatMap encV) → w.grownBy w' v.ownBlock → K' (a.put o.dst v') w') : o.wp Try.prog a w K' Q := by
  obtain ⟨⟨vs, h1, h2⟩, _, h3, _⟩ := hB
  have hv : ∀ (l : List V) (vs : List Value), RG.Elems KV (fun _ => True) w l vs → vs = l.flatMap encV := by
    intro l
    induction l with
    | nil => intro vs h; exact h
    | cons x l ih =>
      rintro vs ⟨cs, rest, rfl, hc, hr⟩
      rw [ih rest hr, show cs = encV x from hc]
      rfl
  have hE : ∀ (q : Nat → Prop) (l : List V), RG.Elems KV q w l (l.flatMap encV) := by
    intro q l
    induction l with
    | nil => rfl
    | cons x l ih => exact ⟨encV x, l.flatMap encV, rfl, rfl, ih⟩
  obtain rfl := hv r vs h2
  refine tyV.op_append (K := KV) (fun _ => True) s x ho base v n (l.flatMap encV) l hs hown (hE _ l) A m c (r.flatMap encV) r hx hm h1 (hE _ r) h3 hsz hbase fun v' w' g1 _ g3 => hk v' w' ?_ g3
  rw [List.flatMap_append]
  exact g1
end Go.Proofs.Ytochpomddfjkoaa.Va
