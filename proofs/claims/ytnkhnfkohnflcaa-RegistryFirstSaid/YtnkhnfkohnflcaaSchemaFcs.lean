/- Rows of fields of the call's own: where they lie, an append; no function of the program; nothing is asked. -/
import Derived.Test.YtnkhnfkohnflcaaSchemaRow
import Derived.Test.YtnkhnfkohnflcaaRegionB
import Derived.Maps.AppendAt
import Derived.Laws.AppendOwnNone
import Derived.WalkSmall
namespace Go.Proofs.Ytnkhnfkohnflcaa.Sc
open Go.RowKit Go.Proofs.Ytnkhnfkohnflcaa.BM Go.Proofs.Ytnkhnfkohnflcaa.VaM Go.Proofs.Ytnkhnfkohnflcaa.Va Go.Proofs.Ytnkhnfkohnflcaa.ScM

theorem info_f : (Try.prog.info? 39).map (fun i => (i.zero, i.size, i.bytes)) = some (some (.agg #[.string ⟨#[]⟩, .int .i64 0]), 2, 24) := by kernel_rfl

/-- A field's own cells, and those of several. -/
def fcs : List F → List Value
  | [] => []
  | f :: l => .string f.s :: .int .i64 f.k :: fcs l

theorem fcs_len : ∀ l : List F, (fcs l).length = l.length * 2
  | [] => rfl
  | f :: l => by rw [fcs, List.length_cons, List.length_cons, fcs_len l, List.length_cons]; omega

theorem fcs_app : ∀ l m : List F, fcs (l ++ m) = fcs l ++ fcs m
  | [], _ => rfl
  | f :: l, m => by rw [List.cons_append, fcs, fcs_app l m]; rfl

theorem fcs_at : ∀ (l : List F) (j : Nat), j < l.length → (fcs l)[j * 2]? = some (.string (l.getD j d0).s) ∧ (fcs l)[j * 2 + 1]? = some (.int .i64 (l.getD j d0).k)
  | [], _, h => absurd h (Nat.not_lt_zero _)
  | f :: l, 0, _ => ⟨rfl, rfl⟩
  | f :: l, j + 1, h => by
    have h1 := fcs_at l j (by simpa using h)
    rw [show (j + 1) * 2 = j * 2 + 1 + 1 from by omega, fcs]
    simpa using h1

theorem fcs_one : ∀ l : List F, ∀ u ∈ fcs l, u.oneCell' = true
  | [], u, h => by cases h
  | f :: l, u, h => by
    rcases List.mem_cons.1 h with rfl | h
    · rfl
    · rcases List.mem_cons.1 h with rfl | h
      · rfl
      · exact fcs_one l u h

/-- Cells at an address are a row of fields. -/
theorem isF_cells {w : World} {b o : Nat} {l : List F} (h : ∀ (j : Nat) (u : Value), (fcs l)[j]? = some u → w.cell? ⟨b, o + j, none⟩ = some u) : IsF w (some ⟨b, o, none⟩) l := by
  intro _
  refine ⟨b, o, rfl, fun j hj => ?_⟩
  obtain ⟨h1, h2⟩ := fcs_at l j hj
  exact ⟨h _ _ h1, by have := h _ _ h2; rwa [← Nat.add_assoc] at this⟩

theorem cells_isF {w : World} {b o : Nat} {l : List F} (h : IsF w (some ⟨b, o, none⟩) l) : ∀ (j : Nat) (u : Value), (fcs l)[j]? = some u → w.cell? ⟨b, o + j, none⟩ = some u := by
  intro j u hj
  have hlt := (List.getElem?_eq_some_iff.1 hj).1
  rw [fcs_len] at hlt
  obtain ⟨b', o', e, hc⟩ := h (by omega)
  injection e with e
  injection e with e1 e2
  subst e1
  subst e2
  have h1 := hc (j / 2) (by omega)
  have h2 := fcs_at l (j / 2) (by omega)
  rcases Nat.mod_two_eq_zero_or_one j with hm | hm
  · have e : j = j / 2 * 2 := by omega
    rw [e] at hj ⊢
    rw [h2.1] at hj
    rw [← hj]
    exact h1.1
  · have e : j = j / 2 * 2 + 1 := by omega
    rw [e] at hj ⊢
    rw [h2.2] at hj
    rw [← hj, ← Nat.add_assoc]
    exact h1.2

/-- What is owned reads as a slice of fields. -/
theorem own_slF {w : World} {base n : Nat} {v : Value} {l : List F} (h : w.ownsRow base 39 2 v n (fcs l)) (hs : ∀ f ∈ l, f.s.size ≤ maxLen) :
    ∃ A c, v = .slice A l.length c ∧ n = l.length ∧ SlF w A l c ∧ (∀ a, A = some a → base ≤ a.block ∧ a.block < w.heap.size) := by
  have hl : l.length = n := by have := h.1; rw [fcs_len] at this; omega
  subst hl
  rcases h.2 with ⟨hv, h0⟩ | ⟨g, cap, cur, rfl, hg, hh, hcap, hmx, hrest⟩
  · subst hv
    refine ⟨none, 0, by rw [h0], rfl, ⟨fun hx => by omega, by omega, fun _ => rfl, Nat.zero_le _, hs⟩, fun a ha => by cases ha⟩
  · refine ⟨some ⟨g, 0, none⟩, cap, rfl, rfl, ⟨isF_cells (fun j u hj => ?_), hcap, (fun h => by cases h), hmx, hs⟩, fun a ha => ?_⟩
    · have hc := h.cells (g := g) rfl j u hj
      rw [Addr.add_lit] at hc
      exact hc
    · injection ha with ha
      subst ha
      exact ⟨hg, (h.lt g rfl).2⟩

/-- A new field. -/
theorem isF_new (w : World) (s : ByteArray) (k : Int) : IsF (w.alloc (.cells #[.string s, .int .i64 k] 39)) (some ⟨w.heap.size, 0, none⟩) [⟨s, k⟩] := by
  obtain ⟨⟨y0, y1⟩, _⟩ := bx2_new w 39 (.string s) (.int .i64 k)
  refine fun _ => ⟨w.heap.size, 0, rfl, fun r hr => ?_⟩
  obtain rfl : r = 0 := by simpa using hr
  exact ⟨y0, y1⟩

theorem isF_grown {w w' : World} {b o : Nat} {l : List F} {r : Option Nat} (h : IsF w (some ⟨b, o, none⟩) l) (hg : w.grownBy w' r) (hne : ∀ k, r = some k → k ≠ b) : IsF w' (some ⟨b, o, none⟩) l := by
  intro h0
  obtain ⟨b', o', e, hc⟩ := h h0
  injection e with e
  injection e with e1 e2
  subst e1
  subst e2
  have hn : some b ≠ r := fun e => hne b e.symm rfl
  exact ⟨b, o, rfl, fun j hj => ⟨hg.cell (hc j hj).1 hn, hg.cell (hc j hj).2 hn⟩⟩

/-- What is owned is a slice. -/
theorem own_is {w : World} {base n size : Nat} {e : TypeId} {v : Value} {xs : List Value} (h : w.ownsRow base e size v n xs) : ∃ A c, v = .slice A n c := by
  rcases h.2 with ⟨rfl, rfl⟩ | ⟨g, cap, cur, rfl, _⟩
  · exact ⟨none, 0, rfl⟩
  · exact ⟨_, cap, rfl⟩

/-- append of fields onto a row of the call's own: the operation alone. -/
theorem op_append_f {w : World} {o : Oper} {a : Act} {K : Act → World → Prop} {Q : Exit → Act → World → Prop} (s x : Operand)
    (ho : o.op = .call { callee := .builtin .append, args := #[s, x], argTypes := #[23, 23] })
    (base : Nat) (v : Value) (n : Nat) (l : List F) (hs : a.eval s = v) (hown : w.ownsRow base 39 2 v n (fcs l))
    (b q m c : Nat) (r : List F) (hx : a.eval x = .slice (some ⟨b, q, none⟩) m c) (hm : r.length = m) (hB : IsF w (some ⟨b, q, none⟩) r)
    (hsz : n + m ≤ 1000000000) (hbase : base ≤ w.heap.size)
    (h : ∀ v' w', w'.ownsRow base 39 2 v' (n + m) (fcs (l ++ r)) → w.grownBy w' v.ownBlock → K (a.put o.dst v') w') : o.wp Try.prog a w K Q := by
  obtain ⟨i0, hi, hz0, hz1, hz2⟩ := info_parts info_f
  obtain ⟨v', w', hr, h2, h3, _⟩ := run_append_own (P := Try.prog) w base 23 o.type 39 i0 (.agg #[.string ⟨#[]⟩, .int .i64 0]) 2 24 Try.underlying23 hi hz0 hz1 hz2 rfl (by decide) v n (fcs l) hown ⟨b, q, none⟩ m c (fcs r) (by rw [fcs_len, hm])
    (fun j u hj => by rw [Addr.add_lit]; exact cells_isF hB j u hj) (fcs_one r) (by unfold maxLen; omega) (by omega) hbase
  unfold Oper.wp execOp
  simp only [ho, resolve, invoke, builtin, Sem.run_bind, Sem.run_pure, Result.andThen_ok, List.map_toArray, List.map_cons, List.map_nil, hs, hx, hr]
  exact h v' w' (by rw [fcs_app]; exact h2) h3

/-- append of fields onto a row of the call's own, whatever the source: the operation alone. -/
theorem op_append_a {w : World} {o : Oper} {a : Act} {K : Act → World → Prop} {Q : Exit → Act → World → Prop} (s x : Operand)
    (ho : o.op = .call { callee := .builtin .append, args := #[s, x], argTypes := #[23, 23] })
    (base : Nat) (v : Value) (n : Nat) (l : List F) (hs : a.eval s = v) (hown : w.ownsRow base 39 2 v n (fcs l))
    (A : Option Addr) (m c : Nat) (r : List F) (hx : a.eval x = .slice A m c) (hm : r.length = m) (hB : IsF w A r) (hnil : A = none → c = 0)
    (hsz : n + m ≤ 1000000000) (hbase : base ≤ w.heap.size)
    (h : ∀ v' w', w'.ownsRow base 39 2 v' (n + m) (fcs (l ++ r)) → w.grownBy w' v.ownBlock → K (a.put o.dst v') w') : o.wp Try.prog a w K Q := by
  obtain ⟨i0, hi, hz0, hz1, hz2⟩ := info_parts info_f
  have key : ∃ v' w', (Builtin.append_ #[23, 23] o.type #[v, .slice A m c]).run Try.prog w = .ok v' w' ∧ w'.ownsRow base 39 2 v' (n + m) (fcs (l ++ r)) ∧ w.grownBy w' v.ownBlock := by
    by_cases h0 : 0 < r.length
    · obtain ⟨b, q, rfl, hc⟩ := hB h0
      obtain ⟨v', w', hr, h2, h3, _⟩ := run_append_own (P := Try.prog) w base 23 o.type 39 i0 (.agg #[.string ⟨#[]⟩, .int .i64 0]) 2 24 Try.underlying23 hi hz0 hz1 hz2 rfl (by decide) v n (fcs l) hown ⟨b, q, none⟩ m c (fcs r) (by rw [fcs_len, hm])
        (fun j u hj => by rw [Addr.add_lit]; exact cells_isF hB j u hj) (fcs_one r) (by unfold maxLen; omega) (by omega) hbase
      exact ⟨v', w', hr, by rw [fcs_app]; exact h2, h3⟩
    · obtain rfl : r = [] := List.eq_nil_of_length_eq_zero (by omega)
      obtain rfl : m = 0 := by simpa using hm.symm
      match A, hnil with
      | none, hnil =>
        obtain rfl := hnil rfl
        exact ⟨v, w, run_append_owned_none (w := w) base 23 o.type 39 i0 2 Try.underlying23 hi v n (fcs l) hown, by simpa using hown, World.grownBy.refl _ _⟩
      | some ad, _ =>
        obtain ⟨v', w', hr, h2, h3, _⟩ := run_append_own (P := Try.prog) w base 23 o.type 39 i0 (.agg #[.string ⟨#[]⟩, .int .i64 0]) 2 24 Try.underlying23 hi hz0 hz1 hz2 rfl (by decide) v n (fcs l) hown ad 0 c [] rfl
          (fun j u hj => by simp at hj) (fun u hu => by cases hu) (by unfold maxLen; omega) (by omega) hbase
        exact ⟨v', w', hr, by simpa using h2, h3⟩
  obtain ⟨v', w', hr, h2, h3⟩ := key
  unfold Oper.wp execOp
  simp only [ho, resolve, invoke, builtin, Sem.run_bind, Sem.run_pure, Result.andThen_ok, List.map_toArray, List.map_cons, List.map_nil, hs, hx, hr]
  exact h v' w' h2 h3

/-- append of fields onto a row of the call's own, whatever the source. -/
theorem wp_append_f {w : World} {ops : Array Oper} {rest : List Oper} {o : Oper} {a : Act} {Q : Exit → Act → World → Prop} (hgd : o.guard = none) (s x : Operand)
    (ho : o.op = .call { callee := .builtin .append, args := #[s, x], argTypes := #[23, 23] })
    (base : Nat) (v : Value) (n : Nat) (l : List F) (hs : a.eval s = v) (hown : w.ownsRow base 39 2 v n (fcs l))
    (A : Option Addr) (m c : Nat) (r : List F) (hx : a.eval x = .slice A m c) (hm : r.length = m) (hB : IsF w A r) (hnil : A = none → c = 0)
    (hsz : n + m ≤ 1000000000) (hbase : base ≤ w.heap.size)
    (h : ∀ v' w', w'.ownsRow base 39 2 v' (n + m) (fcs (l ++ r)) → w.grownBy w' v.ownBlock → wpList Try.prog ops Q rest (a.put o.dst v') w') : wpList Try.prog ops Q (o :: rest) a w := by
  obtain ⟨i0, hi, hz0, hz1, hz2⟩ := info_parts info_f
  by_cases h0 : 0 < r.length
  · obtain ⟨b, q, rfl, hc⟩ := hB h0
    refine wpList_append_own w hgd s x 23 ho base 39 i0 (.agg #[.string ⟨#[]⟩, .int .i64 0]) 2 24 Try.underlying23 hi hz0 hz1 hz2 rfl (by decide) v n (fcs l) hs hown ⟨b, q, none⟩ m c (fcs r) hx (by rw [fcs_len, hm]) ?_ (fcs_one r) (by unfold maxLen; omega) (by omega) hbase ?_
    · intro j u hj
      rw [Addr.add_lit]
      exact cells_isF hB j u hj
    · intro v' w' h1 h2 _
      exact h v' w' (by rw [fcs_app]; exact h1) h2
  · obtain rfl : r = [] := List.eq_nil_of_length_eq_zero (by omega)
    obtain rfl : m = 0 := by simpa using hm.symm
    match A, hx, hnil with
    | none, hx, hnil =>
      obtain rfl := hnil rfl
      refine wpList_append_own_none hgd s x 23 ho base 39 i0 2 Try.underlying23 hi v n (fcs l) hs hown hx (h v w ?_ (World.grownBy.refl _ _))
      simpa using hown
    | some ad, hx, _ =>
      refine wpList_append_own w hgd s x 23 ho base 39 i0 (.agg #[.string ⟨#[]⟩, .int .i64 0]) 2 24 Try.underlying23 hi hz0 hz1 hz2 rfl (by decide) v n (fcs l) hs hown ad 0 c [] hx rfl (fun j u hj => by simp at hj) (fun u hu => by cases hu) (by unfold maxLen; omega) (by omega) hbase ?_
      intro v' w' h1 h2 _
      exact h v' w' (by simpa using h1) h2
/-- append of fields onto a row of the call's own, whatever the source, as many as there is memory for. -/
theorem wp_append_fb {w : World} {ops : Array Oper} {rest : List Oper} {o : Oper} {a : Act} {Q : Exit → Act → World → Prop} (hgd : o.guard = none) (s x : Operand)
    (ho : o.op = .call { callee := .builtin .append, args := #[s, x], argTypes := #[23, 23] })
    (base : Nat) (v : Value) (n : Nat) (l : List F) (hs : a.eval s = v) (hown : w.ownsRow base 39 2 v n (fcs l))
    (A : Option Addr) (m c : Nat) (r : List F) (hx : a.eval x = .slice A m c) (hm : r.length = m) (hB : IsF w A r) (hnil : A = none → c = 0)
    (hsz : (n + m) * 24 ≤ 140737488355328) (hbase : base ≤ w.heap.size)
    (h : ∀ v' w', w'.ownsRow base 39 2 v' (n + m) (fcs (l ++ r)) → w.grownBy w' v.ownBlock → wpList Try.prog ops Q rest (a.put o.dst v') w') : wpList Try.prog ops Q (o :: rest) a w := by
  obtain ⟨i0, hi, hz0, hz1, hz2⟩ := info_parts info_f
  have h63 : n + m ≤ maxLen := by unfold maxLen; omega
  by_cases h0 : 0 < r.length
  · obtain ⟨b, q, rfl, hc⟩ := hB h0
    refine wpList_append_own w hgd s x 23 ho base 39 i0 (.agg #[.string ⟨#[]⟩, .int .i64 0]) 2 24 Try.underlying23 hi hz0 hz1 hz2 rfl (by decide) v n (fcs l) hs hown ⟨b, q, none⟩ m c (fcs r) hx (by rw [fcs_len, hm]) ?_ (fcs_one r) h63 hsz hbase ?_
    · intro j u hj
      rw [Addr.add_lit]
      exact cells_isF hB j u hj
    · intro v' w' h1 h2 _
      exact h v' w' (by rw [fcs_app]; exact h1) h2
  · obtain rfl : r = [] := List.eq_nil_of_length_eq_zero (by omega)
    obtain rfl : m = 0 := by simpa using hm.symm
    match A, hx, hnil with
    | none, hx, hnil =>
      obtain rfl := hnil rfl
      refine wpList_append_own_none hgd s x 23 ho base 39 i0 2 Try.underlying23 hi v n (fcs l) hs hown hx (h v w ?_ (World.grownBy.refl _ _))
      simpa using hown
    | some ad, hx, _ =>
      refine wpList_append_own w hgd s x 23 ho base 39 i0 (.agg #[.string ⟨#[]⟩, .int .i64 0]) 2 24 Try.underlying23 hi hz0 hz1 hz2 rfl (by decide) v n (fcs l) hs hown ad 0 c [] hx rfl (fun j u hj => by simp at hj) (fun u hu => by cases hu) h63 hsz hbase ?_
      intro v' w' h1 h2 _
      exact h v' w' (by simpa using h1) h2
end Go.Proofs.Ytnkhnfkohnflcaa.Sc
