/- What queries ask, by plain lists: each once, where it is, which of it is so; no program, nothing is asked. -/
import Derived.Test.YtochpomddfjkoaaQueryMath
namespace Go.Proofs.Ytochpomddfjkoaa.IxM
open Go.RowKit Go.Proofs.Ytochpomddfjkoaa.BM Go.Proofs.Ytochpomddfjkoaa.VaM Go.Proofs.Ytochpomddfjkoaa.ExM Go.Proofs.Ytochpomddfjkoaa.QyM
open Go.Proofs.Ytochpomddfjkoaa.EvM (Ev)

/-- What is asked: of events of which name, and what of them. -/
structure Pr where
  s : ByteArray
  f : List O

theorem Pr.same {x y : Pr} (h1 : x.s = y.s) (h2 : x.f = y.f) : x = y := by cases x; cases y; cases h1; cases h2; rfl
instance : DecidableEq Pr := fun x y => if h : x.s = y.s ∧ x.f = y.f then .isTrue (Pr.same h.1 h.2) else .isFalse (fun e => h (by rw [e]; exact ⟨rfl, rfl⟩))
theorem Pr.iff {x y : Pr} : x = y ↔ x.s = y.s ∧ x.f = y.f := ⟨fun e => by rw [e]; exact ⟨rfl, rfl⟩, fun h => Pr.same h.1 h.2⟩
def p0 : Pr := ⟨e0, []⟩

/-- Where one is. -/
def at? (l : List Pr) (p : Pr) : Option Nat := l.findIdx? fun x => decide (x = p)
def find (l : List Pr) (p : Pr) : Int := match at? l p with
  | none => -1
  | some i => i

theorem at_some {l : List Pr} {p : Pr} {i : Nat} : at? l p = some i ↔ i < l.length ∧ l.getD i p0 = p ∧ ∀ j, j < i → l.getD j p0 ≠ p := by
  unfold at?
  rw [List.findIdx?_eq_some_iff_getElem]
  constructor
  · rintro ⟨h, h1, h2⟩
    refine ⟨h, ?_, fun j hj => ?_⟩
    · rw [List.getD_eq_getElem?_getD, List.getElem?_eq_getElem h]
      exact of_decide_eq_true h1
    · have h3 := h2 j hj
      rw [List.getD_eq_getElem?_getD, List.getElem?_eq_getElem (Nat.lt_trans hj h)]
      exact fun e => by simp [Option.getD_some] at e; simp [e] at h3
  · rintro ⟨h, h1, h2⟩
    refine ⟨h, ?_, fun j hj => ?_⟩
    · rw [List.getD_eq_getElem?_getD, List.getElem?_eq_getElem h] at h1
      exact decide_eq_true h1
    · have h3 := h2 j hj
      rw [List.getD_eq_getElem?_getD, List.getElem?_eq_getElem (Nat.lt_trans hj h)] at h3
      simpa using h3
theorem at_none {l : List Pr} {p : Pr} : at? l p = none ↔ p ∉ l := by
  unfold at?
  rw [List.findIdx?_eq_none_iff]
  constructor
  · intro h hp
    simpa using h p hp
  · intro h x hx
    simp only [decide_eq_false_iff_not]
    exact fun e => h (e ▸ hx)
theorem find_some {l : List Pr} {p : Pr} {i : Nat} (hi : i < l.length) (h : l.getD i p0 = p) (h0 : ∀ j, j < i → l.getD j p0 ≠ p) : find l p = i := by
  unfold find
  rw [at_some.2 ⟨hi, h, h0⟩]
theorem find_none {l : List Pr} {p : Pr} (h : p ∉ l) : find l p = -1 := by
  unfold find
  rw [at_none.2 h]
theorem find_lt {l : List Pr} {p : Pr} : find l p < 0 ↔ p ∉ l := by
  unfold find
  cases h : at? l p with
  | none => simp only [at_none.1 h, not_false_eq_true, iff_true]; decide
  | some i =>
    obtain ⟨h1, h2, _⟩ := at_some.1 h
    have hm : p ∈ l := by
      rw [← h2, List.getD_eq_getElem?_getD, List.getElem?_eq_getElem h1]
      exact List.getElem_mem h1
    simp only [hm, not_true_eq_false, iff_false]
    omega

/-- One more, if it is not there. -/
def push (l : List Pr) (p : Pr) : List Pr := if p ∈ l then l else l ++ [p]
/-- What a step asks. -/
def askSt (x : St) : List Pr := ⟨x.s, x.f⟩ :: (if x.g = true then [⟨x.t, x.h⟩] else [])
def askQ (q : Q) : List Pr := q.p.flatMap askSt
def pushes (l : List Pr) (ps : List Pr) : List Pr := ps.foldl push l
/-- All that is asked. -/
def all (l : List Q) : List Pr := pushes [] (l.flatMap askQ)
def holdsP (p : Pr) (e : Ev) : Bool := decide (p.s = e.s) && holds e p.f
def told (l : List Pr) (e : Ev) : List Bool := l.map fun p => holdsP p e

theorem push_in {l : List Pr} {p : Pr} (h : p ∈ l) : push l p = l := by rw [push, if_pos h]
theorem push_new {l : List Pr} {p : Pr} (h : p ∉ l) : push l p = l ++ [p] := by rw [push, if_neg h]
theorem pushes_nil (l : List Pr) : pushes l [] = l := rfl
theorem pushes_cons (l : List Pr) (p : Pr) (ps : List Pr) : pushes l (p :: ps) = pushes (push l p) ps := rfl
theorem pushes_app (l a b : List Pr) : pushes l (a ++ b) = pushes (pushes l a) b := List.foldl_append ..
theorem mem_push {l : List Pr} {p q : Pr} : q ∈ push l p ↔ q ∈ l ∨ q = p := by
  unfold push
  split
  · rename_i h
    exact ⟨Or.inl, fun k => k.elim id (fun e => e ▸ h)⟩
  · rw [List.mem_append, List.mem_singleton]
theorem mem_pushes {q : Pr} : ∀ {ps l : List Pr}, q ∈ pushes l ps ↔ q ∈ l ∨ q ∈ ps
  | [], l => by simp [pushes_nil]
  | p :: ps, l => by rw [pushes_cons, mem_pushes, mem_push, List.mem_cons, or_assoc]
theorem push_len (l : List Pr) (p : Pr) : l.length ≤ (push l p).length ∧ (push l p).length ≤ l.length + 1 := by
  unfold push
  split
  · exact ⟨Nat.le_refl _, Nat.le_succ _⟩
  · rw [List.length_append]
    exact ⟨Nat.le_succ _, Nat.le_refl _⟩
theorem pushes_len : ∀ (ps l : List Pr), l.length ≤ (pushes l ps).length ∧ (pushes l ps).length ≤ l.length + ps.length
  | [], l => ⟨Nat.le_refl _, Nat.le_refl _⟩
  | p :: ps, l => by
    have h1 := push_len l p
    have h2 := pushes_len ps (push l p)
    rw [pushes_cons, List.length_cons]
    omega
theorem push_pre (l : List Pr) (p : Pr) : l <+: push l p := by
  unfold push
  split
  · exact List.prefix_refl _
  · exact List.prefix_append _ _
theorem pushes_pre : ∀ (ps l : List Pr), l <+: pushes l ps
  | [], _ => List.prefix_refl _
  | p :: ps, l => (push_pre l p).trans (pushes_pre ps (push l p))
theorem push_nodup {l : List Pr} (h : l.Nodup) (p : Pr) : (push l p).Nodup := by
  unfold push
  split
  · exact h
  · rename_i hp
    rw [List.nodup_append]
    exact ⟨h, List.nodup_cons.2 ⟨List.not_mem_nil, List.nodup_nil⟩, fun a ha b hb e => hp (by rw [List.mem_singleton] at hb; rw [← hb, ← e]; exact ha)⟩
theorem pushes_nodup : ∀ (ps : List Pr) {l : List Pr}, l.Nodup → (pushes l ps).Nodup
  | [], _, h => h
  | p :: ps, _, h => pushes_nodup ps (push_nodup h p)
theorem pushes_in : ∀ {ps l : List Pr}, (∀ p ∈ ps, p ∈ l) → pushes l ps = l
  | [], _, _ => rfl
  | p :: ps, l, h => by
    rw [pushes_cons, push_in (h p (List.mem_cons_self ..))]
    exact pushes_in fun q hq => h q (List.mem_cons_of_mem _ hq)

theorem all_nodup (l : List Q) : (all l).Nodup := pushes_nodup _ List.nodup_nil
theorem mem_all {l : List Q} {p : Pr} : p ∈ all l ↔ ∃ q ∈ l, ∃ x ∈ q.p, p ∈ askSt x := by
  unfold all
  rw [mem_pushes]
  simp only [List.not_mem_nil, false_or, List.mem_flatMap, askQ]
theorem askSt_len (x : St) : (askSt x).length ≤ 2 := by
  unfold askSt
  split <;> simp
theorem askQ_len (q : Q) : (askQ q).length ≤ 2 * q.p.length := by
  unfold askQ
  induction q.p with
  | nil => simp
  | cons x p ih =>
    have := askSt_len x
    rw [List.flatMap_cons, List.length_append, List.length_cons]
    omega
theorem all_snoc (l : List Q) (q : Q) : all (l ++ [q]) = pushes (all l) (askQ q) := by
  unfold all
  rw [List.flatMap_append, pushes_app]
  simp
theorem all_more (l : List Q) (q : Q) : all l <+: all (l ++ [q]) ∧ (all (l ++ [q])).length ≤ (all l).length + 2 * q.p.length := by
  rw [all_snoc]
  have h1 := pushes_len (askQ q) (all l)
  have h2 := askQ_len q
  exact ⟨pushes_pre _ _, by omega⟩
theorem all_twice (l : List Q) : all (l ++ l) = all l := by
  have h : all (l ++ l) = pushes (all l) (l.flatMap askQ) := by
    unfold all
    rw [List.flatMap_append, pushes_app]
  rw [h]
  refine pushes_in fun p hp => ?_
  unfold all
  rw [mem_pushes]
  exact Or.inr hp
theorem all_len (l : List Q) : (all l).length ≤ 2 * (l.map fun q => q.p.length).sum := by
  have h1 := pushes_len (l.flatMap askQ) []
  have h2 : (l.flatMap askQ).length ≤ 2 * (l.map fun q => q.p.length).sum := by
    induction l with
    | nil => simp
    | cons q l ih =>
      have := askQ_len q
      have h3 := ih (pushes_len _ _)
      rw [List.flatMap_cons, List.length_append, List.map_cons, List.sum_cons]
      omega
  unfold all
  simp only [List.length_nil, Nat.zero_add] at h1
  omega

/-- Nothing is there twice. -/
theorem find_self {l : List Pr} (h : l.Nodup) {k : Nat} (hk : k < l.length) : find l (l.getD k p0) = k := by
  refine find_some hk rfl fun j hj e => ?_
  rw [List.getD_eq_getElem?_getD, List.getElem?_eq_getElem (Nat.lt_trans hj hk), List.getD_eq_getElem?_getD, List.getElem?_eq_getElem hk] at e
  simp only [Option.getD_some] at e
  exact List.pairwise_iff_getElem.1 h j k (Nat.lt_trans hj hk) hk hj e
theorem find_in {l : List Pr} {p : Pr} (h : p ∈ l) : ∃ i, i < l.length ∧ find l p = (i : Nat) ∧ l.getD i p0 = p := by
  cases ha : at? l p with
  | none => exact absurd h (at_none.1 ha)
  | some i =>
    obtain ⟨h1, h2, h3⟩ := at_some.1 ha
    exact ⟨i, h1, find_some h1 h2 h3, h2⟩
end Go.Proofs.Ytochpomddfjkoaa.IxM
