/- Queries by plain lists: which may be, why one is not right by schemas, its bytes; no program, nothing is asked. -/
import Derived.Test.YtochpomddfjkoaaGrams
import Derived.Test.YtochpomddfjkoaaRegMath
namespace Go.Proofs.Ytochpomddfjkoaa.QyM
open Go.RowKit Go.Proofs.Ytochpomddfjkoaa.BM Go.Proofs.Ytochpomddfjkoaa.LeM Go.Proofs.Ytochpomddfjkoaa.VaM Go.Proofs.Ytochpomddfjkoaa.ExM
open Go.Proofs.Ytochpomddfjkoaa.ScM (Nm pn gN Sc)
open Go.Proofs.Ytochpomddfjkoaa.Gr (Law By)

/-- A step: of which name, what is asked, how often at least and at most, whether it is guarded, by which name and what. -/
structure St where
  s : ByteArray
  f : List O
  lo : Int
  hi : Int
  g : Bool
  t : ByteArray
  h : List O

theorem St.same {a b : St} (h1 : a.s = b.s) (h2 : a.f = b.f) (h3 : a.lo = b.lo) (h4 : a.hi = b.hi) (h5 : a.g = b.g) (h6 : a.t = b.t) (h7 : a.h = b.h) : a = b := by
  cases a; cases b; cases h1; cases h2; cases h3; cases h4; cases h5; cases h6; cases h7; rfl
theorem St.ext_iff' {a b : St} : a = b ↔ a.s = b.s ∧ a.f = b.f ∧ a.lo = b.lo ∧ a.hi = b.hi ∧ a.g = b.g ∧ a.t = b.t ∧ a.h = b.h :=
  ⟨fun e => by rw [e]; exact ⟨rfl, rfl, rfl, rfl, rfl, rfl, rfl⟩, fun ⟨h1, h2, h3, h4, h5, h6, h7⟩ => St.same h1 h2 h3 h4 h5 h6 h7⟩
instance : DecidableEq St := fun _ _ => decidable_of_iff _ St.ext_iff'.symm

/-- No step. -/
def t0 : St := ⟨e0, [], 0, 0, false, e0, []⟩

/-- A query: its steps, within which time, what is told, of which step, of which field. -/
structure Q where
  p : List St
  w : Int
  a : Int
  i : Int
  f : Int

theorem Q.same {a b : Q} (h1 : a.p = b.p) (h2 : a.w = b.w) (h3 : a.a = b.a) (h4 : a.i = b.i) (h5 : a.f = b.f) : a = b := by
  cases a; cases b; cases h1; cases h2; cases h3; cases h4; cases h5; rfl
theorem Q.ext_iff' {a b : Q} : a = b ↔ a.p = b.p ∧ a.w = b.w ∧ a.a = b.a ∧ a.i = b.i ∧ a.f = b.f :=
  ⟨fun e => by rw [e]; exact ⟨rfl, rfl, rfl, rfl, rfl⟩, fun ⟨h1, h2, h3, h4, h5⟩ => Q.same h1 h2 h3 h4 h5⟩
instance : DecidableEq Q := fun _ _ => decidable_of_iff _ Q.ext_iff'.symm
/-- No query. -/
def q0 : Q := ⟨[], 0, 0, 0, 0⟩

/-- Is a step well made, being the first one or not, the last one or not? -/
def StOk (x : St) (first last : Prop) : Prop :=
  Nm x.s ∧ ExM.May x.f ∧ 1 ≤ x.lo ∧ x.lo ≤ x.hi ∧ x.hi ≤ 4 ∧ (last → x.lo = x.hi) ∧ (x.g = false → x.t = e0 ∧ x.h = []) ∧ (x.g = true → ¬ first ∧ Nm x.t ∧ ExM.May x.h)
instance (x : St) (first last : Prop) [Decidable first] [Decidable last] : Decidable (StOk x first last) := by unfold StOk; infer_instance

/-- The first k steps. -/
def StsOk (p : List St) (k : Nat) : Prop := ∀ j, j < k → StOk (p.getD j t0) (j = 0) (j + 1 = p.length)
instance (p : List St) (k : Nat) : Decidable (StsOk p k) := by unfold StsOk; infer_instance
theorem StsOk.succ {p : List St} {k : Nat} (h : StsOk p k) (hk : StOk (p.getD k t0) (k = 0) (k + 1 = p.length)) : StsOk p (k + 1) := by
  intro j hj
  by_cases e : j = k
  · exact e ▸ hk
  · exact h j (by omega)

/-- Is a query well made? -/
def May (q : Q) : Prop :=
  (1 ≤ q.p.length ∧ q.p.length ≤ 4) ∧ (0 ≤ q.w ∧ q.w ≤ 1125899906842624) ∧ (0 ≤ q.a ∧ q.a < 4) ∧ (0 ≤ q.i ∧ q.i < (q.p.length : Int)) ∧ (0 ≤ q.f ∧ q.f < 6) ∧ (q.a = 0 → q.f = 0) ∧ StsOk q.p q.p.length
instance (q : Q) : Decidable (May q) := by unfold May; infer_instance

theorem getD_mem {p : List St} {j : Nat} (h : j < p.length) : p.getD j t0 ∈ p := by
  rw [List.getD_eq_getElem?_getD, List.getElem?_eq_getElem h]
  exact List.getElem_mem h

theorem May.ok {q : Q} (h : May q) {x : St} (hx : x ∈ q.p) : ∃ first last : Prop, StOk x first last := by
  obtain ⟨j, hj, rfl⟩ := List.getElem_of_mem hx
  have h1 := h.2.2.2.2.2.2 j hj
  rw [List.getD_eq_getElem?_getD, List.getElem?_eq_getElem hj] at h1
  exact ⟨_, _, h1⟩

/-- Why a name, and what is asked, may not be. -/
def asks (l : List Sc) (n : ByteArray) (f : List O) : Int :=
  if (RgM.find l n).2 = false then 3 else if f = [] then 0 else if (kind (RgM.find l n).1 f).2 = 0 ∧ (kind (RgM.find l n).1 f).1 ≠ 1 then 5 else (kind (RgM.find l n).1 f).2

/-- Of a step. -/
def asksS (l : List Sc) (x : St) : Int := if asks l x.s x.f = 0 ∧ x.g = true then asks l x.t x.h else asks l x.s x.f

/-- Of steps, one by one: the first error. -/
def asksP (l : List Sc) : List St → Int
  | [] => 0
  | x :: p => if asksS l x = 0 then asksP l p else asksS l x

/-- Is what is told of a field none, or no Int? -/
def aggBad (l : List Sc) (q : Q) : Prop := q.a ≠ 0 ∧ ¬ (q.f < ((RgM.find l (q.p.getD q.i.toNat t0).s).1.f.length : Int) ∧ ((RgM.find l (q.p.getD q.i.toNat t0).s).1.f.getD q.f.toNat ScM.d0).k = 0)
instance (l : List Sc) (q : Q) : Decidable (aggBad l q) := by unfold aggBad; infer_instance

/-- Why a query is not right by schemas. -/
def check (l : List Sc) (q : Q) : Int :=
  if ¬ (RgM.May l ∧ May q) then 1 else if asksP l q.p ≠ 0 then asksP l q.p else if aggBad l q then 5 else 0

theorem asksP_app (l : List Sc) : ∀ (p r : List St), asksP l (p ++ r) = if asksP l p = 0 then asksP l r else asksP l p
  | [], r => by rw [List.nil_append, asksP, if_pos rfl]
  | x :: p, r => by
    rw [List.cons_append, asksP, asksP, asksP_app l p r]
    by_cases h : asksS l x = 0
    · rw [if_pos h, if_pos h]
    · rw [if_neg h, if_neg h, if_neg h]

/-- The first k of them are right. -/
theorem asksP_zero {l : List Sc} : ∀ {p : List St}, asksP l p = 0 ↔ ∀ x ∈ p, asksS l x = 0
  | [] => ⟨(fun _ x hx => by cases hx), fun _ => rfl⟩
  | x :: p => by
    rw [asksP]
    constructor
    · intro h
      by_cases h1 : asksS l x = 0
      · rw [if_pos h1] at h
        intro y hy
        rcases List.mem_cons.1 hy with rfl | hy
        · exact h1
        · exact asksP_zero.1 h y hy
      · rw [if_neg h1] at h
        exact absurd h h1
    · intro h
      rw [if_pos (h x (List.mem_cons_self ..))]
      exact asksP_zero.2 fun y hy => h y (List.mem_cons_of_mem _ hy)

/-- The first error stands at j. -/
theorem asksP_at {l : List Sc} {p : List St} {j : Nat} (hj : j < p.length) (h0 : ∀ i, i < j → asksS l (p.getD i t0) = 0) (h : asksS l (p.getD j t0) ≠ 0) : asksP l p = asksS l (p.getD j t0) := by
  have hp : p = p.take j ++ (p.getD j t0 :: p.drop (j + 1)) := by
    rw [List.getD_eq_getElem?_getD, List.getElem?_eq_getElem hj]
    simp
  have h1 : asksP l (p.take j) = 0 := asksP_zero.2 fun x hx => by
    obtain ⟨i, hi, rfl⟩ := List.getElem_of_mem hx
    rw [List.length_take] at hi
    have h2 := h0 i (by omega)
    rw [List.getD_eq_getElem?_getD, List.getElem?_eq_getElem (by omega)] at h2
    rw [List.getElem_take]
    exact h2
  generalize p.getD j t0 = x at hp h ⊢
  rw [hp, asksP_app, if_pos h1, asksP, if_neg h]

/- A query's bytes. -/
def pG (g : Bool) (th : ByteArray × List O) : List Int := if g = true then pn th.1 ++ pL th.2 else []
def pSt (x : St) : List Int := pn x.s ++ (pL x.f ++ (putL x.lo.toNat ++ (putL x.hi.toNat ++ (putL (if x.g = true then 1 else 0) ++ pG x.g (x.t, x.h)))))
def pQ (q : Q) : List Int := putL q.p.length ++ (Gr.puts pSt q.p ++ (putL q.w.toNat ++ (putL q.a.toNat ++ (putL q.i.toNat ++ putL q.f.toNat))))

/-- What stands behind the guard. -/
def gG (g : Nat) : List Int → Option ((ByteArray × List O) × Nat) := if g = 1 then Gr.bind gN (fun _ => gL) else Gr.unit (e0, [])
/-- A step, part by part. -/
def gStP : List Int → Option ((ByteArray × List O × Nat × Nat × Nat × (ByteArray × List O)) × Nat) :=
  Gr.bind gN fun _ => Gr.bind gL fun _ => Gr.bind (Gr.num 4) fun _ => Gr.bind (Gr.num 4) fun _ => Gr.bind (Gr.num 1) gG
def stOf (y : ByteArray × List O × Nat × Nat × Nat × (ByteArray × List O)) : St := ⟨y.1, y.2.1, y.2.2.1, y.2.2.2.1, decide (y.2.2.2.2.1 = 1), y.2.2.2.2.2.1, y.2.2.2.2.2.2⟩
def gSt : List Int → Option (St × Nat) := Gr.map stOf gStP
/-- A query, part by part. -/
def gQP : List Int → Option ((Nat × List St × Nat × Nat × Nat × Nat) × Nat) :=
  Gr.bind (Gr.num 4) fun n => Gr.bind (Gr.many gSt n) fun _ => Gr.bind (Gr.num 1125899906842624) fun _ => Gr.bind (Gr.num 4) fun _ => Gr.bind (Gr.num 4) fun _ => Gr.num 6
def qOf (y : Nat × List St × Nat × Nat × Nat × Nat) : Q := ⟨y.2.1, y.2.2.1, y.2.2.2.1, y.2.2.2.2.1, y.2.2.2.2.2⟩
def gQ : List Int → Option (Q × Nat) := Gr.only May (Gr.map qOf gQP)

/-- What a step that is got is like. -/
def OkS (x : St) : Prop := x.s.size ≤ 12 ∧ (ExM.May x.f ∧ Rngs x.f) ∧ (0 ≤ x.lo ∧ x.lo ≤ 4) ∧ (0 ≤ x.hi ∧ x.hi ≤ 4) ∧ (x.g = false → x.t = e0 ∧ x.h = []) ∧ (x.g = true → x.t.size ≤ 12 ∧ ExM.May x.h ∧ Rngs x.h)
def OkQ (q : Q) : Prop := q.p.length ≤ 4 ∧ (∀ x ∈ q.p, OkS x) ∧ (0 ≤ q.w ∧ q.w ≤ 1125899906842624) ∧ (0 ≤ q.a ∧ q.a ≤ 4) ∧ (0 ≤ q.i ∧ q.i ≤ 4) ∧ (0 ≤ q.f ∧ q.f ≤ 6)

theorem law_g {g : Nat} (hg : g ≤ 1) : Law (gG g) (fun th => pG (decide (g = 1)) th) (fun th => (g = 0 → th = (e0, [])) ∧ (g = 1 → th.1.size ≤ 12 ∧ ExM.May th.2 ∧ Rngs th.2)) := by
  by_cases h : g = 1
  · subst h
    have hl := Gr.law_name.bind (k := fun _ => gL) (q := fun _ => pL) (ok2 := fun _ l => ExM.May l ∧ Rngs l) (fun _ _ => Gr.law_expr)
    have e1 : gG 1 = Gr.bind gN (fun _ => gL) := rfl
    rw [e1]
    exact {
      some := fun hb hx => by
        obtain ⟨h1, h2, h3⟩ := hl.some hb hx
        exact ⟨⟨fun e => by omega, fun _ => h1⟩, h2, h3⟩
      app := fun ha hy => hl.app (ha.2 rfl) hy
      bytes := fun ha => hl.bytes (ha.2 rfl) }
  · have h0 : g = 0 := by omega
    subst h0
    have hl := Law.unit ((e0, []) : ByteArray × List O)
    have e1 : gG 0 = Gr.unit (e0, []) := rfl
    rw [e1]
    exact {
      some := fun hb hx => by
        obtain ⟨h1, h2, h3⟩ := hl.some hb hx
        exact ⟨⟨fun _ => h1, fun e => by omega⟩, h2, h3⟩
      app := fun ha hy => hl.app (ha.1 rfl) hy
      bytes := fun ha => hl.bytes (ha.1 rfl) }

theorem law_st : Law gSt pSt OkS := by
  have n4 := Gr.law_num (most := 4) (by decide)
  have n1 := Gr.law_num (most := 1) (by decide)
  have l6 := n1.bind (k := gG) (q := fun g th => pG (decide (g = 1)) th) (ok2 := fun g th => (g = 0 → th = (e0, [])) ∧ (g = 1 → th.1.size ≤ 12 ∧ ExM.May th.2 ∧ Rngs th.2)) (fun g hg => law_g hg)
  have l5 := n4.bind (k := fun _ => Gr.bind (Gr.num 1) gG) (ok2 := fun _ => _) (fun _ _ => l6)
  have l4 := n4.bind (k := fun _ => Gr.bind (Gr.num 4) fun _ => Gr.bind (Gr.num 1) gG) (ok2 := fun _ => _) (fun _ _ => l5)
  have l3 := Gr.law_expr.bind (k := fun _ => Gr.bind (Gr.num 4) fun _ => Gr.bind (Gr.num 4) fun _ => Gr.bind (Gr.num 1) gG) (ok2 := fun _ => _) (fun _ _ => l4)
  have l2 := Gr.law_name.bind (k := fun _ => Gr.bind gL fun _ => Gr.bind (Gr.num 4) fun _ => Gr.bind (Gr.num 4) fun _ => Gr.bind (Gr.num 1) gG) (ok2 := fun _ => _) (fun _ _ => l3)
  refine l2.map stOf (fun x => (x.s, x.f, x.lo.toNat, x.hi.toNat, (if x.g = true then 1 else 0), (x.t, x.h))) ?_ ?_ ?_ ?_
  · rintro ⟨s, f, lo, hi, g, t, h⟩ ⟨_, _, _, _, hg, _, _⟩
    simp only at hg
    simp only [stOf, Int.toNat_natCast, decide_eq_true_eq]
    have : (if g = 1 then 1 else 0) = g := by split <;> omega
    rw [this]
  · rintro ⟨s, f, lo, hi, g, t, h⟩ ⟨h1, h2, h3, h4, h5, h6⟩
    simp only at h1 h2 h3 h4 h5 h6
    refine ⟨?_, h1, h2, ?_, ?_, ?_, ?_, ?_⟩
    · simp only [stOf]
      rw [Int.toNat_of_nonneg h3.1, Int.toNat_of_nonneg h4.1]
      cases g <;> rfl
    · simp only
      omega
    · simp only
      omega
    · simp only
      cases g <;> simp
    · simp only
      intro e
      cases g
      · obtain ⟨rfl, rfl⟩ := h5 rfl
        rfl
      · cases e
    · simp only
      intro e
      cases g
      · cases e
      · exact h6 rfl
  · rintro ⟨s, f, lo, hi, g, t, h⟩ ⟨h1, h2, h3, h4, hg, h5, h6⟩
    simp only at h1 h2 h3 h4 hg h5 h6
    refine ⟨h1, h2, ⟨by simp only [stOf]; omega, by simp only [stOf]; omega⟩, ⟨by simp only [stOf]; omega, by simp only [stOf]; omega⟩, fun e => ?_, fun e => ?_⟩
    · simp only [stOf, decide_eq_false_iff_not] at e ⊢
      have h7 := h5 (by omega)
      injection h7 with h8 h9
      exact ⟨h8, h9⟩
    · simp only [stOf, decide_eq_true_eq] at e ⊢
      exact h6 e
  · rintro ⟨s, f, lo, hi, g, t, h⟩ _
    cases g <;> rfl

theorem law_q : Law gQ pQ (fun q => OkQ q ∧ May q) := by
  have n4 := Gr.law_num (most := 4) (by decide)
  have nw := Gr.law_num (most := 1125899906842624) (by decide)
  have n6 := Gr.law_num (most := 6) (by decide)
  have l5 := n4.bind (k := fun _ => Gr.num 6) (q := fun _ => putL) (ok2 := fun _ n => n ≤ 6) (fun _ _ => n6)
  have l4 := n4.bind (k := fun _ => Gr.bind (Gr.num 4) fun _ => Gr.num 6) (ok2 := fun _ => _) (fun _ _ => l5)
  have l3 := nw.bind (k := fun _ => Gr.bind (Gr.num 4) fun _ => Gr.bind (Gr.num 4) fun _ => Gr.num 6) (ok2 := fun _ => _) (fun _ _ => l4)
  have l2 := fun n => (law_st.many n).bind (k := fun _ => Gr.bind (Gr.num 1125899906842624) fun _ => Gr.bind (Gr.num 4) fun _ => Gr.bind (Gr.num 4) fun _ => Gr.num 6) (ok2 := fun _ => _) (fun _ _ => l3)
  have l1 := n4.bind (k := fun n => Gr.bind (Gr.many gSt n) fun _ => Gr.bind (Gr.num 1125899906842624) fun _ => Gr.bind (Gr.num 4) fun _ => Gr.bind (Gr.num 4) fun _ => Gr.num 6) (fun n _ => l2 n)
  refine (l1.map (ok2 := OkQ) (q := pQ) qOf (fun x => (x.p.length, x.p, x.w.toNat, x.a.toNat, x.i.toNat, x.f.toNat)) ?_ ?_ ?_ ?_).only May
  · rintro ⟨n, p, w, a, i, f⟩ ⟨_, ⟨hn, _⟩, _⟩
    simp only at hn
    simp only [qOf, Int.toNat_natCast, hn]
  · rintro ⟨p, w, a, i, f⟩ ⟨h1, h2, h3, h4, h5, h6⟩
    simp only at h1 h2 h3 h4 h5 h6
    refine ⟨?_, h1, ⟨rfl, h2⟩, ?_, ?_, ?_, ?_⟩
    · simp only [qOf]
      rw [Int.toNat_of_nonneg h3.1, Int.toNat_of_nonneg h4.1, Int.toNat_of_nonneg h5.1, Int.toNat_of_nonneg h6.1]
    · simp only
      omega
    · simp only
      omega
    · simp only
      omega
    · simp only
      omega
  · rintro ⟨n, p, w, a, i, f⟩ ⟨h1, ⟨hn, h2⟩, h3, h4, h5, h6⟩
    simp only at h1 hn h2 h3 h4 h5 h6
    refine ⟨by simp only [qOf]; omega, h2, ⟨by simp only [qOf]; omega, by simp only [qOf]; omega⟩, ⟨by simp only [qOf]; omega, by simp only [qOf]; omega⟩, ⟨by simp only [qOf]; omega, by simp only [qOf]; omega⟩, ⟨by simp only [qOf]; omega, by simp only [qOf]; omega⟩⟩
  · rintro ⟨p, w, a, i, f⟩ _
    rfl

/-- What a query has of numbers are ints. -/
def RngQ (q : Q) : Prop := ∀ x ∈ q.p, Rngs x.f ∧ Rngs x.h
theorem okQ_of {q : Q} (h : May q) (hr : RngQ q) : OkQ q := by
  obtain ⟨h1, h2, h3, h4, h5, _, _⟩ := id h
  refine ⟨h1.2, fun x hx => ?_, h2, ⟨h3.1, by omega⟩, ⟨h4.1, by omega⟩, ⟨h5.1, by omega⟩⟩
  obtain ⟨first, last, k1, k2, k3, k4, k5, _, k7, k8⟩ := h.ok hx
  have hn : ∀ {s : ByteArray}, Nm s → s.size ≤ 12 := fun h => (ScM.nm_size h).2
  exact ⟨hn k1, ⟨k2, (hr x hx).1⟩, ⟨by omega, by omega⟩, ⟨by omega, k5⟩, k7, fun e => ⟨hn (k8 e).2.1, (k8 e).2.2, (hr x hx).2⟩⟩

/-- What Put answers. -/
def pv (q : Q) : List Int := if May q then pQ q else []
/-- What Get answers. -/
def gotQ : Option (Q × Nat) → Q × Nat × Bool
  | some (q, m) => (q, m, true)
  | none => (q0, 0, false)
end Go.Proofs.Ytochpomddfjkoaa.QyM
