/- Events by plain lists: which may be, their bytes, what bytes begin by; no program, nothing is asked. -/
import Derived.Test.YtochpomddfjkoaaSchemaMath
import Derived.Test.YtochpomddfjkoaaValueMath
namespace Go.Proofs.Ytochpomddfjkoaa.EvM
open Go.RowKit Go.Proofs.Ytochpomddfjkoaa.LeM Go.Proofs.Ytochpomddfjkoaa.VaM Go.Proofs.Ytochpomddfjkoaa.BM
open Go.Proofs.Ytochpomddfjkoaa.ScM (Nm nm_size pn pn_bytes pn_len gN gN_some gN_app bytes_drop bytes_app)

theorem V.same' {a b : V} (h1 : a.k = b.k) (h2 : a.n = b.n) (h3 : a.s = b.s) : a = b := V.same h1 h2 h3
instance : DecidableEq V := fun a b => if h : a.k = b.k ∧ a.n = b.n ∧ a.s = b.s then .isTrue (V.same h.1 h.2.1 h.2.2) else .isFalse (fun e => h (by rw [e]; exact ⟨rfl, rfl, rfl⟩))

/-- No value. -/
def v0 : V := ⟨0, 0, e0⟩

/-- An event: its name, when, its values. -/
structure Ev where
  s : ByteArray
  t : Int
  v : List V
theorem Ev.same {a b : Ev} (h1 : a.s = b.s) (h2 : a.t = b.t) (h3 : a.v = b.v) : a = b := by cases a; cases b; cases h1; cases h2; cases h3; rfl
instance : DecidableEq Ev := fun a b => if h : a.s = b.s ∧ a.t = b.t ∧ a.v = b.v then .isTrue (Ev.same h.1 h.2.1 h.2.2) else .isFalse (fun e => h (by rw [e]; exact ⟨rfl, rfl, rfl⟩))

/-- Each of the first n values may be. -/
def VGd (l : List V) (n : Nat) : Prop := ∀ i, i < n → VaM.May (l.getD i v0)
instance (l : List V) (n : Nat) : Decidable (VGd l n) := by unfold VGd; infer_instance
def May (e : Ev) : Prop := Nm e.s ∧ 0 ≤ e.t ∧ e.t ≤ 1125899906842624 ∧ e.v.length ≤ 6 ∧ VGd e.v e.v.length
instance (e : Ev) : Decidable (May e) := by unfold May; infer_instance

/-- Its numbers are ints. -/
def Rngs (l : List V) : Prop := ∀ x ∈ l, Rng x

theorem getD_mem {l : List V} {i : Nat} (h : i < l.length) : l.getD i v0 ∈ l := by
  rw [List.getD_eq_getElem?_getD, List.getElem?_eq_getElem h]
  exact List.getElem_mem h

theorem VGd.succ {l : List V} {n : Nat} (h : VGd l n) (hn : VaM.May (l.getD n v0)) : VGd l (n + 1) := by
  intro j hj
  by_cases e : j = n
  · exact e ▸ hn
  · exact h j (by omega)

theorem May.vok {e : Ev} (h : May e) {x : V} (hx : x ∈ e.v) : VaM.May x := by
  obtain ⟨i, hi, rfl⟩ := List.getElem_of_mem hx
  have h1 := h.2.2.2.2 i hi
  rw [List.getD_eq_getElem?_getD, List.getElem?_eq_getElem hi] at h1
  exact h1

theorem vgd_of {l : List V} (h : ∀ x ∈ l, VaM.May x) : VGd l l.length := fun _ hi => h _ (getD_mem hi)

/-- Values' bytes. -/
def pvs : List V → List Int
  | [] => []
  | x :: l => putV x ++ pvs l
/-- An event's. -/
def pE (e : Ev) : List Int := (pn e.s ++ (putL e.t.toNat ++ putL e.v.length)) ++ pvs e.v

theorem pvs_app (l m : List V) : pvs (l ++ m) = pvs l ++ pvs m := by
  induction l with
  | nil => rfl
  | cons f l ih => rw [List.cons_append, pvs, pvs, ih, List.append_assoc]

theorem pvs_snoc (l : List V) (x : V) : pvs (l ++ [x]) = pvs l ++ putV x := by rw [pvs_app, pvs, pvs, List.append_nil]

theorem pvs_bytes : ∀ {l : List V}, (∀ x ∈ l, VaM.May x) → ∀ y ∈ pvs l, (0 : Int) ≤ y ∧ y < 256
  | [], _, y, hy => by cases hy
  | x :: l, h, y, hy => by
    rcases List.mem_append.1 hy with h' | h'
    · exact putV_bytes (h x (by simp)) y h'
    · exact pvs_bytes (fun g hg => h g (by simp [hg])) y h'

theorem pvs_len : ∀ {l : List V}, (∀ x ∈ l, VaM.May x) → Rngs l → (pvs l).length ≤ 51 * l.length
  | [], _, _ => by simp [pvs]
  | x :: l, h, g => by
    have h1 := (putV_len (h x (by simp)) (g x (by simp))).2
    have h2 := pvs_len (l := l) (fun y hy => h y (by simp [hy])) (fun y hy => g y (by simp [hy]))
    rw [pvs, List.length_append, List.length_cons]
    omega

theorem pE_bytes {e : Ev} (h : May e) : ∀ x ∈ pE e, (0 : Int) ≤ x ∧ x < 256 := by
  intro x hx
  rcases List.mem_append.1 hx with h' | h'
  · rcases List.mem_append.1 h' with h' | h'
    · exact pn_bytes _ x h'
    · rcases List.mem_append.1 h' with h' | h'
      · exact putL_bytes _ x h'
      · exact putL_bytes _ x h'
  · exact pvs_bytes (fun f hf => h.vok hf) x h'

theorem pE_len {e : Ev} (h : May e) (hr : Rngs e.v) : 4 ≤ (pE e).length ∧ (pE e).length ≤ 339 := by
  have h1 := nm_size h.1
  have h2 := putL_len64 (n := e.t.toNat) (by have := h.2.2.1; omega)
  have h3 := putL_len64 (n := e.v.length) (by have := h.2.2.2.1; omega)
  have h4 := pvs_len (fun f hf => h.vok hf) hr
  have h5 := h.2.2.2.1
  have h6 := putL_pos e.t.toNat
  have h7 := putL_pos e.v.length
  rw [pE, List.length_append, List.length_append, List.length_append, pn_len h1.2]
  omega

/-- So many values. -/
def gVs : Nat → List Int → Option (List V × Nat)
  | 0, _ => some ([], 0)
  | n + 1, xs =>
    match getP xs with
    | some (x, m) => match gVs n (xs.drop m) with
      | some (l, k) => some (x :: l, m + k)
      | none => none
    | none => none

/-- Whatever might be an event. -/
def gA (xs : List Int) : Option (Ev × Nat) :=
  match gN xs with
  | none => none
  | some (s, a) =>
    match getS (xs.drop a) with
    | none => none
    | some (t, u) =>
      if t ≤ 1125899906842624 then
        match getS (xs.drop (a + u)) with
        | none => none
        | some (n, m) =>
          if n ≤ 6 then
            match gVs n (xs.drop (a + u + m)) with
            | none => none
            | some (l, k) => some (⟨s, t, l⟩, a + u + m + k)
          else none
      else none

/-- An event. -/
def gE (xs : List Int) : Option (Ev × Nat) :=
  match gA xs with
  | none => none
  | some (e, m) => if May e then some (e, m) else none

theorem gVs_some : ∀ (n : Nat) {xs : List Int} (_ : ∀ x ∈ xs, (0 : Int) ≤ x ∧ x < 256) {l : List V} {m : Nat} (_ : gVs n xs = some (l, m)),
    l.length = n ∧ (∀ x ∈ l, Rng x ∧ VaM.May x) ∧ m ≤ xs.length ∧ pvs l = xs.take m
  | 0, xs, hb, l, m, h => by
    simp only [gVs, Option.some.injEq, Prod.mk.injEq] at h
    obtain ⟨rfl, rfl⟩ := h
    exact ⟨rfl, (fun f hf => by cases hf), Nat.zero_le _, rfl⟩
  | n + 1, xs, hb, l, m, h => by
    simp only [gVs] at h
    cases hg : getP xs with
    | none => rw [hg] at h; cases h
    | some p =>
      obtain ⟨x, a⟩ := p
      rw [hg] at h
      simp only at h
      obtain ⟨h1, h2, h3, h4⟩ := getP_some hb hg
      cases hr : gVs n (xs.drop a) with
      | none => rw [hr] at h; cases h
      | some q =>
        obtain ⟨r, k⟩ := q
        rw [hr] at h
        simp only [Option.some.injEq, Prod.mk.injEq] at h
        obtain ⟨rfl, rfl⟩ := h
        obtain ⟨g1, g2, g3, g4⟩ := gVs_some n (bytes_drop hb a) hr
        rw [List.length_drop] at g3
        refine ⟨by rw [List.length_cons, g1], ?_, by omega, ?_⟩
        · intro y hy
          rcases List.mem_cons.1 hy with rfl | hy
          · exact ⟨h1, h2⟩
          · exact g2 y hy
        · rw [pvs, h4, g4, List.take_add]

theorem gVs_app : ∀ (l : List V) (_ : ∀ x ∈ l, Rng x ∧ VaM.May x) {ys : List Int} (_ : ∀ x ∈ ys, (0 : Int) ≤ x ∧ x < 256), gVs l.length (pvs l ++ ys) = some (l, (pvs l).length)
  | [], _, ys, _ => rfl
  | x :: l, h, ys, hb => by
    have hx := h x (by simp)
    have hl : ∀ g ∈ l, Rng g ∧ VaM.May g := fun g hg => h g (by simp [hg])
    have hb' := bytes_app (pvs_bytes (fun g hg => (hl g hg).2)) hb
    simp only [List.length_cons, gVs, pvs]
    rw [List.append_assoc, getP_app hx.1 hx.2 _ hb']
    simp only
    rw [List.drop_left, gVs_app l hl hb]
    simp only [List.length_append]

theorem gE_some {xs : List Int} (hb : ∀ x ∈ xs, (0 : Int) ≤ x ∧ x < 256) {e : Ev} {m : Nat} (h : gE xs = some (e, m)) : May e ∧ Rngs e.v ∧ m ≤ xs.length ∧ pE e = xs.take m := by
  unfold gE at h
  cases ha : gA xs with
  | none => rw [ha] at h; cases h
  | some p =>
    obtain ⟨e', m'⟩ := p
    rw [ha] at h
    simp only at h
    by_cases hm : May e'
    · rw [if_pos hm] at h
      simp only [Option.some.injEq, Prod.mk.injEq] at h
      obtain ⟨rfl, rfl⟩ := h
      unfold gA at ha
      cases h1 : gN xs with
      | none => rw [h1] at ha; cases ha
      | some p =>
        obtain ⟨s, a⟩ := p
        rw [h1] at ha
        simp only at ha
        obtain ⟨a1, a2, a3⟩ := gN_some hb h1
        cases h2 : getS (xs.drop a) with
        | none => rw [h2] at ha; cases ha
        | some p =>
          obtain ⟨t, u⟩ := p
          rw [h2] at ha
          simp only at ha
          obtain ⟨b1, b2, b3⟩ := (getS_iff _ (bytes_drop hb a) t u).1 h2
          rw [List.length_drop] at b2
          by_cases hv : t ≤ 1125899906842624
          · rw [if_pos hv] at ha
            cases h3 : getS (xs.drop (a + u)) with
            | none => rw [h3] at ha; cases ha
            | some p =>
              obtain ⟨n, k⟩ := p
              rw [h3] at ha
              simp only at ha
              obtain ⟨c1, c2, c3⟩ := (getS_iff _ (bytes_drop hb (a + u)) n k).1 h3
              rw [List.length_drop] at c2
              by_cases hn : n ≤ 6
              · rw [if_pos hn] at ha
                cases h4 : gVs n (xs.drop (a + u + k)) with
                | none => rw [h4] at ha; cases ha
                | some p =>
                  obtain ⟨l, j⟩ := p
                  rw [h4] at ha
                  simp only [Option.some.injEq, Prod.mk.injEq] at ha
                  obtain ⟨rfl, rfl⟩ := ha
                  obtain ⟨d1, d2, d3, d4⟩ := gVs_some n (bytes_drop hb (a + u + k)) h4
                  rw [List.length_drop] at d3
                  refine ⟨hm, fun x hx => (d2 x hx).1, by omega, ?_⟩
                  rw [pE]
                  simp only [Int.toNat_natCast]
                  rw [a3, b3, d1, c3, d4, List.take_add, List.take_add, List.take_add]
                  simp only [List.append_assoc]
              · rw [if_neg hn] at ha
                cases ha
          · rw [if_neg hv] at ha
            cases ha
    · rw [if_neg hm] at h
      cases h

/-- What is put is got, whatever stands behind. -/
theorem gE_app {e : Ev} (hm : May e) (hr : Rngs e.v) {ys : List Int} (hb : ∀ x ∈ ys, (0 : Int) ≤ x ∧ x < 256) : gE (pE e ++ ys) = some (e, (pE e).length) := by
  have hf : ∀ x ∈ e.v, VaM.May x := fun f hf => hm.vok hf
  have hf' : ∀ x ∈ e.v, Rng x ∧ VaM.May x := fun f hx => ⟨hr f hx, hf f hx⟩
  have b4 := bytes_app (pvs_bytes hf) hb
  have b3 := bytes_app (putL_bytes e.v.length) b4
  have b2 := bytes_app (putL_bytes e.t.toNat) b3
  have he : pE e ++ ys = pn e.s ++ (putL e.t.toNat ++ (putL e.v.length ++ (pvs e.v ++ ys))) := by simp [pE]
  have hv1 := hm.2.1
  have hv2 := hm.2.2.1
  have hl := hm.2.2.2.1
  have x1 : (pn e.s ++ (putL e.t.toNat ++ (putL e.v.length ++ (pvs e.v ++ ys)))).drop (pn e.s).length = putL e.t.toNat ++ (putL e.v.length ++ (pvs e.v ++ ys)) := List.drop_left
  have x2 : (pn e.s ++ (putL e.t.toNat ++ (putL e.v.length ++ (pvs e.v ++ ys)))).drop ((pn e.s).length + (putL e.t.toNat).length) = putL e.v.length ++ (pvs e.v ++ ys) := by
    rw [← List.drop_drop, x1, List.drop_left]
  have x3 : (pn e.s ++ (putL e.t.toNat ++ (putL e.v.length ++ (pvs e.v ++ ys)))).drop ((pn e.s).length + (putL e.t.toNat).length + (putL e.v.length).length) = pvs e.v ++ ys := by
    rw [← List.drop_drop, x2, List.drop_left]
  unfold gE gA
  rw [he, gN_app (nm_size hm.1).2 b2]
  simp only
  rw [x1, getS_put (by omega) _ b3]
  simp only
  rw [if_pos (by omega), x2, getS_put (by omega) _ b4]
  simp only
  rw [if_pos hl, x3, gVs_app e.v hf' hb]
  simp only
  have es : (⟨e.s, ((e.t.toNat : Nat) : Int), e.v⟩ : Ev) = e := Ev.same rfl (by simp only; omega) rfl
  rw [es, if_pos hm]
  simp only [pE, List.length_append]
  congr 2
  omega

theorem gE_put {xs : List Int} (hb : ∀ x ∈ xs, (0 : Int) ≤ x ∧ x < 256) {e : Ev} {m : Nat} (hs : May e) (hr : Rngs e.v) (hm : m ≤ xs.length) (hp : pE e = xs.take m) : gE xs = some (e, m) := by
  have h := gE_app hs hr (bytes_drop hb m)
  have hl := congrArg List.length hp
  rw [List.length_take, Nat.min_eq_left hm] at hl
  rw [hl, hp, List.take_append_drop] at h
  exact h

/-- A beginning of an event's bytes is none. -/
theorem gE_cut {e : Ev} (hm : May e) (hr : Rngs e.v) (k : Nat) (hk : k < (pE e).length) : gE ((pE e).take k) = none := by
  cases hg : gE ((pE e).take k) with
  | none => rfl
  | some p =>
    obtain ⟨u, m⟩ := p
    have hb : ∀ x ∈ (pE e).take k, (0 : Int) ≤ x ∧ x < 256 := fun x hx => pE_bytes hm x (List.mem_of_mem_take hx)
    obtain ⟨h2, h2', h3, h4⟩ := gE_some hb hg
    rw [List.length_take] at h3
    rw [List.take_take, Nat.min_eq_left (by omega)] at h4
    have h5 := gE_put (pE_bytes hm) h2 h2' (by omega) h4
    rw [gE_put (pE_bytes hm) (m := (pE e).length) hm hr (Nat.le_refl _) (by rw [List.take_length])] at h5
    simp only [Option.some.injEq, Prod.mk.injEq] at h5
    omega

theorem pE_inj {a b : Ev} (ma : May a) (mb : May b) (ra : Rngs a.v) (rb : Rngs b.v) (h : pE a = pE b) : a = b := by
  have h1 := gE_put (pE_bytes ma) (m := (pE a).length) ma ra (Nat.le_refl _) (by rw [List.take_length])
  have h2 := gE_put (pE_bytes mb) (m := (pE b).length) mb rb (Nat.le_refl _) (by rw [List.take_length])
  rw [h, h2] at h1
  simp only [Option.some.injEq, Prod.mk.injEq] at h1
  exact h1.1.symm

/-- What Put answers: the bytes. -/
def pv (e : Ev) : List Int := if May e then pE e else []

theorem pv_bytes (e : Ev) : ∀ x ∈ pv e, (0 : Int) ≤ x ∧ x < 256 := by
  unfold pv
  split
  · exact pE_bytes (by assumption)
  · simp

theorem pv_len {e : Ev} (hr : Rngs e.v) : (pv e).length ≤ 339 := by
  unfold pv
  split
  · exact (pE_len (by assumption) hr).2
  · simp

/-- What Get answers. -/
def gotE : Option (Ev × Nat) → Ev × Nat × Bool
  | some (e, m) => (e, m, true)
  | none => (⟨e0, 0, []⟩, 0, false)

/-- Why an event is none of a schema: 0 if it is one. -/
def valid (s : ScM.Sc) (e : Ev) : Int :=
  if ¬ (ScM.May s ∧ May e) then 1 else if s.s ≠ e.s then 3 else if s.f.map (·.k) = e.v.map (·.k) then 0 else 5
end Go.Proofs.Ytochpomddfjkoaa.EvM
