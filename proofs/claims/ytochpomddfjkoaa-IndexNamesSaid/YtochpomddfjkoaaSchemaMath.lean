/- Names, fields and schemas by plain lists: which may be, their bytes, what bytes begin by; no program, nothing is asked. -/
import Derived.Test.YtochpomddfjkoaaLeMath
import Derived.Test.YtochpomddfjkoaaStr
namespace Go.Proofs.Ytochpomddfjkoaa.ScM
open Go.RowKit Go.Proofs.Ytochpomddfjkoaa.LeM Go.Proofs.Ytochpomddfjkoaa.VaM Go.Proofs.Ytochpomddfjkoaa.BM

/-- A byte from a to z. -/
def smallB (c : Int) : Bool := decide (97 ≤ c) && decide (c ≤ 122)
/-- A byte that stands behind others alone. -/
def behB (c : Int) : Bool := c == 95 || (decide (48 ≤ c) && decide (c ≤ 57))
/-- A sign at its place. -/
def okAt (xs : List Int) (j : Nat) : Prop := smallB (xs.getD j 0) = true ∨ (j ≠ 0 ∧ behB (xs.getD j 0) = true)
instance (xs : List Int) (j : Nat) : Decidable (okAt xs j) := by unfold okAt; infer_instance
def okPre (xs : List Int) (n : Nat) : Prop := ∀ j, j < n → okAt xs j
instance (xs : List Int) (n : Nat) : Decidable (okPre xs n) := by unfold okPre; infer_instance
def IsNm (xs : List Int) : Prop := 1 ≤ xs.length ∧ xs.length ≤ 12 ∧ okPre xs xs.length
instance (xs : List Int) : Decidable (IsNm xs) := by unfold IsNm; infer_instance
def Nm (s : ByteArray) : Prop := IsNm (bl s)
instance (s : ByteArray) : Decidable (Nm s) := by unfold Nm; infer_instance

theorem nm_size {s : ByteArray} (h : Nm s) : 1 ≤ s.size ∧ s.size ≤ 12 := by
  have h1 := h.1
  have h2 := h.2.1
  rw [bl_len] at h1 h2
  exact ⟨h1, h2⟩

theorem okPre_succ {xs : List Int} {n : Nat} (h : okPre xs n) (hn : okAt xs n) : okPre xs (n + 1) := by
  intro j hj
  by_cases e : j = n
  · exact e ▸ hn
  · exact h j (by omega)

/-- A field: its name, its kind. -/
structure F where
  s : ByteArray
  k : Int
/-- No field. -/
def d0 : F := ⟨e0, 0⟩
theorem F.same {a b : F} (h1 : a.s = b.s) (h2 : a.k = b.k) : a = b := by cases a; cases b; cases h1; cases h2; rfl
instance : DecidableEq F := fun a b => if h : a.s = b.s ∧ a.k = b.k then .isTrue (F.same h.1 h.2) else .isFalse (fun e => h (by rw [e]; exact ⟨rfl, rfl⟩))

/-- A schema: its name, its version, its fields. -/
structure Sc where
  s : ByteArray
  v : Int
  f : List F
theorem Sc.same {a b : Sc} (h1 : a.s = b.s) (h2 : a.v = b.v) (h3 : a.f = b.f) : a = b := by cases a; cases b; cases h1; cases h2; cases h3; rfl
instance : DecidableEq Sc := fun a b => if h : a.s = b.s ∧ a.v = b.v ∧ a.f = b.f then .isTrue (Sc.same h.1 h.2.1 h.2.2) else .isFalse (fun e => h (by rw [e]; exact ⟨rfl, rfl, rfl⟩))

/-- A field may be, whatever stands beside it. -/
def FOk (f : F) : Prop := Nm f.s ∧ 0 ≤ f.k ∧ f.k < 4
instance (f : F) : Decidable (FOk f) := by unfold FOk; infer_instance
/-- One of the fields is of that name. -/
def Has (l : List F) (s : ByteArray) : Prop := ∃ f ∈ l, f.s = s
instance (l : List F) (s : ByteArray) : Decidable (Has l s) := by unfold Has; infer_instance
/-- A field at its place. -/
def GdAt (l : List F) (i : Nat) : Prop := FOk (l.getD i d0) ∧ ¬ Has (l.take i) (l.getD i d0).s
instance (l : List F) (i : Nat) : Decidable (GdAt l i) := by unfold GdAt; infer_instance
def Gd (l : List F) (n : Nat) : Prop := ∀ i, i < n → GdAt l i
instance (l : List F) (n : Nat) : Decidable (Gd l n) := by unfold Gd; infer_instance
def May (s : Sc) : Prop := Nm s.s ∧ 1 ≤ s.v ∧ s.v ≤ 1000 ∧ s.f.length ≤ 6 ∧ Gd s.f s.f.length
instance (s : Sc) : Decidable (May s) := by unfold May; infer_instance

theorem getD_mem {l : List F} {i : Nat} (h : i < l.length) : l.getD i d0 ∈ l := by
  rw [List.getD_eq_getElem?_getD, List.getElem?_eq_getElem h]
  exact List.getElem_mem h

theorem Gd.mono {l : List F} {m n : Nat} (h : Gd l n) (hm : m ≤ n) : Gd l m := fun i hi => h i (by omega)

theorem Gd.succ {l : List F} {n : Nat} (h : Gd l n) (hn : GdAt l n) : Gd l (n + 1) := by
  intro j hj
  by_cases e : j = n
  · exact e ▸ hn
  · exact h j (by omega)

theorem gdAt_app {l m : List F} {i : Nat} (hi : i < l.length) : GdAt (l ++ m) i ↔ GdAt l i := by
  have e1 : (l ++ m).getD i d0 = l.getD i d0 := by
    rw [List.getD_eq_getElem?_getD, List.getD_eq_getElem?_getD, List.getElem?_append_left hi]
  have e2 : (l ++ m).take i = l.take i := List.take_append_of_le_length (by omega)
  unfold GdAt
  rw [e1, e2]

theorem May.fok {s : Sc} (h : May s) {f : F} (hf : f ∈ s.f) : FOk f := by
  obtain ⟨i, hi, rfl⟩ := List.getElem_of_mem hf
  have h1 := (h.2.2.2.2 i hi).1
  rw [List.getD_eq_getElem?_getD, List.getElem?_eq_getElem hi] at h1
  exact h1

/-! Bytes. -/

/-- A name, behind how many bytes it has. -/
def pn (s : ByteArray) : List Int := putL s.size ++ bl s
/-- A field. -/
def pf (f : F) : List Int := pn f.s ++ [f.k]
/-- Fields. -/
def pfs : List F → List Int
  | [] => []
  | f :: l => pf f ++ pfs l
/-- A schema. -/
def pS (s : Sc) : List Int := (pn s.s ++ (putL s.v.toNat ++ putL s.f.length)) ++ pfs s.f

theorem pfs_app (l m : List F) : pfs (l ++ m) = pfs l ++ pfs m := by
  induction l with
  | nil => rfl
  | cons f l ih => rw [List.cons_append, pfs, pfs, ih, List.append_assoc]

theorem pfs_snoc (l : List F) (f : F) : pfs (l ++ [f]) = pfs l ++ pf f := by rw [pfs_app, pfs, pfs, List.append_nil]

theorem pn_bytes (s : ByteArray) : ∀ x ∈ pn s, (0 : Int) ≤ x ∧ x < 256 := by
  intro x hx
  rcases List.mem_append.1 hx with h | h
  · exact putL_bytes _ x h
  · exact bl_bytes _ x h

theorem pn_len {s : ByteArray} (h : s.size ≤ 12) : (pn s).length = 1 + s.size := by
  rw [pn, putL_lt (by omega), List.length_append, bl_len]
  rfl

theorem pf_bytes {f : F} (h : FOk f) : ∀ x ∈ pf f, (0 : Int) ≤ x ∧ x < 256 := by
  intro x hx
  rcases List.mem_append.1 hx with h' | h'
  · exact pn_bytes _ x h'
  · have := h.2
    simp only [List.mem_singleton] at h'
    omega

theorem pf_len {f : F} (h : FOk f) : 3 ≤ (pf f).length ∧ (pf f).length ≤ 14 := by
  have h1 := nm_size h.1
  rw [pf, List.length_append, pn_len h1.2]
  simp
  omega

theorem pfs_bytes : ∀ {l : List F}, (∀ f ∈ l, FOk f) → ∀ x ∈ pfs l, (0 : Int) ≤ x ∧ x < 256
  | [], _, x, hx => by cases hx
  | f :: l, h, x, hx => by
    rcases List.mem_append.1 hx with h' | h'
    · exact pf_bytes (h f (by simp)) x h'
    · exact pfs_bytes (fun g hg => h g (by simp [hg])) x h'

theorem pfs_len : ∀ {l : List F}, (∀ f ∈ l, FOk f) → (pfs l).length ≤ 14 * l.length
  | [], _ => by simp [pfs]
  | f :: l, h => by
    have h1 := (pf_len (h f (by simp))).2
    have h2 := pfs_len (l := l) (fun g hg => h g (by simp [hg]))
    rw [pfs, List.length_append, List.length_cons]
    omega

theorem pS_bytes {s : Sc} (h : May s) : ∀ x ∈ pS s, (0 : Int) ≤ x ∧ x < 256 := by
  intro x hx
  rcases List.mem_append.1 hx with h' | h'
  · rcases List.mem_append.1 h' with h' | h'
    · exact pn_bytes _ x h'
    · rcases List.mem_append.1 h' with h' | h'
      · exact putL_bytes _ x h'
      · exact putL_bytes _ x h'
  · exact pfs_bytes (fun f hf => h.fok hf) x h'

theorem pS_len {s : Sc} (h : May s) : 4 ≤ (pS s).length ∧ (pS s).length ≤ 117 := by
  have h1 := nm_size h.1
  have h2 := putL_len64 (n := s.v.toNat) (by have := h.2.2.1; omega)
  have h3 := putL_len64 (n := s.f.length) (by have := h.2.2.2.1; omega)
  have h4 := pfs_len (fun f hf => h.fok hf)
  have h5 := h.2.2.2.1
  have h6 := putL_pos s.v.toNat
  have h7 := putL_pos s.f.length
  rw [pS, List.length_append, List.length_append, List.length_append, pn_len h1.2]
  omega

/-! What bytes begin by. -/

/-- A name of at most 12 bytes, or not a name, and how many bytes it has. -/
def gN (xs : List Int) : Option (ByteArray × Nat) :=
  match getS xs with
  | some (n, u) => if n ≤ 12 ∧ n ≤ xs.length - u then some (strOfNums ((xs.drop u).take n), u + n) else none
  | none => none

/-- A field. -/
def gF (xs : List Int) : Option (F × Nat) :=
  match gN xs with
  | some (t, m) => if m < xs.length then some (⟨t, xs.getD m 0⟩, m + 1) else none
  | none => none

/-- So many fields. -/
def gFs : Nat → List Int → Option (List F × Nat)
  | 0, _ => some ([], 0)
  | n + 1, xs =>
    match gF xs with
    | some (f, m) => match gFs n (xs.drop m) with
      | some (l, k) => some (f :: l, m + k)
      | none => none
    | none => none

/-- Whatever might be a schema. -/
def gA (xs : List Int) : Option (Sc × Nat) :=
  match gN xs with
  | none => none
  | some (t, a) =>
    match getS (xs.drop a) with
    | none => none
    | some (v, u) =>
      if v ≤ 1000 then
        match getS (xs.drop (a + u)) with
        | none => none
        | some (n, m) =>
          if n ≤ 6 then
            match gFs n (xs.drop (a + u + m)) with
            | none => none
            | some (l, k) => some (⟨t, v, l⟩, a + u + m + k)
          else none
      else none

/-- A schema. -/
def gS (xs : List Int) : Option (Sc × Nat) :=
  match gA xs with
  | none => none
  | some (s, m) => if May s then some (s, m) else none

theorem bytes_drop {xs : List Int} (h : ∀ x ∈ xs, (0 : Int) ≤ x ∧ x < 256) (k : Nat) : ∀ x ∈ xs.drop k, (0 : Int) ≤ x ∧ x < 256 := fun x hx => h x (List.mem_of_mem_drop hx)

theorem bytes_app {xs ys : List Int} (h : ∀ x ∈ xs, (0 : Int) ≤ x ∧ x < 256) (k : ∀ x ∈ ys, (0 : Int) ≤ x ∧ x < 256) : ∀ x ∈ xs ++ ys, (0 : Int) ≤ x ∧ x < 256 := fun x hx => by
  rcases List.mem_append.1 hx with h' | h'
  · exact h x h'
  · exact k x h'

theorem gN_some {xs : List Int} (hb : ∀ x ∈ xs, (0 : Int) ≤ x ∧ x < 256) {t : ByteArray} {m : Nat} (h : gN xs = some (t, m)) : t.size ≤ 12 ∧ m ≤ xs.length ∧ pn t = xs.take m := by
  unfold gN at h
  cases hg : getS xs with
  | none => rw [hg] at h; cases h
  | some p =>
    obtain ⟨n, u⟩ := p
    rw [hg] at h
    simp only at h
    obtain ⟨h1, h2, h3⟩ := (getS_iff xs hb n u).1 hg
    by_cases hc : n ≤ 12 ∧ n ≤ xs.length - u
    · rw [if_pos hc] at h
      simp only [Option.some.injEq, Prod.mk.injEq] at h
      obtain ⟨rfl, rfl⟩ := h
      have hl : ((xs.drop u).take n).length = n := by rw [List.length_take, List.length_drop]; omega
      refine ⟨by rw [size_str, hl]; exact hc.1, by omega, ?_⟩
      rw [pn, size_str, hl, h3, bl_str (fun x hx => hb x (List.mem_of_mem_drop (List.mem_of_mem_take hx))), List.take_add]
    · rw [if_neg hc] at h
      cases h

theorem gN_app {t : ByteArray} (ht : t.size ≤ 12) {ys : List Int} (hb : ∀ x ∈ ys, (0 : Int) ≤ x ∧ x < 256) : gN (pn t ++ ys) = some (t, (pn t).length) := by
  unfold gN
  rw [pn, List.append_assoc, getS_put (by omega) _ (bytes_app (bl_bytes t) hb)]
  simp only
  rw [if_pos (by rw [List.length_append, List.length_append, bl_len]; omega), List.drop_left, List.take_left' (bl_len t), str_bl, List.length_append, bl_len]

theorem gN_pos {xs : List Int} (hb : ∀ x ∈ xs, (0 : Int) ≤ x ∧ x < 256) {t : ByteArray} {m : Nat} (h : gN xs = some (t, m)) : m ≤ 13 := by
  obtain ⟨h1, h2, h3⟩ := gN_some hb h
  have h4 := congrArg List.length h3
  rw [pn_len h1, List.length_take] at h4
  omega

theorem gF_some {xs : List Int} (hb : ∀ x ∈ xs, (0 : Int) ≤ x ∧ x < 256) {f : F} {m : Nat} (h : gF xs = some (f, m)) : f.s.size ≤ 12 ∧ (0 ≤ f.k ∧ f.k < 256) ∧ m ≤ xs.length ∧ pf f = xs.take m := by
  unfold gF at h
  cases hg : gN xs with
  | none => rw [hg] at h; cases h
  | some p =>
    obtain ⟨t, n⟩ := p
    rw [hg] at h
    simp only at h
    obtain ⟨h1, h2, h3⟩ := gN_some hb hg
    by_cases hc : n < xs.length
    · rw [if_pos hc] at h
      simp only [Option.some.injEq, Prod.mk.injEq] at h
      obtain ⟨rfl, rfl⟩ := h
      refine ⟨h1, ?_, by omega, ?_⟩
      · simp only
        rw [List.getD_eq_getElem?_getD, List.getElem?_eq_getElem hc]
        exact hb _ (List.getElem_mem hc)
      · rw [pf, h3, take_snocB xs n hc]
    · rw [if_neg hc] at h
      cases h

theorem gF_app {f : F} (ht : f.s.size ≤ 12) (hk : 0 ≤ f.k ∧ f.k < 256) {ys : List Int} (hb : ∀ x ∈ ys, (0 : Int) ≤ x ∧ x < 256) : gF (pf f ++ ys) = some (f, (pf f).length) := by
  have hb' : ∀ x ∈ f.k :: ys, (0 : Int) ≤ x ∧ x < 256 := by
    intro x hx
    rcases List.mem_cons.1 hx with rfl | hx
    · exact hk
    · exact hb x hx
  have e : pf f ++ ys = pn f.s ++ (f.k :: ys) := by rw [pf, List.append_assoc]; rfl
  unfold gF
  rw [e, gN_app ht hb']
  simp only
  have eg : (pn f.s ++ f.k :: ys).getD (pn f.s).length 0 = f.k := by simp [List.getD_eq_getElem?_getD]
  rw [if_pos (by simp), eg, pf, List.length_append]
  rfl

theorem gFs_some : ∀ (n : Nat) {xs : List Int} (_ : ∀ x ∈ xs, (0 : Int) ≤ x ∧ x < 256) {l : List F} {m : Nat} (_ : gFs n xs = some (l, m)),
    l.length = n ∧ (∀ f ∈ l, f.s.size ≤ 12 ∧ 0 ≤ f.k ∧ f.k < 256) ∧ m ≤ xs.length ∧ pfs l = xs.take m
  | 0, xs, hb, l, m, h => by
    simp only [gFs, Option.some.injEq, Prod.mk.injEq] at h
    obtain ⟨rfl, rfl⟩ := h
    exact ⟨rfl, (fun f hf => by cases hf), Nat.zero_le _, rfl⟩
  | n + 1, xs, hb, l, m, h => by
    simp only [gFs] at h
    cases hg : gF xs with
    | none => rw [hg] at h; cases h
    | some p =>
      obtain ⟨f, a⟩ := p
      rw [hg] at h
      simp only at h
      obtain ⟨h1, h2, h3, h4⟩ := gF_some hb hg
      cases hr : gFs n (xs.drop a) with
      | none => rw [hr] at h; cases h
      | some q =>
        obtain ⟨r, k⟩ := q
        rw [hr] at h
        simp only [Option.some.injEq, Prod.mk.injEq] at h
        obtain ⟨rfl, rfl⟩ := h
        obtain ⟨g1, g2, g3, g4⟩ := gFs_some n (bytes_drop hb a) hr
        rw [List.length_drop] at g3
        refine ⟨by rw [List.length_cons, g1], ?_, by omega, ?_⟩
        · intro g hg
          rcases List.mem_cons.1 hg with rfl | hg
          · exact ⟨h1, h2⟩
          · exact g2 g hg
        · rw [pfs, h4, g4, List.take_add]

theorem gFs_app : ∀ (l : List F) (_ : ∀ f ∈ l, f.s.size ≤ 12 ∧ 0 ≤ f.k ∧ f.k < 256) {ys : List Int} (_ : ∀ x ∈ ys, (0 : Int) ≤ x ∧ x < 256), gFs l.length (pfs l ++ ys) = some (l, (pfs l).length)
  | [], _, ys, _ => rfl
  | f :: l, h, ys, hb => by
    have hf := h f (by simp)
    have hl : ∀ g ∈ l, g.s.size ≤ 12 ∧ 0 ≤ g.k ∧ g.k < 256 := fun g hg => h g (by simp [hg])
    have hb' : ∀ x ∈ pfs l ++ ys, (0 : Int) ≤ x ∧ x < 256 := by
      refine bytes_app ?_ hb
      clear hf h
      intro x hx
      induction l with
      | nil => cases hx
      | cons g l ih =>
        rcases List.mem_append.1 hx with h' | h'
        · rcases List.mem_append.1 h' with h' | h'
          · exact pn_bytes _ x h'
          · have := (hl g (by simp)).2
            simp only [List.mem_singleton] at h'
            omega
        · exact ih (fun k hk => hl k (by simp [hk])) h'
    simp only [List.length_cons, gFs, pfs]
    rw [List.append_assoc, gF_app hf.1 hf.2 hb']
    simp only
    rw [List.drop_left, gFs_app l hl hb]
    simp only [List.length_append]

theorem gS_some {xs : List Int} (hb : ∀ x ∈ xs, (0 : Int) ≤ x ∧ x < 256) {s : Sc} {m : Nat} (h : gS xs = some (s, m)) : May s ∧ m ≤ xs.length ∧ pS s = xs.take m := by
  unfold gS at h
  cases ha : gA xs with
  | none => rw [ha] at h; cases h
  | some p =>
    obtain ⟨s', m'⟩ := p
    rw [ha] at h
    simp only at h
    by_cases hm : May s'
    · rw [if_pos hm] at h
      simp only [Option.some.injEq, Prod.mk.injEq] at h
      obtain ⟨rfl, rfl⟩ := h
      unfold gA at ha
      cases h1 : gN xs with
      | none => rw [h1] at ha; cases ha
      | some p =>
        obtain ⟨t, a⟩ := p
        rw [h1] at ha
        simp only at ha
        obtain ⟨a1, a2, a3⟩ := gN_some hb h1
        cases h2 : getS (xs.drop a) with
        | none => rw [h2] at ha; cases ha
        | some p =>
          obtain ⟨v, u⟩ := p
          rw [h2] at ha
          simp only at ha
          obtain ⟨b1, b2, b3⟩ := (getS_iff _ (bytes_drop hb a) v u).1 h2
          rw [List.length_drop] at b2
          by_cases hv : v ≤ 1000
          · rw [if_pos hv] at ha
            cases h3 : getS (xs.drop (a + u)) with
            | none => rw [h3] at ha; cases ha
            | some p =>
              obtain ⟨n, k⟩ := p
              rw [h3] at ha
              simp only at ha
              obtain ⟨c1, c2, c3⟩ := (getS_iff _ (bytes_drop hb (a + u)) n k).1 h3
              rw [List.length_drop] at c2
              by_cases hn : n ≤ 6
              · rw [if_pos hn] at ha
                cases h4 : gFs n (xs.drop (a + u + k)) with
                | none => rw [h4] at ha; cases ha
                | some p =>
                  obtain ⟨l, j⟩ := p
                  rw [h4] at ha
                  simp only [Option.some.injEq, Prod.mk.injEq] at ha
                  obtain ⟨rfl, rfl⟩ := ha
                  obtain ⟨d1, d2, d3, d4⟩ := gFs_some n (bytes_drop hb (a + u + k)) h4
                  rw [List.length_drop] at d3
                  refine ⟨hm, by omega, ?_⟩
                  rw [pS]
                  simp only [Int.toNat_natCast]
                  rw [a3, b3, d1, c3, d4, List.take_add, List.take_add, List.take_add]
                  simp only [List.append_assoc]
              · rw [if_neg hn] at ha
                cases ha
          · rw [if_neg hv] at ha
            cases ha
    · rw [if_neg hm] at h
      cases h

/-- What is put is got, whatever stands behind. -/
theorem gS_app {s : Sc} (hm : May s) {ys : List Int} (hb : ∀ x ∈ ys, (0 : Int) ≤ x ∧ x < 256) : gS (pS s ++ ys) = some (s, (pS s).length) := by
  have hf : ∀ f ∈ s.f, FOk f := fun f hf => hm.fok hf
  have hf' : ∀ f ∈ s.f, f.s.size ≤ 12 ∧ 0 ≤ f.k ∧ f.k < 256 := fun f hf => by
    have h := hm.fok hf
    exact ⟨(nm_size h.1).2, h.2.1, by have := h.2.2; omega⟩
  have b4 := bytes_app (pfs_bytes hf) hb
  have b3 := bytes_app (putL_bytes s.f.length) b4
  have b2 := bytes_app (putL_bytes s.v.toNat) b3
  have e : pS s ++ ys = pn s.s ++ (putL s.v.toNat ++ (putL s.f.length ++ (pfs s.f ++ ys))) := by simp [pS]
  have hv1 := hm.2.1
  have hv2 := hm.2.2.1
  have hl := hm.2.2.2.1
  have x1 : (pn s.s ++ (putL s.v.toNat ++ (putL s.f.length ++ (pfs s.f ++ ys)))).drop (pn s.s).length = putL s.v.toNat ++ (putL s.f.length ++ (pfs s.f ++ ys)) := List.drop_left
  have x2 : (pn s.s ++ (putL s.v.toNat ++ (putL s.f.length ++ (pfs s.f ++ ys)))).drop ((pn s.s).length + (putL s.v.toNat).length) = putL s.f.length ++ (pfs s.f ++ ys) := by
    rw [← List.drop_drop, x1, List.drop_left]
  have x3 : (pn s.s ++ (putL s.v.toNat ++ (putL s.f.length ++ (pfs s.f ++ ys)))).drop ((pn s.s).length + (putL s.v.toNat).length + (putL s.f.length).length) = pfs s.f ++ ys := by
    rw [← List.drop_drop, x2, List.drop_left]
  unfold gS gA
  rw [e, gN_app (nm_size hm.1).2 b2]
  simp only
  rw [x1, getS_put (by omega) _ b3]
  simp only
  rw [if_pos (by omega), x2, getS_put (by omega) _ b4]
  simp only
  rw [if_pos hl, x3, gFs_app s.f hf' hb]
  simp only
  have es : (⟨s.s, ((s.v.toNat : Nat) : Int), s.f⟩ : Sc) = s := Sc.same rfl (by simp only; omega) rfl
  rw [es, if_pos hm]
  simp only [pS, List.length_append]
  congr 2
  omega

theorem gS_put {xs : List Int} (hb : ∀ x ∈ xs, (0 : Int) ≤ x ∧ x < 256) {s : Sc} {m : Nat} (hs : May s) (hm : m ≤ xs.length) (hp : pS s = xs.take m) : gS xs = some (s, m) := by
  have h := gS_app hs (bytes_drop hb m)
  have hl := congrArg List.length hp
  rw [List.length_take, Nat.min_eq_left hm] at hl
  rw [hl, hp, List.take_append_drop] at h
  exact h

/-- A beginning of a schema's bytes is none. -/
theorem gS_cut {s : Sc} (hm : May s) (k : Nat) (hk : k < (pS s).length) : gS ((pS s).take k) = none := by
  cases hg : gS ((pS s).take k) with
  | none => rfl
  | some p =>
    obtain ⟨u, m⟩ := p
    have hb : ∀ x ∈ (pS s).take k, (0 : Int) ≤ x ∧ x < 256 := fun x hx => pS_bytes hm x (List.mem_of_mem_take hx)
    obtain ⟨h2, h3, h4⟩ := gS_some hb hg
    rw [List.length_take] at h3
    rw [List.take_take, Nat.min_eq_left (by omega)] at h4
    have h5 := gS_put (pS_bytes hm) h2 (by omega) h4
    rw [gS_put (pS_bytes hm) (m := (pS s).length) hm (Nat.le_refl _) (by rw [List.take_length])] at h5
    simp only [Option.some.injEq, Prod.mk.injEq] at h5
    omega

theorem pS_inj {a b : Sc} (ma : May a) (mb : May b) (h : pS a = pS b) : a = b := by
  have h1 := gS_put (pS_bytes ma) (m := (pS a).length) ma (Nat.le_refl _) (by rw [List.take_length])
  have h2 := gS_put (pS_bytes mb) (m := (pS b).length) mb (Nat.le_refl _) (by rw [List.take_length])
  rw [h, h2] at h1
  simp only [Option.some.injEq, Prod.mk.injEq] at h1
  exact h1.1.symm

/-- What Put answers: the bytes. -/
def pv (s : Sc) : List Int := if May s then pS s else []

theorem pv_bytes (s : Sc) : ∀ x ∈ pv s, (0 : Int) ≤ x ∧ x < 256 := by
  unfold pv
  split
  · exact pS_bytes (by assumption)
  · simp

theorem pv_len (s : Sc) : (pv s).length ≤ 117 := by
  unfold pv
  split
  · exact (pS_len (by assumption)).2
  · simp

/-- What Get answers. -/
def gotS : Option (Sc × Nat) → Sc × Nat × Bool
  | some (s, m) => (s, m, true)
  | none => (⟨e0, 0, []⟩, 0, false)

/-- Does the former fit the latter? -/
def Fit (a b : Sc) : Prop := May a ∧ May b ∧ a.s = b.s ∧ b.v = a.v + 1 ∧ a.f.length ≤ b.f.length ∧ b.f.take a.f.length = a.f
instance (a b : Sc) : Decidable (Fit a b) := by unfold Fit; infer_instance
end Go.Proofs.Ytochpomddfjkoaa.ScM
