/- Values by plain lists: which may be, their bytes, what bytes begin by, which is less; no program, nothing is asked. -/
import Derived.Test.YtochpomddfjkoaaLeMath
import Derived.Test.YtochpomddfjkoaaLeZigMath
import Derived.Test.YtochpomddfjkoaaStr
namespace Go.Proofs.Ytochpomddfjkoaa.VaM
open Go.RowKit Go.Proofs.Ytochpomddfjkoaa.LeM Go.Proofs.Ytochpomddfjkoaa.LeZ Go.Proofs.Ytochpomddfjkoaa.BM

/-- A value: its kind, its number, its bytes. -/
structure V where
  k : Int
  n : Int
  s : ByteArray

theorem V.same {a b : V} (h1 : a.k = b.k) (h2 : a.n = b.n) (h3 : a.s = b.s) : a = b := by
  cases a; cases b; cases h1; cases h2; cases h3; rfl

def May (v : V) : Prop :=
  (v.k = 2 ∧ v.n = 0 ∧ v.s.size ≤ 40) ∨ (v.s.size = 0 ∧ (v.k = 0 ∨ (v.k = 1 ∧ (v.n = 0 ∨ v.n = 1)) ∨ (v.k = 3 ∧ 0 ≤ v.n ∧ v.n ≤ 1125899906842624)))
instance (v : V) : Decidable (May v) := by unfold May; infer_instance

/-- Its number is an int. -/
def Rng (v : V) : Prop := -9223372036854775808 ≤ v.n ∧ v.n ≤ 9223372036854775807

/-- The number behind its kind. -/
def num (v : V) : Nat := if v.k = 0 then (zig v.n).toNat else if v.k = 2 then v.s.size else v.n.toNat

theorem num_lt {v : V} (hm : May v) (hr : Rng v) : num v < 18446744073709551616 := by
  have hz := zig_rng hr.1 hr.2
  unfold num
  rcases hm with ⟨h1, h2, h3⟩ | ⟨h0, h⟩
  · rw [if_neg (by omega), if_pos h1]
    omega
  · split
    · omega
    · split
      · omega
      · omega

def putV (v : V) : List Int := v.k :: (putL (num v) ++ bl v.s)

theorem may_kind {v : V} (hm : May v) : 0 ≤ v.k ∧ v.k < 4 := by
  rcases hm with ⟨h1, h2, h3⟩ | ⟨h0, h | h | h⟩ <;> omega

theorem may_size {v : V} (hm : May v) : v.s.size ≤ 40 := by
  rcases hm with ⟨h1, h2, h3⟩ | ⟨h0, h⟩ <;> omega

theorem putV_bytes {v : V} (hm : May v) : ∀ x ∈ putV v, (0 : Int) ≤ x ∧ x < 256 := by
  intro x hx
  rcases List.mem_cons.1 hx with rfl | hx
  · have := may_kind hm
    omega
  · rcases List.mem_append.1 hx with hx | hx
    · exact putL_bytes _ x hx
    · exact bl_bytes _ x hx

theorem putV_len {v : V} (hm : May v) (hr : Rng v) : 2 ≤ (putV v).length ∧ (putV v).length ≤ 51 := by
  have h1 := putL_len64 (num_lt hm hr)
  have h2 := putL_pos (num v)
  have h3 := may_size hm
  rw [putV, List.length_cons, List.length_append, bl_len]
  omega

/-- What a kind, and what le's Get says of the bytes behind it, tell. -/
def getB (k : Int) (r : List Int) : Option (Nat × Nat) → Option (V × Nat)
  | none => none
  | some (n, u) =>
      if k = 0 then some (⟨0, zag n, e0⟩, 1 + u)
      else if k = 2 then (if n ≤ 40 ∧ n ≤ r.length - u then some (⟨2, 0, strOfNums ((r.drop u).take n)⟩, 1 + u + n) else none)
      else if (k = 1 ∧ n ≤ 1) ∨ (k = 3 ∧ n ≤ 1125899906842624) then some (⟨k, n, e0⟩, 1 + u) else none

/-- What bytes begin by, and how many bytes that has. -/
def getP : List Int → Option (V × Nat)
  | [] => none
  | k :: r => getB k r (getS r)

theorem getP_some {xs : List Int} (hb : ∀ x ∈ xs, (0 : Int) ≤ x ∧ x < 256) {v : V} {m : Nat} (h : getP xs = some (v, m)) : Rng v ∧ May v ∧ m ≤ xs.length ∧ putV v = xs.take m := by
  cases xs with
  | nil => cases h
  | cons k r =>
    have hr : ∀ x ∈ r, (0 : Int) ≤ x ∧ x < 256 := fun x hx => hb x (List.mem_cons_of_mem _ hx)
    replace h : getB k r (getS r) = some (v, m) := h
    cases hg : getS r with
    | none => rw [hg] at h; cases h
    | some p =>
      obtain ⟨n, u⟩ := p
      rw [hg] at h
      simp only [getB] at h
      obtain ⟨g1, g2, g3⟩ := (getS_iff r hr n u).1 hg
      by_cases k0 : k = 0
      · rw [if_pos k0] at h
        simp only [Option.some.injEq, Prod.mk.injEq] at h
        obtain ⟨rfl, rfl⟩ := h
        have hz := zag_rng (n := (n : Int)) (by omega) (by omega)
        refine ⟨hz, Or.inr ⟨rfl, Or.inl rfl⟩, by simp; omega, ?_⟩
        have hn : num ⟨0, zag n, e0⟩ = n := by
          unfold num
          rw [if_pos rfl, zig_zag (by omega)]
          omega
        rw [putV, hn, g3, bl_e0, List.append_nil, Nat.add_comm 1 u, List.take_succ_cons, k0]
      · rw [if_neg k0] at h
        by_cases k2 : k = 2
        · rw [if_pos k2] at h
          by_cases hc : n ≤ 40 ∧ n ≤ r.length - u
          · rw [if_pos hc] at h
            simp only [Option.some.injEq, Prod.mk.injEq] at h
            obtain ⟨rfl, rfl⟩ := h
            have hl : ((r.drop u).take n).length = n := by rw [List.length_take, List.length_drop]; omega
            refine ⟨⟨by simp, by simp⟩, Or.inl ⟨rfl, rfl, by rw [size_str, hl]; exact hc.1⟩, by simp; omega, ?_⟩
            have hn : num ⟨2, 0, strOfNums ((r.drop u).take n)⟩ = n := by
              unfold num
              rw [if_neg (by simp), if_pos rfl, size_str, hl]
            rw [putV, hn, g3, bl_str (fun x hx => hr x (List.mem_of_mem_drop (List.mem_of_mem_take hx))), show 1 + u + n = (u + n) + 1 from by omega, List.take_succ_cons, k2, List.take_add]
          · rw [if_neg hc] at h
            cases h
        · rw [if_neg k2] at h
          by_cases hc : (k = 1 ∧ n ≤ 1) ∨ (k = 3 ∧ n ≤ 1125899906842624)
          · rw [if_pos hc] at h
            simp only [Option.some.injEq, Prod.mk.injEq] at h
            obtain ⟨rfl, rfl⟩ := h
            refine ⟨⟨by simp only; omega, by simp only; omega⟩, Or.inr ⟨rfl, Or.inr ?_⟩, by simp; omega, ?_⟩
            · rcases hc with ⟨c1, c2⟩ | ⟨c1, c2⟩
              · exact Or.inl ⟨c1, by simp only; omega⟩
              · exact Or.inr ⟨c1, by simp only; omega, by simp only; omega⟩
            · have hn : num ⟨k, n, e0⟩ = n := by
                unfold num
                rw [if_neg k0, if_neg k2]
                simp
              rw [putV, hn, g3, bl_e0, List.append_nil, Nat.add_comm 1 u, List.take_succ_cons]
          · rw [if_neg hc] at h
            cases h

theorem getP_put {xs : List Int} (hb : ∀ x ∈ xs, (0 : Int) ≤ x ∧ x < 256) {v : V} {m : Nat} (hr : Rng v) (hv : May v) (hm : m ≤ xs.length) (hp : putV v = xs.take m) : getP xs = some (v, m) := by
  have hlt := num_lt hv hr
  cases xs with
  | nil => rw [List.take_nil] at hp; cases hp
  | cons k r =>
    have hrb : ∀ x ∈ r, (0 : Int) ≤ x ∧ x < 256 := fun x hx => hb x (List.mem_cons_of_mem _ hx)
    cases m with
    | zero => rw [List.take_zero] at hp; cases hp
    | succ m =>
      rw [putV, List.take_succ_cons] at hp
      injection hp with hk hp
      rw [List.length_cons] at hm
      have hl := congrArg List.length hp
      rw [List.length_append, List.length_take, Nat.min_eq_left (by omega), bl_len] at hl
      have hg : putL (num v) = r.take (putL (num v)).length := by
        have h1 := congrArg (List.take (putL (num v)).length) hp
        rw [List.take_left, List.take_take, Nat.min_eq_left (by omega)] at h1
        exact h1
      have hs : bl v.s = (r.drop (putL (num v)).length).take v.s.size := by
        have h1 := congrArg (List.drop (putL (num v)).length) hp
        rw [List.drop_left, List.drop_take] at h1
        rw [h1]
        congr 1
        omega
      have hgs := (getS_iff r hrb (num v) _).2 ⟨hlt, by omega, hg⟩
      obtain ⟨u, hu⟩ : ∃ u, u = (putL (num v)).length := ⟨_, rfl⟩
      rw [← hu] at hgs hs hl
      show getB k r (getS r) = _
      rw [hgs]
      simp only [getB]
      rcases hv with ⟨h1, h2, h3⟩ | ⟨h0, h⟩
      · have hn : num v = v.s.size := by unfold num; rw [if_neg (by omega), if_pos h1]
        rw [if_neg (by omega), if_pos (by omega), if_pos (by omega), hn, ← hs, str_bl]
        simp only [Option.some.injEq, Prod.mk.injEq]
        exact ⟨V.same h1.symm h2.symm rfl, by omega⟩
      · have he := size_e0.1 h0
        by_cases k0 : v.k = 0
        · have hn : ((num v : Nat) : Int) = zig v.n := by
            have := zig_rng hr.1 hr.2
            unfold num
            rw [if_pos k0]
            omega
          rw [if_pos (by omega), hn, zag_zig]
          simp only [Option.some.injEq, Prod.mk.injEq]
          exact ⟨V.same k0.symm rfl he.symm, by omega⟩
        · have hn : num v = v.n.toNat := by unfold num; rw [if_neg k0, if_neg (by omega)]
          rw [if_neg (by omega), if_neg (by omega), if_pos (by omega)]
          simp only [Option.some.injEq, Prod.mk.injEq]
          exact ⟨V.same hk.symm (by simp only; omega) he.symm, by omega⟩

theorem getP_iff {xs : List Int} (hb : ∀ x ∈ xs, (0 : Int) ≤ x ∧ x < 256) (v : V) (m : Nat) : getP xs = some (v, m) ↔ (Rng v ∧ May v ∧ m ≤ xs.length ∧ putV v = xs.take m) :=
  ⟨getP_some hb, fun h => getP_put hb h.1 h.2.1 h.2.2.1 h.2.2.2⟩

/-- What Get answers. -/
def gotP : Option (V × Nat) → V × Nat × Bool
  | some (v, m) => (v, m, true)
  | none => (⟨0, 0, e0⟩, 0, false)

/-- What Put answers: the bytes. -/
def pv (v : V) : List Int := if May v then putV v else []

theorem pv_bytes (v : V) : ∀ x ∈ pv v, (0 : Int) ≤ x ∧ x < 256 := by
  unfold pv
  split
  · exact putV_bytes (by assumption)
  · simp

theorem pv_len {v : V} (hr : Rng v) : (pv v).length ≤ 51 := by
  unfold pv
  split
  · exact (putV_len (by assumption) hr).2
  · simp

theorem putV_inj {a b : V} (ha : Rng a) (hb : Rng b) (ma : May a) (mb : May b) (h : putV a = putV b) : a = b := by
  have h1 := getP_put (putV_bytes ma) (m := (putV a).length) ha ma (Nat.le_refl _) (by rw [List.take_length])
  have h2 := getP_put (putV_bytes mb) (m := (putV b).length) hb mb (Nat.le_refl _) (by rw [List.take_length])
  rw [h, h2] at h1
  simp only [Option.some.injEq, Prod.mk.injEq] at h1
  exact h1.1.symm

/-- What is put is got, whatever stands behind. -/
theorem getP_app {v : V} (hr : Rng v) (hm : May v) (ys : List Int) (hb : ∀ x ∈ ys, (0 : Int) ≤ x ∧ x < 256) : getP (putV v ++ ys) = some (v, (putV v).length) := by
  refine getP_put ?_ hr hm (by simp) (by simp)
  intro x hx
  rcases List.mem_append.1 hx with h | h
  · exact putV_bytes hm x h
  · exact hb x h

/-- A beginning of a value's bytes is none. -/
theorem getP_cut {v : V} (hr : Rng v) (hm : May v) (k : Nat) (hk : k < (putV v).length) : getP ((putV v).take k) = none := by
  cases hg : getP ((putV v).take k) with
  | none => rfl
  | some p =>
    obtain ⟨u, m⟩ := p
    have hb : ∀ x ∈ (putV v).take k, (0 : Int) ≤ x ∧ x < 256 := fun x hx => putV_bytes hm x (List.mem_of_mem_take hx)
    obtain ⟨h1, h2, h3, h4⟩ := getP_some hb hg
    rw [List.length_take] at h3
    rw [List.take_take, Nat.min_eq_left (by omega)] at h4
    have h5 := getP_put (putV_bytes hm) h1 h2 (by omega) h4
    rw [getP_put (putV_bytes hm) (m := (putV v).length) hr hm (Nat.le_refl _) (by rw [List.take_length])] at h5
    simp only [Option.some.injEq, Prod.mk.injEq] at h5
    omega
end Go.Proofs.Ytochpomddfjkoaa.VaM
