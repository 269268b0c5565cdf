/- Plain facts on checks (no program): a word stepped, eight times, by bytes; it is linear and injective; nothing is asked. -/
import Derived.Laws.BytesArg
namespace Go.Proofs.Ytofmgbncaokmdaa.CrcM

/-- A word stepped once. -/
def stepN (w : Nat) : Nat := if w % 2 = 1 then (w / 2) ^^^ 3988292384 else w / 2

/-- A word stepped some times. -/
def rep : Nat → Nat → Nat
  | 0, w => w
  | k + 1, w => stepN (rep k w)

def s8 (w : Nat) : Nat := rep 8 w

theorem xor_half (a b : Nat) : (a ^^^ b) / 2 = a / 2 ^^^ b / 2 := Nat.xor_div_two
theorem xor_par (a b : Nat) : (a ^^^ b) % 2 = (a % 2 + b % 2) % 2 := by
  have h := Nat.testBit_xor a b 0
  simp only [Nat.testBit_zero] at h
  by_cases ha : a % 2 = 1 <;> by_cases hb : b % 2 = 1
  all_goals
    have h2 : ((a ^^^ b) % 2 = 1) ↔ ((decide (a % 2 = 1) ^^ decide (b % 2 = 1)) = true) := by rw [← h, decide_eq_true_eq]
    first | rw [decide_eq_true ha, decide_eq_true hb] at h2 | rw [decide_eq_true ha, decide_eq_false hb] at h2 | rw [decide_eq_false ha, decide_eq_true hb] at h2 | rw [decide_eq_false ha, decide_eq_false hb] at h2
    have h3 : (a ^^^ b) % 2 = 1 ∨ (a ^^^ b) % 2 = 0 := by omega
    rcases h3 with h3 | h3 <;> simp [h3] at h2 <;> omega

theorem xcancel (a p : Nat) : a ^^^ p ^^^ p = a := by rw [Nat.xor_assoc, Nat.xor_self, Nat.xor_zero]

theorem step_xor (a b : Nat) : stepN (a ^^^ b) = stepN a ^^^ stepN b := by
  unfold stepN
  rw [xor_par, xor_half]
  by_cases ha : a % 2 = 1 <;> by_cases hb : b % 2 = 1
  · rw [if_neg (by omega), if_pos ha, if_pos hb]
    rw [Nat.xor_comm (b / 2) 3988292384, ← Nat.xor_assoc, xcancel]
  · rw [if_pos (by omega), if_pos ha, if_neg hb]
    rw [Nat.xor_assoc, Nat.xor_comm (b / 2), ← Nat.xor_assoc]
  · rw [if_pos (by omega), if_neg ha, if_pos hb, Nat.xor_assoc]
  · rw [if_neg (by omega), if_neg ha, if_neg hb]

theorem xor_lt {a b : Nat} (ha : a < 4294967296) (hb : b < 4294967296) : a ^^^ b < 4294967296 := Nat.xor_lt_two_pow (n := 32) (by omega) (by omega)

theorem step_lt {w : Nat} (h : w < 4294967296) : stepN w < 4294967296 := by
  unfold stepN
  split
  · exact xor_lt (by omega) (by decide)
  · omega

/-- Stepped to nothing is nothing. -/
theorem step_zero {w : Nat} (h : w < 4294967296) (e : stepN w = 0) : w = 0 := by
  unfold stepN at e
  split at e
  · have h1 : w / 2 = 3988292384 := by
      have h2 := congrArg (· ^^^ 3988292384) e
      simp only [xcancel] at h2
      simpa using h2
    omega
  · omega

theorem rep_xor (a b : Nat) : ∀ k, rep k (a ^^^ b) = rep k a ^^^ rep k b
  | 0 => rfl
  | k + 1 => by rw [rep, rep_xor a b k, step_xor]; rfl

theorem rep_lt {w : Nat} (h : w < 4294967296) : ∀ k, rep k w < 4294967296
  | 0 => h
  | k + 1 => step_lt (rep_lt h k)

theorem rep_zero {w : Nat} (h : w < 4294967296) : ∀ k, rep k w = 0 → w = 0
  | 0, e => e
  | k + 1, e => rep_zero h k (step_zero (rep_lt h k) e)

theorem s8_xor (a b : Nat) : s8 (a ^^^ b) = s8 a ^^^ s8 b := rep_xor a b 8
theorem s8_lt {w : Nat} (h : w < 4294967296) : s8 w < 4294967296 := rep_lt h 8

theorem xor_eq {a b : Nat} (h : a ^^^ b = 0) : a = b := by
  have h1 := congrArg (· ^^^ b) h
  simp only [xcancel] at h1
  simpa using h1

theorem s8_inj {a b : Nat} (ha : a < 4294967296) (hb : b < 4294967296) (h : s8 a = s8 b) : a = b := by
  refine xor_eq (rep_zero (xor_lt ha hb) 8 ?_)
  show s8 (a ^^^ b) = 0
  rw [s8_xor, h, Nat.xor_self]

theorem step_two (u : Nat) : stepN (2 * u) = u := by
  unfold stepN
  rw [if_neg (by omega)]
  omega

theorem s8_up (u : Nat) : s8 (u * 256) = u := by
  show stepN (stepN (stepN (stepN (stepN (stepN (stepN (stepN (u * 256)))))))) = u
  rw [show u * 256 = 2 * (2 * (2 * (2 * (2 * (2 * (2 * (2 * u))))))) from by omega]
  simp only [step_two]

theorem split256 (w : Nat) : w = (w / 256 * 256) ^^^ (w % 256) := by
  apply Nat.eq_of_testBit_eq
  intro i
  rw [Nat.testBit_xor, show (256 : Nat) = 2 ^ 8 from rfl, Nat.testBit_mod_two_pow, Nat.testBit_mul_two_pow, Nat.testBit_div_two_pow]
  by_cases h : i < 8
  · simp [h, Nat.not_le.2 h]
  · simp [h, Nat.not_lt.1 h]

/-- The program's way to take a byte. -/
theorem take_byte (w x : Nat) : s8 (w ^^^ x) = (w / 256) ^^^ s8 ((w % 256) ^^^ x) := by
  conv => lhs; rw [split256 w]
  rw [Nat.xor_assoc, s8_xor, s8_up]

/-- Bytes taken, one by one. -/
def fold (w : Nat) : List Int → Nat
  | [] => w
  | x :: r => fold (s8 (w ^^^ x.toNat)) r

def Bytes (xs : List Int) : Prop := ∀ x ∈ xs, (0 : Int) ≤ x ∧ x < 256

theorem Bytes.head {x : Int} {r : List Int} (h : Bytes (x :: r)) : x.toNat < 256 := by have := h x (by simp); omega
theorem Bytes.tail {x : Int} {r : List Int} (h : Bytes (x :: r)) : Bytes r := fun y hy => h y (by simp [hy])

theorem taken_lt {w : Nat} {x : Nat} (h : w < 4294967296) (hx : x < 256) : s8 (w ^^^ x) < 4294967296 := s8_lt (xor_lt h (by omega))

theorem fold_lt : ∀ (xs : List Int) {w : Nat}, w < 4294967296 → Bytes xs → fold w xs < 4294967296
  | [], _, h, _ => h
  | _ :: r, _, h, hb => fold_lt r (taken_lt h hb.head) hb.tail

theorem fold_append : ∀ (xs ys : List Int) (w : Nat), fold w (xs ++ ys) = fold (fold w xs) ys
  | [], _, _ => rfl
  | _ :: r, ys, _ => fold_append r ys _

theorem fold_snoc (xs : List Int) (x : Int) (w : Nat) : fold w (xs ++ [x]) = s8 (fold w xs ^^^ x.toNat) := by rw [fold_append]; rfl

theorem fold_inj : ∀ (xs : List Int) {w v : Nat}, w < 4294967296 → v < 4294967296 → Bytes xs → fold w xs = fold v xs → w = v
  | [], _, _, _, _, _, h => h
  | x :: r, w, v, hw, hv, hb, h => by
    have hx := hb.head
    have h1 := s8_inj (xor_lt hw (by omega)) (xor_lt hv (by omega)) (fold_inj r (taken_lt hw hx) (taken_lt hv hx) hb.tail h)
    have h2 := congrArg (· ^^^ x.toNat) h1
    simpa only [xcancel] using h2

/-- Each bit turned. -/
def inv (s : Nat) : Nat := 4294967295 - s
theorem inv_lt (s : Nat) : inv s < 4294967296 := by unfold inv; omega
theorem inv_inv {s : Nat} (h : s < 4294967296) : inv (inv s) = s := by unfold inv; omega
theorem inv_xor {s : Nat} (h : s < 4294967296) : s ^^^ 4294967295 = inv s := by
  have e : (BitVec.ofNat 32 s ^^^ BitVec.allOnes 32).toNat = (~~~ BitVec.ofNat 32 s).toNat := by rw [BitVec.xor_allOnes]
  rw [BitVec.toNat_xor, BitVec.toNat_not, BitVec.toNat_ofNat, BitVec.toNat_allOnes, Nat.mod_eq_of_lt (by omega)] at e
  exact e

/-- The check of some bytes and more behind them. -/
def next (s : Nat) (xs : List Int) : Nat := inv (fold (inv s) xs)
theorem next_lt (s : Nat) (xs : List Int) : next s xs < 4294967296 := inv_lt _
theorem next_nil {s : Nat} (h : s < 4294967296) : next s [] = s := inv_inv h
theorem next_append (s : Nat) (xs ys : List Int) (hx : Bytes xs) : next s (xs ++ ys) = next (next s xs) ys := by
  unfold next
  rw [fold_append, inv_inv (fold_lt xs (inv_lt _) hx)]
theorem next_inj {a b : Nat} {xs : List Int} (ha : a < 4294967296) (hb : b < 4294967296) (h : Bytes xs) (e : next a xs = next b xs) : a = b := by
  have h1 : fold (inv a) xs = fold (inv b) xs := by
    have h2 := congrArg inv e
    unfold next at h2
    rwa [inv_inv (fold_lt xs (inv_lt _) h), inv_inv (fold_lt xs (inv_lt _) h)] at h2
  have h2 := fold_inj xs (inv_lt _) (inv_lt _) h h1
  unfold inv at h2
  omega

/-- One place turned. -/
theorem next_one {s : Nat} {p r : List Int} {x c : Int} (_hs : s < 4294967296) (hp : Bytes p) (hr : Bytes r) (hx : 0 ≤ x ∧ x < 256) (hc : 0 ≤ c ∧ c < 256) (e : next s (p ++ c :: r) = next s (p ++ x :: r)) : c = x := by
  rw [next_append s p _ hp, next_append s p _ hp] at e
  have hn := next_lt s p
  generalize next s p = t at e hn
  have h1 : fold (inv t) (c :: r) = fold (inv t) (x :: r) := by
    have h2 := congrArg inv e
    unfold next at h2
    have b1 : Bytes (c :: r) := fun y hy => by rcases List.mem_cons.1 hy with rfl | h; exact hc; exact hr y h
    have b2 : Bytes (x :: r) := fun y hy => by rcases List.mem_cons.1 hy with rfl | h; exact hx; exact hr y h
    rwa [inv_inv (fold_lt _ (inv_lt _) b1), inv_inv (fold_lt _ (inv_lt _) b2)] at h2
  have h2 := fold_inj r (taken_lt (inv_lt t) (by omega)) (taken_lt (inv_lt t) (by omega)) hr h1
  have h3 := s8_inj (xor_lt (inv_lt t) (by omega)) (xor_lt (inv_lt t) (by omega)) h2
  have h4 := congrArg (inv t ^^^ ·) h3
  simp only [← Nat.xor_assoc, Nat.xor_self, Nat.zero_xor] at h4
  omega

theorem s8_self : ∀ d : Fin 256, s8 d.val = d.val → d.val = 0 := by decide +kernel

/-- Two neighbours the other way. -/
theorem next_swap {s : Nat} {p r : List Int} {x y : Int} (_hs : s < 4294967296) (hp : Bytes p) (hr : Bytes r) (hx : 0 ≤ x ∧ x < 256) (hy : 0 ≤ y ∧ y < 256) (e : next s (p ++ y :: x :: r) = next s (p ++ x :: y :: r)) : x = y := by
  rw [next_append s p _ hp, next_append s p _ hp] at e
  have hn := next_lt s p
  generalize next s p = t at e hn
  have h1 : fold (inv t) (y :: x :: r) = fold (inv t) (x :: y :: r) := by
    have h2 := congrArg inv e
    unfold next at h2
    have b1 : Bytes (y :: x :: r) := fun z hz => by
      rcases List.mem_cons.1 hz with rfl | h
      · exact hy
      · rcases List.mem_cons.1 h with rfl | h
        · exact hx
        · exact hr z h
    have b2 : Bytes (x :: y :: r) := fun z hz => by
      rcases List.mem_cons.1 hz with rfl | h
      · exact hx
      · rcases List.mem_cons.1 h with rfl | h
        · exact hy
        · exact hr z h
    rwa [inv_inv (fold_lt _ (inv_lt _) b1), inv_inv (fold_lt _ (inv_lt _) b2)] at h2
  have t1 := taken_lt (inv_lt t) (show y.toNat < 256 by omega)
  have t2 := taken_lt (inv_lt t) (show x.toNat < 256 by omega)
  have h2 := fold_inj r (taken_lt t1 (show x.toNat < 256 by omega)) (taken_lt t2 (show y.toNat < 256 by omega)) hr h1
  have h3 := s8_inj (xor_lt t1 (by omega)) (xor_lt t2 (by omega)) h2
  rw [s8_xor, s8_xor] at h3
  have h4 : s8 y.toNat ^^^ x.toNat = s8 x.toNat ^^^ y.toNat := by
    have h5 := congrArg (s8 (inv t) ^^^ ·) h3
    simpa only [← Nat.xor_assoc, Nat.xor_self, Nat.zero_xor] using h5
  have h6 : s8 (x.toNat ^^^ y.toNat) = x.toNat ^^^ y.toNat := by
    rw [s8_xor]
    have h7 := congrArg (fun z => z ^^^ s8 x.toNat ^^^ x.toNat) h4
    have h8 : s8 x.toNat ^^^ y.toNat ^^^ s8 x.toNat ^^^ x.toNat = x.toNat ^^^ y.toNat := by
      rw [Nat.xor_comm (s8 x.toNat) y.toNat, xcancel, Nat.xor_comm]
    have h9 : s8 y.toNat ^^^ x.toNat ^^^ s8 x.toNat ^^^ x.toNat = s8 x.toNat ^^^ s8 y.toNat := by
      rw [Nat.xor_assoc (s8 y.toNat), Nat.xor_comm x.toNat (s8 x.toNat), ← Nat.xor_assoc (s8 y.toNat), xcancel, Nat.xor_comm]
    rw [← h8, ← h9]
    exact h7
  have h10 : x.toNat ^^^ y.toNat < 256 := Nat.xor_lt_two_pow (n := 8) (by omega) (by omega)
  have h11 := s8_self ⟨_, h10⟩ h6
  have h12 := xor_eq h11
  omega

/-- What an odd number of three lists has, place by place. -/
def odd3 : List Int → List Int → List Int → List Int
  | x :: a, y :: b, z :: c => ((x.toNat ^^^ y.toNat ^^^ z.toNat : Nat) : Int) :: odd3 a b c
  | _, _, _ => []

theorem xor3_swap (u v w a b c : Nat) : (u ^^^ v ^^^ w) ^^^ (a ^^^ b ^^^ c) = (u ^^^ a) ^^^ (v ^^^ b) ^^^ (w ^^^ c) := by
  apply Nat.eq_of_testBit_eq
  intro i
  simp only [Nat.testBit_xor]
  cases u.testBit i <;> cases v.testBit i <;> cases w.testBit i <;> cases a.testBit i <;> cases b.testBit i <;> cases c.testBit i <;> rfl

theorem fold3 : ∀ (a b c : List Int) (u v w : Nat), b.length = a.length → c.length = a.length → fold (u ^^^ v ^^^ w) (odd3 a b c) = fold u a ^^^ fold v b ^^^ fold w c
  | [], [], [], _, _, _, _, _ => rfl
  | x :: a, y :: b, z :: c, u, v, w, h1, h2 => by
    have ih := fold3 a b c (s8 (u ^^^ x.toNat)) (s8 (v ^^^ y.toNat)) (s8 (w ^^^ z.toNat)) (by simpa using h1) (by simpa using h2)
    show fold (s8 ((u ^^^ v ^^^ w) ^^^ (((x.toNat ^^^ y.toNat ^^^ z.toNat : Nat) : Int)).toNat)) (odd3 a b c) = _
    rw [Int.toNat_natCast, xor3_swap, s8_xor, s8_xor]
    exact ih
  | [], _ :: _, _, _, _, _, h1, _ => by simp at h1
  | _ :: _, [], _, _, _, _, h1, _ => by simp at h1
  | [], _, _ :: _, _, _, _, _, h2 => by simp at h2
  | _ :: _, _, [], _, _, _, _, h2 => by simp at h2

theorem inv3 {a b c : Nat} (ha : a < 4294967296) (hb : b < 4294967296) (hc : c < 4294967296) : inv (a ^^^ b ^^^ c) = inv a ^^^ inv b ^^^ inv c := by
  rw [← inv_xor (xor_lt (xor_lt ha hb) hc), ← inv_xor ha, ← inv_xor hb, ← inv_xor hc]
  have h := xor3_swap a b c 4294967295 4294967295 4294967295
  rw [Nat.xor_self, Nat.zero_xor] at h
  exact h

theorem next3 {a b c : List Int} (hb : b.length = a.length) (hc : c.length = a.length) (ba : Bytes a) (bb : Bytes b) (bc : Bytes c) : next 0 (odd3 a b c) = next 0 a ^^^ next 0 b ^^^ next 0 c := by
  unfold next
  have h := fold3 a b c (inv 0) (inv 0) (inv 0) hb hc
  rw [Nat.xor_self, Nat.zero_xor] at h
  rw [h]
  exact inv3 (fold_lt a (inv_lt _) ba) (fold_lt b (inv_lt _) bb) (fold_lt c (inv_lt _) bc)
end Go.Proofs.Ytofmgbncaokmdaa.CrcM
