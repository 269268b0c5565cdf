/- The order of strings, byte by byte; no function of the program; nothing is asked. -/
import Derived.Test.YtochpomddfjkoaaValueLess
namespace Go.Proofs.Ytochpomddfjkoaa.Va
open Go.RowKit Go.Proofs.Ytochpomddfjkoaa.BM Go.Proofs.Ytochpomddfjkoaa.VaM

/-- Bytes, one by one. -/
def bls : List Int → List Int → Bool
  | _, [] => false
  | [], _ :: _ => true
  | a :: x, b :: y => decide (a < b) || (a == b && bls x y)

theorem bls_map : ∀ x y : List UInt8, Op.bytesLess x y = bls (x.map fun b => (b.toNat : Int)) (y.map fun b => (b.toNat : Int))
  | _, [] => by cases ‹List UInt8› <;> rfl
  | [], _ :: _ => rfl
  | a :: x, b :: y => by
    simp only [Op.bytesLess, List.map_cons, bls]
    rw [bls_map x y]
    congr 1
    · rw [decide_eq_decide, UInt8.lt_iff_toNat_lt]
      omega
    · congr 1
      rw [Bool.eq_iff_iff]
      simp only [beq_iff_eq]
      constructor
      · rintro rfl
        rfl
      · intro h
        exact UInt8.toNat_inj.1 (by omega)

theorem bls_bl (s t : ByteArray) : Op.bytesLess s.toList t.toList = bls (bl s) (bl t) := by
  rw [ByteArray.toList_eq, ByteArray.toList_eq]
  exact bls_map _ _

theorem bls_same : ∀ (p x y : List Int), bls (p ++ x) (p ++ y) = bls x y
  | [], _, _ => rfl
  | a :: p, x, y => by
    simp only [List.cons_append, bls]
    rw [bls_same p x y]
    simp

theorem bls_self (x : List Int) : bls x x = false := by
  have h := bls_same x [] []
  simpa [bls] using h

/-- Two strings that agree on j bytes, from there on. -/
theorem bls_at {x y : List Int} {j : Nat} (h : x.take j = y.take j) : bls x y = bls (x.drop j) (y.drop j) := by
  conv => lhs; rw [← List.take_append_drop j x, ← List.take_append_drop j y, h]
  exact bls_same _ _ _

theorem bls_end {x y : List Int} {j : Nat} (h : x.take j = y.take j) (hy : j = y.length) : bls x y = false := by
  rw [bls_at h, List.drop_of_length_le (l := y) (Nat.le_of_eq hy.symm)]
  cases x.drop j <;> rfl

theorem bls_short {x y : List Int} {j : Nat} (h : x.take j = y.take j) (hx : j = x.length) (hy : j < y.length) : bls x y = true := by
  rw [bls_at h, List.drop_of_length_le (l := x) (Nat.le_of_eq hx.symm), drop_consB y j hy]
  rfl

theorem bls_here {x y : List Int} {j : Nat} (h : x.take j = y.take j) (hx : j < x.length) (hy : j < y.length) (hn : x.getD j 0 ≠ y.getD j 0) : bls x y = decide (x.getD j 0 < y.getD j 0) := by
  rw [bls_at h, drop_consB x j hx, drop_consB y j hy]
  simp only [bls]
  rw [show (x.getD j 0 == y.getD j 0) = false from by rw [beq_eq_false_iff_ne]; exact hn]
  simp
end Go.Proofs.Ytochpomddfjkoaa.Va
