/- A string as a list of bytes; no program, nothing is asked. -/
import Derived.Test.YtochpomddfjkoaaCore
import Derived.Lib.AppendStr
namespace Go.Proofs.Ytochpomddfjkoaa.VaM
open Go.RowKit Go.Proofs.Ytochpomddfjkoaa.BM

/-- A string's bytes, as numbers. -/
def bl (s : ByteArray) : List Int := s.data.toList.map fun b => (b.toNat : Int)

theorem bl_len (s : ByteArray) : (bl s).length = s.size := by
  rw [bl, List.length_map, Array.length_toList]
  rfl

theorem bl_bytes (s : ByteArray) : ∀ x ∈ bl s, (0 : Int) ≤ x ∧ x < 256 := by
  intro x hx
  simp only [bl, List.mem_map] at hx
  obtain ⟨b, _, rfl⟩ := hx
  have := b.toNat_lt
  omega

theorem strOfNums_map' (l : List UInt8) : strOfNums (l.map fun b => (b.toNat : Int)) = ⟨l.toArray⟩ := by
  unfold strOfNums
  congr 2
  rw [List.map_map]
  conv => rhs; rw [← List.map_id l]
  apply List.map_congr_left
  intro b _
  simp

theorem str_bl (s : ByteArray) : strOfNums (bl s) = s := strOfNums_map' _

theorem bl_str {xs : List Int} (h : ∀ x ∈ xs, (0 : Int) ≤ x ∧ x < 256) : bl (strOfNums xs) = xs := str_inj (bl_bytes _) h (str_bl _)

theorem strCells_bl (s : ByteArray) : Lib.strCells s = cs (bl s) := by simp [Lib.strCells, cs, bl]

theorem size_str (xs : List Int) : (strOfNums xs).size = xs.length := by
  show (strOfNums xs).data.size = _
  simp [strOfNums]

/-- No bytes. -/
def e0 : ByteArray := ⟨#[]⟩
theorem e0_size : e0.size = 0 := rfl
theorem bl_e0 : bl e0 = [] := rfl
theorem size_e0 {s : ByteArray} : s.size = 0 ↔ s = e0 := by
  constructor
  · intro h
    apply ByteArray.ext
    exact Array.eq_empty_of_size_eq_zero h
  · rintro rfl
    rfl

theorem bl_app (s t : ByteArray) : bl (s ++ t) = bl s ++ bl t := by
  simp [bl, ByteArray.data_append]

theorem bl_cut (s : ByteArray) (k : Nat) : bl (s.extract 0 k) = (bl s).take k := by
  simp [bl, ByteArray.data_extract, List.map_take]

end Go.Proofs.Ytochpomddfjkoaa.VaM
