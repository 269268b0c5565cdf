/- A step as a value; an empty string; no function of the program; nothing is asked. -/
import Derived.Test.YtbmdkibmfkmjoaaGreatStepRow
import Derived.Test.YtbmdkibmfkmjoaaGreatStrCore
namespace Go.Proofs.YtbmdkibmfkmjoaaGreat.Qy
open Go.RowKit Go.Proofs.YtbmdkibmfkmjoaaGreat.BM Go.Proofs.YtbmdkibmfkmjoaaGreat.LM Go.Proofs.YtbmdkibmfkmjoaaGreat.VaM Go.Proofs.YtbmdkibmfkmjoaaGreat.ExM Go.Proofs.YtbmdkibmfkmjoaaGreat.QyM
open Go.Proofs.YtbmdkibmfkmjoaaGreat.Va (ret_v str_e0)

/-- A step, as a value of the program. -/
def agSt (x : St) (A : Option Addr) (c : Nat) (B : Option Addr) (d : Nat) : Value := .agg #[.string x.s, .slice A x.f.length c, .int .i64 x.lo, .int .i64 x.hi, .bool x.g, .string x.t, .slice B x.h.length d]

theorem e0_iff (s : ByteArray) : s.toList.isEmpty = decide (s = e0) := by
  by_cases h : s.size = 0
  · obtain rfl : s = e0 := by
      cases s with
      | mk d => rw [show d = #[] from Array.eq_empty_of_size_eq_zero h]; rfl
    rw [decide_eq_true rfl]
    show (ByteArray.mk #[]).toList.isEmpty = true
    rw [ByteArray.toList_eq]
    rfl
  · rw [str_e0 h, decide_eq_false (fun e => h (by rw [e]; rfl))]
theorem bx7 {w : World} {b : Nat} {v0 v1 v2 v3 v4 v5 v6 : Value} (h : RG.BxN w b [v0, v1, v2, v3, v4, v5, v6]) : w.cell? ⟨b, 0, none⟩ = some v0 ∧ w.cell? ⟨b, 1, none⟩ = some v1 ∧ w.cell? ⟨b, 2, none⟩ = some v2 ∧ w.cell? ⟨b, 3, none⟩ = some v3 ∧ w.cell? ⟨b, 4, none⟩ = some v4 ∧ w.cell? ⟨b, 5, none⟩ = some v5 ∧ w.cell? ⟨b, 6, none⟩ = some v6 :=
  ⟨(h 0 _ rfl).1, (h 1 _ rfl).1, (h 2 _ rfl).1, (h 3 _ rfl).1, (h 4 _ rfl).1, (h 5 _ rfl).1, (h 6 _ rfl).1⟩
theorem bx7_lt {w : World} {b : Nat} {v0 v1 v2 v3 v4 v5 v6 : Value} (h : RG.BxN w b [v0, v1, v2, v3, v4, v5, v6]) : b < w.heap.size := RG.BxN.lt h (show 0 < 7 by decide)
theorem bx5 {w : World} {b : Nat} {v0 v1 v2 v3 v4 : Value} (h : RG.BxN w b [v0, v1, v2, v3, v4]) : w.cell? ⟨b, 0, none⟩ = some v0 ∧ w.cell? ⟨b, 1, none⟩ = some v1 ∧ w.cell? ⟨b, 2, none⟩ = some v2 ∧ w.cell? ⟨b, 3, none⟩ = some v3 ∧ w.cell? ⟨b, 4, none⟩ = some v4 :=
  ⟨(h 0 _ rfl).1, (h 1 _ rfl).1, (h 2 _ rfl).1, (h 3 _ rfl).1, (h 4 _ rfl).1⟩
end Go.Proofs.YtbmdkibmfkmjoaaGreat.Qy
