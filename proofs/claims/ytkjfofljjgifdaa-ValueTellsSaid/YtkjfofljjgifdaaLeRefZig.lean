/- Zig and Zag of the document's answers: what they answer, at every number of their types; nothing is asked. -/
import Derived.Test.YtkjfofljjgifdaaLeZig
namespace Go.Proofs.Ytkjfofljjgifdaa.LeZ
open Go.RowKit Go.Proofs.Ytkjfofljjgifdaa.BM

theorem refZig_any (n : Int) (w : World) (h0 : -9223372036854775808 ≤ n) (h1 : n ≤ 9223372036854775807) :
    Calls Try.prog 22 #[.int .i64 n] w fun e w' => e = .returned (.int .u64 (zig n)) ∧ w = w' := by
  by_cases h : n < 0
  · go_enter Try.func22, Try.ntmps22
    go_wp2
    go_ret
    refine ⟨ret_int ?_, rfl⟩
    simp only [zig]
    rw [if_pos (by omega)]
    omega
  · go_enter Try.func22, Try.ntmps22
    go_wp2
    go_ret
    refine ⟨ret_int ?_, rfl⟩
    simp only [zig]
    rw [if_neg (by omega)]

theorem refZag_any (n : Int) (w : World) (h0 : 0 ≤ n) (h1 : n ≤ 18446744073709551615) :
    Calls Try.prog 27 #[.int .u64 n] w fun e w' => e = .returned (.int .i64 (zag n)) ∧ w = w' := by
  by_cases h : n % 2 = 1
  · have h2 : ¬ n % 2 = 0 := by omega
    go_enter Try.func27, Try.ntmps27
    go_wp2
    go_ret
    refine ⟨ret_int ?_, rfl⟩
    simp only [zag]
    rw [if_pos h]
  · have h2 : n % 2 = 0 := by omega
    go_enter Try.func27, Try.ntmps27
    go_wp2
    go_ret
    refine ⟨ret_int ?_, rfl⟩
    simp only [zag]
    rw [if_neg (by omega)]
end Go.Proofs.Ytkjfofljjgifdaa.LeZ
