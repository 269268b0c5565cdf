/- Zig and Zag of the program: what they answer, at every number of their types; nothing is asked. -/
import Derived.Test.YtkjfofljjgifdaaBMem
namespace Go.Proofs.Ytkjfofljjgifdaa.LeZ
open Go.RowKit Go.Proofs.Ytkjfofljjgifdaa.BM

def zig (n : Int) : Int := if n < 0 then -2 * n - 1 else 2 * n
def zag (n : Int) : Int := if n % 2 = 1 then -(n / 2) - 1 else n / 2

theorem zig_rng {n : Int} (h0 : -9223372036854775808 ≤ n) (h1 : n ≤ 9223372036854775807) : 0 ≤ zig n ∧ zig n ≤ 18446744073709551615 := by
  unfold zig; split <;> omega
theorem zag_rng {n : Int} (h0 : 0 ≤ n) (h1 : n ≤ 18446744073709551615) : -9223372036854775808 ≤ zag n ∧ zag n ≤ 9223372036854775807 := by
  unfold zag; split <;> omega
theorem zag_zig (n : Int) : zag (zig n) = n := by unfold zag zig; split <;> split <;> omega
theorem zig_zag {n : Int} (h0 : 0 ≤ n) : zig (zag n) = n := by unfold zag zig; split <;> split <;> omega

theorem Zig_any (n : Int) (w : World) (h0 : -9223372036854775808 ≤ n) (h1 : n ≤ 9223372036854775807) :
    Calls Try.prog 30 #[.int .i64 n] w fun e w' => e = .returned (.int .u64 (zig n)) ∧ w = w' := by
  by_cases h : n < 0
  · go_enter Try.func30, Try.ntmps30
    go_wp2
    go_ret
    refine ⟨ret_int ?_, rfl⟩
    simp only [IntKind.wrap_u64, zig]
    rw [if_pos h]
    omega
  · go_enter Try.func30, Try.ntmps30
    go_wp2
    go_ret
    refine ⟨ret_int ?_, rfl⟩
    simp only [zig]
    rw [if_neg (by omega)]

theorem Zag_any (n : Int) (w : World) (h0 : 0 ≤ n) (h1 : n ≤ 18446744073709551615) :
    Calls Try.prog 31 #[.int .u64 n] w fun e w' => e = .returned (.int .i64 (zag n)) ∧ w = w' := by
  by_cases h : n % 2 = 1
  · go_enter Try.func31, Try.ntmps31
    go_wp2
    go_ret
    refine ⟨ret_int ?_, rfl⟩
    simp only [zag]
    rw [if_pos h]
  · go_enter Try.func31, Try.ntmps31
    go_wp2
    go_ret
    refine ⟨ret_int ?_, rfl⟩
    simp only [zag]
    rw [if_neg h]
end Go.Proofs.Ytkjfofljjgifdaa.LeZ
