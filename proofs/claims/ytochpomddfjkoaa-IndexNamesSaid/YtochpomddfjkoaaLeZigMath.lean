/- Zig and Zag as plain numbers; no program, nothing is asked. -/
import Derived.Test.YtochpomddfjkoaaCore
namespace Go.Proofs.Ytochpomddfjkoaa.LeZ

def zig (n : Int) : Int := if n < 0 then -2 * n - 1 else 2 * n
def zag (n : Int) : Int := if n % 2 = 1 then -(n / 2) - 1 else n / 2

theorem zig_rng {n : Int} (h0 : -9223372036854775808 ≤ n) (h1 : n ≤ 9223372036854775807) : 0 ≤ zig n ∧ zig n ≤ 18446744073709551615 := by
  unfold zig; split <;> omega
theorem zag_rng {n : Int} (h0 : 0 ≤ n) (h1 : n ≤ 18446744073709551615) : -9223372036854775808 ≤ zag n ∧ zag n ≤ 9223372036854775807 := by
  unfold zag; split <;> omega
theorem zag_zig (n : Int) : zag (zig n) = n := by unfold zag zig; split <;> split <;> omega
theorem zig_zag {n : Int} (h0 : 0 ≤ n) : zig (zag n) = n := by unfold zag zig; split <;> split <;> omega

end Go.Proofs.Ytochpomddfjkoaa.LeZ
