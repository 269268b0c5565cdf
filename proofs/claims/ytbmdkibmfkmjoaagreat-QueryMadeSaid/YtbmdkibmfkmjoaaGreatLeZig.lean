/- Zig and Zag of the program: what they answer, at every number of their types; nothing is asked. -/
import Derived.Test.YtbmdkibmfkmjoaaGreatLeZigMath
namespace Go.Proofs.YtbmdkibmfkmjoaaGreat.LeZ
open Go.RowKit Go.Proofs.YtbmdkibmfkmjoaaGreat.BM

theorem Zig_any (n : Int) (w : World) (h0 : -9223372036854775808 ≤ n) (h1 : n ≤ 9223372036854775807) :
    Calls Tryz.prog 130 #[.int .i64 n] w fun e w' => e = .returned (.int .u64 (zig n)) ∧ w = w' := by
  by_cases h : n < 0
  · go_enter Tryz.func130, Tryz.ntmps130
    go_wp2
    go_ret
    refine ⟨ret_int ?_, rfl⟩
    simp only [IntKind.wrap_u64, zig]
    rw [if_pos h]
    omega
  · go_enter Tryz.func130, Tryz.ntmps130
    go_wp2
    go_ret
    refine ⟨ret_int ?_, rfl⟩
    simp only [zig]
    rw [if_neg (by omega)]

theorem Zag_any (n : Int) (w : World) (h0 : 0 ≤ n) (h1 : n ≤ 18446744073709551615) :
    Calls Tryz.prog 139 #[.int .u64 n] w fun e w' => e = .returned (.int .i64 (zag n)) ∧ w = w' := by
  by_cases h : n % 2 = 1
  · go_enter Tryz.func139, Tryz.ntmps139
    go_wp2
    go_ret
    refine ⟨ret_int ?_, rfl⟩
    simp only [zag]
    rw [if_pos h]
  · go_enter Tryz.func139, Tryz.ntmps139
    go_wp2
    go_ret
    refine ⟨ret_int ?_, rfl⟩
    simp only [zag]
    rw [if_neg h]
end Go.Proofs.YtbmdkibmfkmjoaaGreat.LeZ
