/- Next and Of of the program of any bytes that came in, in whatever world comes later; asked: a slice reads as bytes. -/
import Derived.Test.YtofmgbncaokmdaaCrcNext
namespace Go.Proofs.Ytofmgbncaokmdaa.Crc
open Go.RowKit Go.Proofs.Ytofmgbncaokmdaa.CrcM Go.Proofs.Ytofmgbncaokmdaa.BM

/-- Next of the program of any bytes that came in, in whatever world comes later. -/
theorem Next_later (n : Nat) (a : Option Addr) (xs : List Int) (len cap : Nat) (w : World) (hn : n < 4294967296) (hl : xs.length = len) (hm : len ≤ 9223372036854775807) (hB : IsB w a xs) :
    ∀ W, Below w.heap.size w W → Calls Try.prog 30 #[.int .u32 (n : Int), .slice a len cap] W fun e w' => e = .returned (.int .u32 ((next n xs : Nat) : Int)) ∧ Below W.heap.size W w' := by
  subst hl
  intro W h
  exact Next_any n a xs cap W hn hm (isB_kept hB h)

theorem Of_later (a : Option Addr) (xs : List Int) (len cap : Nat) (w : World) (hl : xs.length = len) (hm : len ≤ 9223372036854775807) (hB : IsB w a xs) :
    ∀ W, Below w.heap.size w W → Calls Try.prog 20 #[.slice a len cap] W fun e w' => e = .returned (.int .u32 ((next 0 xs : Nat) : Int)) ∧ Below W.heap.size W w' := by
  subst hl
  intro W h
  exact Of_any a xs cap W hm (isB_kept hB h)

theorem isB_none (w : World) : IsB w none [] := ⟨by simp, fun h => by simp at h⟩
end Go.Proofs.Ytofmgbncaokmdaa.Crc
