/- le's Put as a slice of bytes; nothing is asked. -/
import Derived.Test.YtbmdkibmfkmjoaaGreatLeMem
import Derived.Test.YtbmdkibmfkmjoaaGreatSlB
namespace Go.Proofs.YtbmdkibmfkmjoaaGreat.Va
open Go.RowKit Go.Proofs.YtbmdkibmfkmjoaaGreat.BM Go.Proofs.YtbmdkibmfkmjoaaGreat.LM Go.Proofs.YtbmdkibmfkmjoaaGreat.LeM Go.Proofs.YtbmdkibmfkmjoaaGreat.LeP Go.Proofs.YtbmdkibmfkmjoaaGreat.LeG

/-- le's Put: where the bytes lie, and that they are owned. -/
def PutSl (n : Nat) (w : World) : Ending → World → Prop := fun e w' => ∃ A c, e = .returned (.slice A (putL n).length c) ∧ SlB w' A (putL n) c ∧ w'.ownsRow w.heap.size 5 1 (.slice A (putL n).length c) (putL n).length (cs (putL n)) ∧ Below w.heap.size w w'

theorem putSl_of {n : Nat} {w w' : World} {e : Ending} (h : Puts n w e w') : PutSl n w e w' := by
  obtain ⟨v, rfl, hown, hb⟩ := h
  obtain ⟨A, c, rfl, _, h1, _⟩ := own_slB hown (putL_bytes n)
  exact ⟨A, c, rfl, h1, hown, hb⟩

theorem Put_sl (n : Nat) (w : World) (hn : n < 18446744073709551616) : Calls Tryz.prog 48 #[.int .u64 n] w (PutSl n w) := (Put_any n w hn).mono fun _ _ h => putSl_of h

end Go.Proofs.YtbmdkibmfkmjoaaGreat.Va
