/- Bytes in memory: what is owned, what is kept, what a conversion to a string gives; nothing is asked. -/
import Derived.Test.YtbmdkibmfkmjoaaGreatLeGet
namespace Go.Proofs.YtbmdkibmfkmjoaaGreat.LeG
open Go.RowKit Go.Proofs.YtbmdkibmfkmjoaaGreat.LeM Go.Proofs.YtbmdkibmfkmjoaaGreat.LeZ Go.Proofs.YtbmdkibmfkmjoaaGreat.LeP Go.Proofs.YtbmdkibmfkmjoaaGreat.BM

/-- What Put leaves, for whoever goes on: where the bytes lie. -/
theorem Put_mem (n : Nat) (w : World) (hn : n < 18446744073709551616) :
    Calls Tryz.prog 48 #[.int .u64 n] w fun e w' => ∃ g cap, e = .returned (.slice (some ⟨g, 0, none⟩) (putL n).length cap) ∧ w.heap.size ≤ g ∧ g < w'.heap.size ∧ (putL n).length ≤ cap ∧
      IsB w' (some ⟨g, 0, none⟩) (putL n) ∧ w'.ownsRow w.heap.size 5 1 (.slice (some ⟨g, 0, none⟩) (putL n).length cap) (putL n).length (cs (putL n)) ∧ Below w.heap.size w w' := by
  refine (Put_any n w hn).mono ?_
  rintro e w' ⟨v, rfl, hown, hb⟩
  obtain ⟨g, cap, rfl, _, h1, h2, h3, h4⟩ := isB_own hown (putL_bytes n) (putL_pos n)
  exact ⟨g, cap, rfl, h1, h2, h3, h4, hown, hb⟩

theorem last_lt : ∀ n, 0 ≤ (putL n).getD ((putL n).length - 1) 0 ∧ (putL n).getD ((putL n).length - 1) 0 < 128 := by
  refine put_ind ?_ ?_
  · intro n h
    rw [putL_lt h]
    simp
    omega
  · intro n h ih
    rw [putL_ge h, List.length_cons]
    have hp := putL_pos (n / 128)
    rw [show (putL (n / 128)).length + 1 - 1 = ((putL (n / 128)).length - 1) + 1 from by omega, List.getD_cons_succ]
    exact ih
end Go.Proofs.YtbmdkibmfkmjoaaGreat.LeG
