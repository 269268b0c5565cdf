/- Strings in the program: an append; no function of the program; nothing is asked. -/
import Derived.Test.YtbmdkibmfkmjoaaGreatStrCore
import Derived.Test.YtbmdkibmfkmjoaaGreatSlB
namespace Go.Proofs.YtbmdkibmfkmjoaaGreat.Va
open Go.RowKit Go.Proofs.YtbmdkibmfkmjoaaGreat.BM Go.Proofs.YtbmdkibmfkmjoaaGreat.LM Go.Proofs.YtbmdkibmfkmjoaaGreat.VaM

/-- append of a string onto bytes that are owned. -/
theorem wp_append_s {w : World} {ops : Array Oper} {rest : List Oper} {o : Oper} {a : Act} {Q : Exit → Act → World → Prop} (hgd : o.guard = none) (s x : Operand) (u : TypeId) (hu : Tryz.prog.underlying u = some .string)
    (ho : o.op = .call { callee := .builtin .append, args := #[s, x], argTypes := #[26, u] })
    (base : Nat) (v : Value) (n : Nat) (xs : List Int) (hs : a.eval s = v) (hown : w.ownsRow base 5 1 v n (cs xs))
    (S : ByteArray) (hx : a.eval x = .string S) (hsz : n + S.size ≤ 1000000000) (hbase : base ≤ w.heap.size)
    (h : ∀ v' w', w'.ownsRow base 5 1 v' (n + S.size) (cs (xs ++ bl S)) → w.grownBy w' v.ownBlock → wpList Tryz.prog ops Q rest (a.put o.dst v') w') : wpList Tryz.prog ops Q (o :: rest) a w := by
  obtain ⟨i0, hi, hz0, hz1, hz2⟩ := info_parts info_u8
  refine Lib.wpList_append_own_string w hgd s x 26 u ho base 5 i0 Tryz.underlying26 hu hi hz0 hz1 hz2 v n (cs xs) hs hown S hx (by unfold maxLen; omega) (by omega) hbase ?_
  intro v' w' h1 h2 _
  refine h v' w' ?_ h2
  rw [show cs (xs ++ bl S) = cs xs ++ Lib.strCells S from by rw [strCells_bl]; simp [cs]]
  exact h1
end Go.Proofs.YtbmdkibmfkmjoaaGreat.Va
