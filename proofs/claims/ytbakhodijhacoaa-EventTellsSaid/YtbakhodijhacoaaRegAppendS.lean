/- append of a string inside a region that draws its order: the operation alone; no function of the program; nothing is asked. -/
import Derived.Test.YtbakhodijhacoaaStrMem
import Derived.Test.YtbakhodijhacoaaRegAppend
namespace Go.Proofs.Ytbakhodijhacoaa.RegA
open Go.RowKit Go.Proofs.Ytbakhodijhacoaa.BM Go.Proofs.Ytbakhodijhacoaa.LM Go.Proofs.Ytbakhodijhacoaa.VaM

theorem op_append_s {w : World} {o : Oper} {a : Act} {K : Act → World → Prop} {Q : Exit → Act → World → Prop} (s x : Operand) (u : TypeId) (hu : Try.prog.underlying u = some .string)
    (ho : o.op = .call { callee := .builtin .append, args := #[s, x], argTypes := #[28, u] })
    (base : Nat) (v : Value) (n : Nat) (xs : List Int) (hs : a.eval s = v) (hown : w.ownsRow base 5 1 v n (cs xs))
    (S : ByteArray) (hx : a.eval x = .string S) (hsz : n + S.size ≤ 1000000000) (hbase : base ≤ w.heap.size)
    (h : ∀ v' w', w'.ownsRow base 5 1 v' (n + S.size) (cs (xs ++ bl S)) → w.grownBy w' v.ownBlock → K (a.put o.dst v') w') : o.wp Try.prog a w K Q := by
  obtain ⟨i0, hi, hz0, hz1, hz2⟩ := info_parts info_u8
  obtain ⟨v', w', hr, h2, h3, _⟩ := Lib.run_append_own_string (P := Try.prog) w base 28 u o.type 5 i0 Try.underlying28 hu hi hz0 hz1 hz2 v n (cs xs) hown S (by unfold maxLen; omega) (by omega) hbase
  unfold Oper.wp execOp
  simp only [ho, resolve, invoke, builtin, Sem.run_bind, Sem.run_pure, Result.andThen_ok, List.map_toArray, List.map_cons, List.map_nil, hs, hx, hr]
  refine h v' w' ?_ h3
  rw [show cs (xs ++ bl S) = cs xs ++ Lib.strCells S from by rw [strCells_bl]; simp [cs]]
  exact h2
end Go.Proofs.Ytbakhodijhacoaa.RegA
