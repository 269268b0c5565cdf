/- Strings in the program: a sign, whether two are the same, an append; no function of the program; nothing is asked. -/
import Derived.Test.YtbakhodijhacoaaStr
import Derived.Test.YtbakhodijhacoaaSlB
namespace Go.Proofs.Ytbakhodijhacoaa.Va
open Go.RowKit Go.Proofs.Ytbakhodijhacoaa.BM Go.Proofs.Ytbakhodijhacoaa.LM Go.Proofs.Ytbakhodijhacoaa.VaM

theorem ret_v {x y : Value} (h : y = x) : Ending.returned x = .returned y := by rw [h]

theorem toList_beq (s t : ByteArray) : (s.toList == t.toList) = decide (s = t) := by
  by_cases h : s = t
  · subst h
    simp
  · rw [str_ne h, decide_eq_false h]

theorem str_e0 {s : ByteArray} (h : s.size ≠ 0) : s.toList.isEmpty = false := by
  rw [ByteArray.toList_eq]
  cases hl : s.data.toList with
  | nil =>
    refine absurd ?_ h
    show s.data.size = 0
    rw [← Array.length_toList, hl]
    rfl
  | cons => rfl

/-- s[j] -/
theorem index_s (s : ByteArray) (j : Nat) (h : j < s.size) (w : World) : (Instr.index 9 (.string s) (.int .i64 (j : Int))).run Try.prog w = .ok (.int .u8 ((bl s).getD j 0)) w := by
  rw [run_index_string w _ _ _ _ Try.underlying9, dif_pos (by omega)]
  congr 2
  have hl : j < (bl s).length := by rw [bl_len]; exact h
  rw [List.getD_eq_getElem?_getD, List.getElem?_eq_getElem hl, Option.getD_some]
  simp only [bl, List.getElem_map, Array.getElem_toList, Int.toNat_natCast]
  rfl

/-- append of a string onto bytes that are owned. -/
theorem wp_append_s {w : World} {ops : Array Oper} {rest : List Oper} {o : Oper} {a : Act} {Q : Exit → Act → World → Prop} (hgd : o.guard = none) (s x : Operand) (u : TypeId) (hu : Try.prog.underlying u = some .string)
    (ho : o.op = .call { callee := .builtin .append, args := #[s, x], argTypes := #[28, u] })
    (base : Nat) (v : Value) (n : Nat) (xs : List Int) (hs : a.eval s = v) (hown : w.ownsRow base 5 1 v n (cs xs))
    (S : ByteArray) (hx : a.eval x = .string S) (hsz : n + S.size ≤ 1000000000) (hbase : base ≤ w.heap.size)
    (h : ∀ v' w', w'.ownsRow base 5 1 v' (n + S.size) (cs (xs ++ bl S)) → w.grownBy w' v.ownBlock → wpList Try.prog ops Q rest (a.put o.dst v') w') : wpList Try.prog ops Q (o :: rest) a w := by
  obtain ⟨i0, hi, hz0, hz1, hz2⟩ := info_parts info_u8
  refine Lib.wpList_append_own_string w hgd s x 28 u ho base 5 i0 Try.underlying28 hu hi hz0 hz1 hz2 v n (cs xs) hs hown S hx (by unfold maxLen; omega) (by omega) hbase ?_
  intro v' w' h1 h2 _
  refine h v' w' ?_ h2
  rw [show cs (xs ++ bl S) = cs xs ++ Lib.strCells S from by rw [strCells_bl]; simp [cs]]
  exact h1
end Go.Proofs.Ytbakhodijhacoaa.Va
