/- Strings in the program: a sign, whether two are the same; no function of the program; nothing is asked. -/
import Derived.Test.YtochpomddfjkoaaStr
namespace Go.Proofs.Ytochpomddfjkoaa.Va
open Go.RowKit Go.Proofs.Ytochpomddfjkoaa.BM Go.Proofs.Ytochpomddfjkoaa.VaM

theorem ret_v {x y : Value} (h : y = x) : Ending.returned x = .returned y := by rw [h]

theorem toList_beq (s t : ByteArray) : (s.toList == t.toList) = decide (s = t) := by
  by_cases h : s = t
  · subst h
    simp
  · rw [str_ne h, decide_eq_false h]

theorem str_e0 {s : ByteArray} (h : s.size ≠ 0) : s.toList.isEmpty = false := by
  rw [ByteArray.toList_eq]
  cases hl : s.data.toList with
  | nil =>
    refine absurd ?_ h
    show s.data.size = 0
    rw [← Array.length_toList, hl]
    rfl
  | cons => rfl

/-- s[j] -/
theorem index_s (s : ByteArray) (j : Nat) (h : j < s.size) (w : World) : (Instr.index 9 (.string s) (.int .i64 (j : Int))).run Try.prog w = .ok (.int .u8 ((bl s).getD j 0)) w := by
  rw [run_index_string w _ _ _ _ Try.underlying9, dif_pos (by omega)]
  congr 2
  have hl : j < (bl s).length := by rw [bl_len]; exact h
  rw [List.getD_eq_getElem?_getD, List.getElem?_eq_getElem hl, Option.getD_some]
  simp only [bl, List.getElem_map, Array.getElem_toList, Int.toNat_natCast]
  rfl
end Go.Proofs.Ytochpomddfjkoaa.Va
