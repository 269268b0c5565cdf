/- A slice of bytes in memory, with its capacity; no function of the program; nothing is asked. -/
import Derived.Test.YtbmdkibmfkmjoaaGreatBMem
namespace Go.Proofs.YtbmdkibmfkmjoaaGreat.LM
open Go.RowKit Go.Proofs.YtbmdkibmfkmjoaaGreat.BM

/-- A slice of bytes: where it lies, its length and its capacity. -/
def SlB (w : World) (A : Option Addr) (xs : List Int) (c : Nat) : Prop := IsB w A xs ∧ xs.length ≤ c ∧ (A = none → c = 0) ∧ c ≤ maxLen

theorem SlB.kept {w w' : World} {A : Option Addr} {xs : List Int} {c : Nat} (h : SlB w A xs c) (hb : Below w.heap.size w w') : SlB w' A xs c := ⟨isB_kept h.1 hb, h.2⟩

theorem slB_none (w : World) : SlB w none [] 0 := ⟨⟨by simp, fun h => by simp at h⟩, Nat.le_refl _, fun _ => rfl, Nat.zero_le _⟩

theorem row_slB {w : World} {a : Option Addr} {len cap : Nat} {zs : List Int} (h : RowU8 w a len cap zs) : ∃ xs : List Int, xs.length = len ∧ SlB w a xs cap := by
  have h0 := h
  obtain ⟨xs, h1, h2, h3, h4⟩ := row_isB h
  refine ⟨xs, h1, h2, by omega, ?_, ?_⟩
  · intro hn
    rcases h0 with ⟨_, _, hc, _⟩ | ⟨x, hx, _⟩
    · exact hc
    · rw [hn] at hx
      cases hx
  · rcases h0 with ⟨_, _, hc, _⟩ | ⟨x, _, _, hm, _⟩
    · rw [hc]
      exact Nat.zero_le _
    · exact hm

/-- What is owned reads as a slice of bytes. -/
theorem own_slB {w : World} {base n : Nat} {v : Value} {xs : List Int} (h : w.ownsRow base 5 1 v n (cs xs)) (hb : ∀ x ∈ xs, (0 : Int) ≤ x ∧ x < 256) :
    ∃ A c, v = .slice A xs.length c ∧ n = xs.length ∧ SlB w A xs c ∧ (∀ a, A = some a → a.spot = none ∧ base ≤ a.block ∧ a.block < w.heap.size) := by
  have hl : xs.length = n := by have := h.1; simp [cs] at this; exact this
  subst hl
  rcases h.2 with ⟨hv, h0⟩ | ⟨g, cap, cur, rfl, hg, hh, hcap, hmx, hrest⟩
  · subst hv
    refine ⟨none, 0, by rw [h0], rfl, ⟨⟨hb, fun hx => by omega⟩, by omega, fun _ => rfl, Nat.zero_le _⟩, fun a ha => by cases ha⟩
  · refine ⟨some ⟨g, 0, none⟩, cap, rfl, rfl, ⟨own_isB h hb, hcap, (fun h => by cases h), hmx⟩, fun a ha => ?_⟩
    injection ha with ha
    subst ha
    exact ⟨rfl, hg, (h.lt g rfl).2⟩

/-- b[0] -/
theorem index_00 (w : World) (b o len cap : Nat) (h : 0 < len) : (Instr.indexAt 26 (.slice (some ⟨b, o, none⟩) len cap) (.int .i64 0)).run Tryz.prog w = .ok (.pointer (some ⟨b, o, none⟩)) w := by
  rw [run_indexAt_slice w _ _ _ _ _ _ elem_b, if_pos (by omega), size_b]
  simp [Result.andThen, Addr.add_lit]
end Go.Proofs.YtbmdkibmfkmjoaaGreat.LM
