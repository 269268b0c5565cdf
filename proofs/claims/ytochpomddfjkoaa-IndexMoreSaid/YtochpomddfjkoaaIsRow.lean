/- A row of values in memory, and its block; no function of the program; nothing is asked. -/
import Derived.Test.YtochpomddfjkoaaCore
namespace Go.Proofs.Ytochpomddfjkoaa.LM
open Go.RowKit Go.Proofs.Ytochpomddfjkoaa.BM

/-- A row of values lies at an address. -/
def IsRow (w : World) (A : Option Addr) (vs : List Value) : Prop := 0 < vs.length → ∃ b o, A = some ⟨b, o, none⟩ ∧ ∀ j u, vs[j]? = some u → w.cell? ⟨b, o + j, none⟩ = some u

theorem IsRow.kept {w w' : World} {A : Option Addr} {vs : List Value} (h : IsRow w A vs) (hb : Below w.heap.size w w') : IsRow w' A vs := by
  intro hx
  obtain ⟨b, o, e, hc⟩ := h hx
  refine ⟨b, o, e, fun j u hj => ?_⟩
  have hcell := hc j u hj
  rw [hb.cell (p := ⟨b, o + j, none⟩) (World.block_lt_of_cell? w _ hcell)]
  exact hcell

/-- The block of a row of the call's own is none of these. -/
def ne (v : Value) (b : Nat) : Prop := some b ≠ v.ownBlock

theorem ne_fresh {w : World} {v v' : Value} (h : v'.ownBlock = v.ownBlock ∨ v'.ownBlock = some w.heap.size) (b : Nat) (hb : b < w.heap.size) (hn : ne v b) : ne v' b := by
  unfold ne at hn ⊢
  rcases h with h | h
  · rw [h]
    exact hn
  · rw [h]
    intro e
    injection e with e
    omega
end Go.Proofs.Ytochpomddfjkoaa.LM
