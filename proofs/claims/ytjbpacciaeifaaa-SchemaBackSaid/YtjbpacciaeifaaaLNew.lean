/- A new row of slices of bytes; no function of the program; nothing is asked. -/
import Derived.Test.YtjbpacciaeifaaaLMem
namespace Go.Proofs.Ytjbpacciaeifaaa.LM
open Go.RowKit Go.Proofs.Ytjbpacciaeifaaa.BM

theorem isRow_new (w : World) (vs : List Value) : IsRow (w.alloc (.cells vs.toArray 25)) (some ⟨w.heap.size, 0, none⟩) vs := by
  intro _
  refine ⟨w.heap.size, 0, rfl, fun j u hj => ?_⟩
  rw [World.cell?_alloc_at (hn := rfl), Nat.zero_add]
  simpa using hj

theorem el_any {w : World} {A : Option Addr} {xs : List Int} {c : Nat} (h : SlB w A xs c) : El (fun _ => True) w (.slice A xs.length c) xs := by
  refine ⟨A, c, rfl, h, fun hx => ?_⟩
  obtain ⟨b, o, e, hc⟩ := h.1.2 hx
  exact ⟨b, o, e, trivial, World.block_lt_of_cell? w _ (hc 0 hx)⟩
end Go.Proofs.Ytjbpacciaeifaaa.LM
