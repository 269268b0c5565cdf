/- A slice of values that came in, and values' bytes one behind the other; no function of package value; nothing is asked. -/
import Derived.Test.YtochpomddfjkoaaValueMath
namespace Go.Proofs.Ytochpomddfjkoaa.Va
open Go.RowKit Go.Proofs.Ytochpomddfjkoaa.BM Go.Proofs.Ytochpomddfjkoaa.VaM

/-- A value's three cells, wherever they lie. -/
def CellV (w : World) (b q : Nat) (v : V) : Prop := w.cell? ⟨b, q, none⟩ = some (.int .i64 v.k) ∧ w.cell? ⟨b, q + 1, none⟩ = some (.int .i64 v.n) ∧ w.cell? ⟨b, q + 2, none⟩ = some (.string v.s)

theorem CellV.kept {w w' : World} {b q : Nat} {v : V} (h : CellV w b q v) (hb : Below w.heap.size w w') : CellV w' b q v := by
  obtain ⟨h0, h1, h2⟩ := h
  exact ⟨(hb.cell (p := ⟨b, q, none⟩) (World.block_lt_of_cell? w _ h0)).trans h0, (hb.cell (p := ⟨b, q + 1, none⟩) (World.block_lt_of_cell? w _ h1)).trans h1, (hb.cell (p := ⟨b, q + 2, none⟩) (World.block_lt_of_cell? w _ h2)).trans h2⟩

/-- A slice of values that came in. -/
def RowV (w : World) (a : Option Addr) (len : Nat) : Prop :=
  ∃ f : Nat → V, len ≤ 9223372036854775807 ∧ (∀ i, i < len → Rng (f i)) ∧ (0 < len → ∃ b o, a = some ⟨b, o, none⟩ ∧ ∀ i, i < len → CellV w b (o + i * 3) (f i))

/-- The bytes of the first n. -/
def flTo (f : Nat → V) : Nat → List Int
  | 0 => []
  | n + 1 => flTo f n ++ putV (f n)

/-- The bytes of n of them, from j on. -/
def flFrom (f : Nat → V) : Nat → Nat → List Int
  | _, 0 => []
  | j, n + 1 => putV (f j) ++ flFrom f (j + 1) n

theorem fl_join (f : Nat → V) : ∀ n j, flTo f j ++ flFrom f j n = flTo f (j + n)
  | 0, j => by rw [flFrom, List.append_nil, Nat.add_zero]
  | n + 1, j => by
    rw [flFrom, ← List.append_assoc]
    show flTo f (j + 1) ++ flFrom f (j + 1) n = _
    rw [fl_join f n (j + 1), Nat.add_right_comm, Nat.add_assoc]

theorem fl_all (f : Nat → V) (n : Nat) : flFrom f 0 n = flTo f n := by
  have h := fl_join f n 0
  rw [Nat.zero_add] at h
  exact h

theorem flTo_bytes {f : Nat → V} : ∀ n, (∀ i, i < n → May (f i)) → ∀ x ∈ flTo f n, (0 : Int) ≤ x ∧ x < 256
  | 0, _ => by simp [flTo]
  | n + 1, h => by
    intro x hx
    rcases List.mem_append.1 hx with hx | hx
    · exact flTo_bytes n (fun i hi => h i (by omega)) x hx
    · exact putV_bytes (h n (by omega)) x hx

theorem flFrom_bytes {f : Nat → V} : ∀ n j, (∀ i, i < j + n → May (f i)) → ∀ x ∈ flFrom f j n, (0 : Int) ≤ x ∧ x < 256
  | 0, _, _ => by simp [flFrom]
  | n + 1, j, h => by
    intro x hx
    rcases List.mem_append.1 hx with hx | hx
    · exact putV_bytes (h j (by omega)) x hx
    · exact flFrom_bytes n (j + 1) (fun i hi => h i (by omega)) x hx

theorem flTo_len {f : Nat → V} : ∀ n, (∀ i, i < n → May (f i)) → (∀ i, i < n → Rng (f i)) → (flTo f n).length ≤ 51 * n
  | 0, _, _ => by simp [flTo]
  | n + 1, h, g => by
    rw [flTo, List.length_append]
    have h1 := flTo_len n (fun i hi => h i (by omega)) (fun i hi => g i (by omega))
    have h2 := (putV_len (h n (by omega)) (g n (by omega))).2
    omega
end Go.Proofs.Ytochpomddfjkoaa.Va
