/- Bytes in memory, whatever the program: what is kept, what a list of numbers is as a string; no function of the program; nothing is asked. -/
import Derived.Test.YtochpomddfjkoaaRows
import Derived.WalkKit
import Derived.WalkLawsBesides
import Derived.WalkSpells
import Derived.Laws.BitsAllLaws
import Derived.Lib.Hide
import Derived.OpenShut
import Derived.Laws.AppendOwnNone
import Derived.Laws.BytesArg
import Derived.Outline
import Derived.Lib.SlBytesConst
namespace Go.Proofs.Ytochpomddfjkoaa.BM
open Go.RowKit

theorem ret_int {k : IntKind} {a b : Int} (h : a = b) : Ending.returned (.int k a) = .returned (.int k b) := by rw [h]

theorem ret_bool {b : Bool} (h : b = true) : Ending.returned (.bool b) = .returned (.bool true) := by rw [h]

/-- A number's own bytes, as a list of cells. -/
def cs (xs : List Int) : List Value := xs.map (Value.int .u8)

theorem cs_len (xs : List Int) : (cs xs).length = xs.length := by simp [cs]

theorem cs_snoc (xs : List Int) (x : Int) : cs xs ++ [.int .u8 x] = cs (xs ++ [x]) := by simp [cs]

/-- An address at which bytes lie (none are wanted of an empty list). -/
def IsB (w : World) (A : Option Addr) (xs : List Int) : Prop :=
  (∀ x ∈ xs, (0 : Int) ≤ x ∧ x < 256) ∧ (0 < xs.length → ∃ b o, A = some ⟨b, o, none⟩ ∧ ∀ j, j < xs.length → w.cell? ⟨b, o + j, none⟩ = some (.int .u8 (xs.getD j 0)))

/-- A goal, shut for a while. -/
def Pause (p : Prop) : Prop := p

theorem pause {p : Prop} (h : Pause p) : p := h

/-- Bytes below a block stay, where nothing below it turns. -/
theorem isB_below {w w' : World} {B g o : Nat} {xs : List Int} (h : IsB w (some ⟨g, o, none⟩) xs) (hb : Below B w w') (hg : g < B) : IsB w' (some ⟨g, o, none⟩) xs := by
  refine ⟨h.1, fun hx => ?_⟩
  obtain ⟨b, o', he, hc⟩ := h.2 hx
  refine ⟨b, o', he, fun j hj => ?_⟩
  have hbg : b = g := by
    injection he with he
    injection he with h1 _
    exact h1.symm
  rw [hb.cell (p := ⟨b, o' + j, none⟩) (by show b < B; omega)]
  exact hc j hj

theorem isB_cell {w : World} {g o : Nat} {xs : List Int} (h : IsB w (some ⟨g, o, none⟩) xs) (j : Nat) (hj : j < xs.length) : w.cell? ⟨g, o + j, none⟩ = some (.int .u8 (xs.getD j 0)) := by
  obtain ⟨b, o', he, hc⟩ := h.2 (by omega)
  injection he with he
  injection he with h1 h2
  subst h1
  subst h2
  exact hc j hj

/-- A beginning of bytes, and what stands behind it. -/
theorem isB_take {w : World} {A : Option Addr} {xs : List Int} (h : IsB w A xs) (k : Nat) : IsB w A (xs.take k) := by
  refine ⟨fun x hx => h.1 x (List.mem_of_mem_take hx), fun hx => ?_⟩
  rw [List.length_take] at hx
  obtain ⟨b, o, he, hc⟩ := h.2 (by omega)
  refine ⟨b, o, he, fun j hj => ?_⟩
  rw [List.length_take] at hj
  rw [hc j (by omega)]
  rw [List.getD_eq_getElem?_getD, List.getD_eq_getElem?_getD, List.getElem?_take, if_pos (by omega)]

theorem isB_drop {w : World} {g o : Nat} {xs : List Int} (h : IsB w (some ⟨g, o, none⟩) xs) (k : Nat) : IsB w (some ⟨g, o + k, none⟩) (xs.drop k) := by
  refine ⟨fun x hx => h.1 x (List.mem_of_mem_drop hx), fun hx => ?_⟩
  rw [List.length_drop] at hx
  refine ⟨g, o + k, rfl, fun j hj => ?_⟩
  rw [List.length_drop] at hj
  have hc := isB_cell h (k + j) (by omega)
  rw [Nat.add_assoc, hc]
  simp [List.getD_eq_getElem?_getD, List.getElem?_drop]

theorem str_inj {xs ys : List Int} (hx : ∀ x ∈ xs, (0 : Int) ≤ x ∧ x < 256) (hy : ∀ x ∈ ys, (0 : Int) ≤ x ∧ x < 256) (h : strOfNums xs = strOfNums ys) : xs = ys := by
  have h1 : (strOfNums xs).data.toList = (strOfNums ys).data.toList := by rw [h]
  rw [strOfNums_data, strOfNums_data] at h1
  clear h
  induction xs generalizing ys with
  | nil => cases ys with
    | nil => rfl
    | cons y ys => simp at h1
  | cons x xs ih => cases ys with
    | nil => simp at h1
    | cons y ys =>
      simp only [List.map_cons, List.cons.injEq] at h1
      have hx0 := hx x (by simp)
      have hy0 := hy y (by simp)
      have e : x = y := by
        have h2 : (UInt8.ofNat x.toNat).toNat = (UInt8.ofNat y.toNat).toNat := by rw [h1.1]
        simp only [UInt8.toNat_ofNat'] at h2
        omega
      rw [e, ih (fun z hz => hx z (by simp [hz])) (fun z hz => hy z (by simp [hz])) h1.2]

/-- Bytes that are there stay, where nothing that was there turns. -/
theorem isB_kept {w w' : World} {A : Option Addr} {xs : List Int} (h : IsB w A xs) (hb : Below w.heap.size w w') : IsB w' A xs := by
  refine ⟨h.1, fun hx => ?_⟩
  obtain ⟨b, o, he, hc⟩ := h.2 hx
  refine ⟨b, o, he, fun j hj => ?_⟩
  have hlt := World.block_lt_of_cell? w _ (hc j hj)
  rw [hb.cell (p := ⟨b, o + j, none⟩) hlt]
  exact hc j hj

/-- A slice of bytes that came in. -/
def RowU8 (w : World) (a : Option Addr) (len cap : Nat) (zs : List Int) : Prop :=
  (a = none ∧ len = 0 ∧ cap = 0 ∧ zs = []) ∨
  ∃ x, a = some x ∧ len ≤ cap ∧ cap ≤ maxLen ∧ zs.length = cap ∧ (∀ i, i < zs.length → w.cell? (x.add i) = some (.int .u8 (zs.getD i 0))) ∧ ∀ n ∈ zs, (Lit.int .u8 n).wf = true

theorem row_isB {w : World} {a : Option Addr} {len cap : Nat} {zs : List Int} (h : RowU8 w a len cap zs) :
    ∃ xs : List Int, xs.length = len ∧ IsB w a xs ∧ len ≤ cap ∧ len ≤ 9223372036854775807 := by
  rcases h with ⟨rfl, rfl, rfl, rfl⟩ | ⟨x, rfl, hl, hm, hz, hc, hwf⟩
  · exact ⟨[], rfl, ⟨by simp, fun h => by simp at h⟩, Nat.le_refl _, by omega⟩
  · refine ⟨zs.take len, by rw [List.length_take]; omega, ⟨fun y hy => ?_, fun h0 => ?_⟩, hl, by unfold maxLen at hm; omega⟩
    · have hb := bounds_u8 (hwf y (List.mem_of_mem_take hy))
      omega
    · rw [List.length_take] at h0
      obtain ⟨b, o, s⟩ := x
      have h1 := hc 0 (by omega)
      have hs : s = none := by simpa [Addr.add] using World.cell?_spot h1
      subst hs
      refine ⟨b, o, rfl, fun j hj => ?_⟩
      rw [List.length_take] at hj
      have h2 := hc j (by omega)
      rw [Addr.add_lit] at h2
      rw [h2, List.getD_eq_getElem?_getD, List.getD_eq_getElem?_getD, List.getElem?_take, if_pos (by omega)]

theorem str_ne {s t : ByteArray} (h : s ≠ t) : (s.toList == t.toList) = false := by
  rw [beq_eq_false_iff_ne, ByteArray.toList_eq, ByteArray.toList_eq]
  intro e
  exact h (WideShapes.bytes_inj e)

theorem bt {a b c : World} (h : Below a.heap.size a b) (k : Below b.heap.size b c) : Below a.heap.size a c := h.trans (k.mono h.size)

/-- Where bytes from a place on lie. -/
def dropA (A : Option Addr) (k cap : Nat) : Option Addr := if cap = k then A else A.map (·.add k)

theorem isB_dropA {w : World} {A : Option Addr} {xs : List Int} (h : IsB w A xs) (k cap : Nat) (hc : xs.length ≤ cap) : IsB w (dropA A k cap) (xs.drop k) := by
  refine ⟨fun x hx => h.1 x (List.mem_of_mem_drop hx), fun hx => ?_⟩
  rw [List.length_drop] at hx
  obtain ⟨b, o, rfl, hcell⟩ := h.2 (by omega)
  have e : dropA (some ⟨b, o, none⟩) k cap = some ⟨b, o + k, none⟩ := by
    unfold dropA
    rw [if_neg (by omega)]
    simp [Addr.add_lit]
  rw [e]
  refine ⟨b, o + k, rfl, fun j hj => ?_⟩
  rw [List.length_drop] at hj
  rw [Nat.add_assoc, hcell (k + j) (by omega)]
  simp [List.getD_eq_getElem?_getD, List.getElem?_drop]

theorem drop_consB (xs : List Int) (k : Nat) (hk : k < xs.length) : xs.drop k = xs.getD k 0 :: xs.drop (k + 1) := by
  rw [List.drop_eq_getElem_cons hk]
  simp [List.getD_eq_getElem?_getD, hk]

theorem take_snocB (xs : List Int) (k : Nat) (hk : k < xs.length) : xs.take (k + 1) = xs.take k ++ [xs.getD k 0] := by
  rw [List.take_succ_eq_append_getElem hk]
  simp [List.getD_eq_getElem?_getD, hk]
end Go.Proofs.Ytochpomddfjkoaa.BM

/- Names of texts that a seat may lack, so that they can be opened. -/
namespace Go.Proofs.Ytochpomddfjkoaa.LM
end Go.Proofs.Ytochpomddfjkoaa.LM
namespace Go.Proofs.Ytochpomddfjkoaa.LeM
end Go.Proofs.Ytochpomddfjkoaa.LeM
namespace Go.Proofs.Ytochpomddfjkoaa.LeP
end Go.Proofs.Ytochpomddfjkoaa.LeP
namespace Go.Proofs.Ytochpomddfjkoaa.LeG
end Go.Proofs.Ytochpomddfjkoaa.LeG
namespace Go.Proofs.Ytochpomddfjkoaa.LeZ
end Go.Proofs.Ytochpomddfjkoaa.LeZ
namespace Go.Proofs.Ytochpomddfjkoaa.Va
end Go.Proofs.Ytochpomddfjkoaa.Va
namespace Go.Proofs.Ytochpomddfjkoaa.Sc
end Go.Proofs.Ytochpomddfjkoaa.Sc
namespace Go.Proofs.Ytochpomddfjkoaa.ScM
end Go.Proofs.Ytochpomddfjkoaa.ScM
namespace Go.Proofs.Ytochpomddfjkoaa.Ex
end Go.Proofs.Ytochpomddfjkoaa.Ex
namespace Go.Proofs.Ytochpomddfjkoaa.RegA
end Go.Proofs.Ytochpomddfjkoaa.RegA
