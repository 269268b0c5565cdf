/- Bytes in memory: what is owned, what is kept, what a conversion to a string gives, an append; no function of the program; nothing is asked. -/
import Derived.Test.YtbakhodijhacoaaRows
import Derived.WalkKit
import Derived.WalkLawsBesides
import Derived.WalkSpells
import Derived.Laws.BitsAllLaws
import Derived.Lib.Hide
import Derived.OpenShut
import Derived.Laws.AppendOwnNone
import Derived.Laws.BytesArg
import Derived.Outline
import Derived.Lib.SlBytesConst
namespace Go.Proofs.Ytbakhodijhacoaa.BM
open Go.RowKit

theorem ret_int {k : IntKind} {a b : Int} (h : a = b) : Ending.returned (.int k a) = .returned (.int k b) := by rw [h]

theorem ret_bool {b : Bool} (h : b = true) : Ending.returned (.bool b) = .returned (.bool true) := by rw [h]

theorem info_u8 : (Try.prog.info? 5).map (fun i => (i.zero, i.size, i.bytes)) = some (some (.int .u8 0), 1, 1) := by kernel_rfl

/-- A number's own bytes, as a list of cells. -/
def cs (xs : List Int) : List Value := xs.map (Value.int .u8)
theorem cs_len (xs : List Int) : (cs xs).length = xs.length := by simp [cs]
theorem cs_snoc (xs : List Int) (x : Int) : cs xs ++ [.int .u8 x] = cs (xs ++ [x]) := by simp [cs]

/-- An address at which bytes lie (none are wanted of an empty list). -/
def IsB (w : World) (A : Option Addr) (xs : List Int) : Prop :=
  (∀ x ∈ xs, (0 : Int) ≤ x ∧ x < 256) ∧ (0 < xs.length → ∃ b o, A = some ⟨b, o, none⟩ ∧ ∀ j, j < xs.length → w.cell? ⟨b, o + j, none⟩ = some (.int .u8 (xs.getD j 0)))

/-- A goal, shut for a while. -/
def Pause (p : Prop) : Prop := p
theorem pause {p : Prop} (h : Pause p) : p := h

/-- What is owned reads as bytes. -/
theorem isB_own {w : World} {base n : Nat} {v : Value} {xs : List Int} (h : w.ownsRow base 5 1 v n (cs xs)) (hb : ∀ x ∈ xs, (0 : Int) ≤ x ∧ x < 256) (hn : 0 < n) :
    ∃ g cap, v = .slice (some ⟨g, 0, none⟩) xs.length cap ∧ n = xs.length ∧ base ≤ g ∧ g < w.heap.size ∧ xs.length ≤ cap ∧ IsB w (some ⟨g, 0, none⟩) xs := by
  have hl : xs.length = n := by have := h.1; simp [cs] at this; exact this
  subst hl
  rcases h.2 with ⟨_, h0⟩ | ⟨g, cap, cur, rfl, hg, hh, hcap, hrest⟩
  · omega
  · refine ⟨g, cap, rfl, rfl, hg, (h.lt g rfl).2, hcap, hb, fun _ => ⟨g, 0, rfl, fun j hj => ?_⟩⟩
    have hc := h.cells (g := g) rfl j (.int .u8 (xs.getD j 0)) (by simp [cs, List.getD_eq_getElem?_getD, hj])
    rw [Addr.add_lit] at hc
    exact hc


/-- Bytes below a block stay, where nothing below it turns. -/
theorem isB_below {w w' : World} {B g o : Nat} {xs : List Int} (h : IsB w (some ⟨g, o, none⟩) xs) (hb : Below B w w') (hg : g < B) : IsB w' (some ⟨g, o, none⟩) xs := by
  refine ⟨h.1, fun hx => ?_⟩
  obtain ⟨b, o', he, hc⟩ := h.2 hx
  refine ⟨b, o', he, fun j hj => ?_⟩
  have hbg : b = g := by
    injection he with he
    injection he with h1 _
    exact h1.symm
  rw [hb.cell (p := ⟨b, o' + j, none⟩) (by show b < B; omega)]
  exact hc j hj

theorem isB_cell {w : World} {g o : Nat} {xs : List Int} (h : IsB w (some ⟨g, o, none⟩) xs) (j : Nat) (hj : j < xs.length) : w.cell? ⟨g, o + j, none⟩ = some (.int .u8 (xs.getD j 0)) := by
  obtain ⟨b, o', he, hc⟩ := h.2 (by omega)
  injection he with he
  injection he with h1 h2
  subst h1
  subst h2
  exact hc j hj

/-- A beginning of bytes, and what stands behind it. -/
theorem isB_take {w : World} {A : Option Addr} {xs : List Int} (h : IsB w A xs) (k : Nat) : IsB w A (xs.take k) := by
  refine ⟨fun x hx => h.1 x (List.mem_of_mem_take hx), fun hx => ?_⟩
  rw [List.length_take] at hx
  obtain ⟨b, o, he, hc⟩ := h.2 (by omega)
  refine ⟨b, o, he, fun j hj => ?_⟩
  rw [List.length_take] at hj
  rw [hc j (by omega)]
  rw [List.getD_eq_getElem?_getD, List.getD_eq_getElem?_getD, List.getElem?_take, if_pos (by omega)]

theorem isB_drop {w : World} {g o : Nat} {xs : List Int} (h : IsB w (some ⟨g, o, none⟩) xs) (k : Nat) : IsB w (some ⟨g, o + k, none⟩) (xs.drop k) := by
  refine ⟨fun x hx => h.1 x (List.mem_of_mem_drop hx), fun hx => ?_⟩
  rw [List.length_drop] at hx
  refine ⟨g, o + k, rfl, fun j hj => ?_⟩
  rw [List.length_drop] at hj
  have hc := isB_cell h (k + j) (by omega)
  rw [Nat.add_assoc, hc]
  simp [List.getD_eq_getElem?_getD, List.getElem?_drop]

/-- string(b): the bytes, as a string. -/
theorem conv_any {w : World} {A : Option Addr} {xs : List Int} (h : IsB w A xs) (cap : Nat) (dst : TypeId) (hd : Try.prog.underlying dst = some .string) :
    (convert 28 dst (.slice A xs.length cap)).run Try.prog w = .ok (.string (strOfNums xs)) w := by
  by_cases hx : 0 < xs.length
  · obtain ⟨b, o, rfl, hc⟩ := h.2 hx
    exact run_convert_bytes_arg w 28 5 Try.underlying28 Try.underlying5 b o xs.length cap xs rfl hc dst hd
  · obtain rfl : xs = [] := List.eq_nil_of_length_eq_zero (by omega)
    match A with
    | none => exact run_convert_bytes_nil w 28 5 Try.underlying28 Try.underlying5 0 cap dst hd
    | some ⟨b, o, s⟩ =>
      rw [run_convert_bytes_string w 28 dst 5 _ _ cap Try.underlying28 Try.underlying5 hd]
      have h0 : (loadCells ⟨b, o, s⟩ 0).run Try.prog w = .ok (([] : List Int).map (Value.int .u8)).toArray w := by
        simpa using run_loadCells_list (P := Try.prog) w ⟨b, o, s⟩ [] (fun j v hj => by simp at hj)
      exact run_bytesToString w ⟨b, o, s⟩ 0 cap [] h0

theorem str_inj {xs ys : List Int} (hx : ∀ x ∈ xs, (0 : Int) ≤ x ∧ x < 256) (hy : ∀ x ∈ ys, (0 : Int) ≤ x ∧ x < 256) (h : strOfNums xs = strOfNums ys) : xs = ys := by
  have h1 : (strOfNums xs).data.toList = (strOfNums ys).data.toList := by rw [h]
  rw [strOfNums_data, strOfNums_data] at h1
  clear h
  induction xs generalizing ys with
  | nil => cases ys with
    | nil => rfl
    | cons y ys => simp at h1
  | cons x xs ih => cases ys with
    | nil => simp at h1
    | cons y ys =>
      simp only [List.map_cons, List.cons.injEq] at h1
      have hx0 := hx x (by simp)
      have hy0 := hy y (by simp)
      have e : x = y := by
        have h2 : (UInt8.ofNat x.toNat).toNat = (UInt8.ofNat y.toNat).toNat := by rw [h1.1]
        simp only [UInt8.toNat_ofNat'] at h2
        omega
      rw [e, ih (fun z hz => hx z (by simp [hz])) (fun z hz => hy z (by simp [hz])) h1.2]

/-- Bytes that are there stay, where nothing that was there turns. -/
theorem isB_kept {w w' : World} {A : Option Addr} {xs : List Int} (h : IsB w A xs) (hb : Below w.heap.size w w') : IsB w' A xs := by
  refine ⟨h.1, fun hx => ?_⟩
  obtain ⟨b, o, he, hc⟩ := h.2 hx
  refine ⟨b, o, he, fun j hj => ?_⟩
  have hlt := World.block_lt_of_cell? w _ (hc j hj)
  rw [hb.cell (p := ⟨b, o + j, none⟩) hlt]
  exact hc j hj

/-- A slice of bytes that came in. -/
def RowU8 (w : World) (a : Option Addr) (len cap : Nat) (zs : List Int) : Prop :=
  (a = none ∧ len = 0 ∧ cap = 0 ∧ zs = []) ∨
  ∃ x, a = some x ∧ len ≤ cap ∧ cap ≤ maxLen ∧ zs.length = cap ∧ (∀ i, i < zs.length → w.cell? (x.add i) = some (.int .u8 (zs.getD i 0))) ∧ ∀ n ∈ zs, (Lit.int .u8 n).wf = true

theorem row_isB {w : World} {a : Option Addr} {len cap : Nat} {zs : List Int} (h : RowU8 w a len cap zs) :
    ∃ xs : List Int, xs.length = len ∧ IsB w a xs ∧ len ≤ cap ∧ len ≤ 9223372036854775807 := by
  rcases h with ⟨rfl, rfl, rfl, rfl⟩ | ⟨x, rfl, hl, hm, hz, hc, hwf⟩
  · exact ⟨[], rfl, ⟨by simp, fun h => by simp at h⟩, Nat.le_refl _, by omega⟩
  · refine ⟨zs.take len, by rw [List.length_take]; omega, ⟨fun y hy => ?_, fun h0 => ?_⟩, hl, by unfold maxLen at hm; omega⟩
    · have hb := bounds_u8 (hwf y (List.mem_of_mem_take hy))
      omega
    · rw [List.length_take] at h0
      obtain ⟨b, o, s⟩ := x
      have h1 := hc 0 (by omega)
      have hs : s = none := by simpa [Addr.add] using World.cell?_spot h1
      subst hs
      refine ⟨b, o, rfl, fun j hj => ?_⟩
      rw [List.length_take] at hj
      have h2 := hc j (by omega)
      rw [Addr.add_lit] at h2
      rw [h2, List.getD_eq_getElem?_getD, List.getD_eq_getElem?_getD, List.getElem?_take, if_pos (by omega)]

/-- What is owned, and not empty: where it lies. -/
theorem own_form {w : World} {base n : Nat} {v : Value} {xs : List Int} (h : w.ownsRow base 5 1 v n (cs xs)) (hb : ∀ x ∈ xs, (0 : Int) ≤ x ∧ x < 256) (hn : 0 < n) :
    ∃ g cap, v = .slice (some ⟨g, 0, none⟩) n cap ∧ xs.length = n ∧ base ≤ g ∧ g < w.heap.size ∧ n ≤ cap ∧ IsB w (some ⟨g, 0, none⟩) xs := by
  obtain ⟨g, cap, hv, hl, h1, h2, h3, h4⟩ := isB_own h hb hn
  subst hl
  exact ⟨g, cap, hv, rfl, h1, h2, h3, h4⟩

/-- append onto bytes that are owned, whatever the source: nil, empty or not. -/
theorem wp_append_b {w : World} {ops : Array Oper} {rest : List Oper} {o : Oper} {a : Act} {Q : Exit → Act → World → Prop} (hgd : o.guard = none) (s x : Operand)
    (ho : o.op = .call { callee := .builtin .append, args := #[s, x], argTypes := #[28, 28] })
    (base : Nat) (v : Value) (n : Nat) (xs : List Int) (hs : a.eval s = v) (hown : w.ownsRow base 5 1 v n (cs xs))
    (A : Option Addr) (m c : Nat) (ys : List Int) (hx : a.eval x = .slice A m c) (hm : ys.length = m) (hB : IsB w A ys) (hnil : A = none → c = 0)
    (hsz : n + m ≤ 1000000000) (hbase : base ≤ w.heap.size)
    (h : ∀ v' w', w'.ownsRow base 5 1 v' (n + m) (cs (xs ++ ys)) → w.grownBy w' v.ownBlock → wpList Try.prog ops Q rest (a.put o.dst v') w') : wpList Try.prog ops Q (o :: rest) a w := by
  obtain ⟨i0, hi, hz0, hz1, hz2⟩ := info_parts info_u8
  have hcs : cs (xs ++ ys) = cs xs ++ cs ys := by simp [cs]
  match A, hx, hB, hnil with
  | none, hx, hB, hnil =>
    have hy : ys = [] := by
      rcases Nat.eq_zero_or_pos ys.length with h0 | h0
      · exact List.eq_nil_of_length_eq_zero h0
      · obtain ⟨b, q, he, _⟩ := hB.2 h0
        cases he
    subst hy
    simp only [List.length_nil] at hm
    subst hm
    obtain rfl := hnil rfl
    refine wpList_append_own_none hgd s x 28 ho base 5 i0 1 Try.underlying28 hi v n (cs xs) hs hown hx (h v w ?_ (World.grownBy.refl _ _))
    simpa using hown
  | some ad, hx, hB, _ =>
    refine wpList_append_own w hgd s x 28 ho base 5 i0 (.int .u8 0) 1 1 Try.underlying28 hi hz0 hz1 hz2 rfl (by decide) v n (cs xs) hs hown ad m c (cs ys) hx (by rw [cs_len, hm, Nat.mul_one]) ?_ (ints_oneCell .u8 ys) (by unfold maxLen; omega) (by omega) hbase ?_
    · intro j u hj
      have hjl : j < ys.length := by
        rw [← cs_len]
        exact (List.getElem?_eq_some_iff.1 hj).1
      obtain ⟨b, q, he, hc⟩ := hB.2 (by omega)
      injection he with he
      subst he
      rw [Addr.add_lit, hc j hjl]
      rw [← hj]
      simp [cs, List.getD_eq_getElem?_getD, hjl]
    · intro v' w' h1 h2 _
      exact h v' w' (by rw [hcs]; exact h1) h2

theorem str_ne {s t : ByteArray} (h : s ≠ t) : (s.toList == t.toList) = false := by
  rw [beq_eq_false_iff_ne, ByteArray.toList_eq, ByteArray.toList_eq]
  intro e
  exact h (WideShapes.bytes_inj e)


/-- New bytes in a block of their own. -/
theorem isB_new (w : World) (xs : List Int) (h : ∀ x ∈ xs, (0 : Int) ≤ x ∧ x < 256) : IsB (w.alloc (.cells (cs xs).toArray 5)) (some ⟨w.heap.size, 0, none⟩) xs := by
  refine ⟨h, fun _ => ⟨w.heap.size, 0, rfl, fun j hj => ?_⟩⟩
  rw [World.cell?_alloc_at (hn := rfl), Nat.zero_add]
  simp [cs, List.getD_eq_getElem?_getD, hj]

/-- []byte("..") of a constant text: new bytes in a block of their own, with a mark behind them. -/
theorem isB_const (w : World) (xs : List Int) (m : Nat × Nat) (h : ∀ x ∈ xs, (0 : Int) ≤ x ∧ x < 256) : IsB (w.alloc (.cells (cs xs).toArray 5 m)) (some ⟨w.heap.size, 0, none⟩) xs := by
  refine ⟨h, fun _ => ⟨w.heap.size, 0, rfl, fun j hj => ?_⟩⟩
  obtain ⟨p, q⟩ := m
  rw [World.cell?_alloc_mark, Nat.zero_add]
  simp [cs, List.getD_eq_getElem?_getD, hj]

theorem conv_const (w : World) (C : Array Value) (n c : Nat) :
    (convert 28 28 (.slice (some ⟨w.heap.size, 0, none⟩) n c)).run Try.prog (w.alloc (.cells C 5)) = .ok (.slice (some ⟨w.heap.size, 0, none⟩) n c) (w.alloc (.cells C 5 (C.size, C.size + 1))) :=
  Lib.run_convert_bytes_const (P := Try.prog) w 28 5 C n c Try.underlying28 Try.underlying5
/-- A cell of what is owned. -/
theorem own_cell {w : World} {base g n cap : Nat} {xs : List Int} (h : w.ownsRow base 5 1 (.slice (some ⟨g, 0, none⟩) n cap) n (cs xs)) (j : Nat) (hj : j < n) : w.cell? ⟨g, j, none⟩ = some (.int .u8 (xs.getD j 0)) := by
  have hl : xs.length = n := by have := h.1; simp [cs] at this; exact this
  rw [h.cellAt j (by omega)]
  simp [cs, List.getD_eq_getElem?_getD, hl, hj]

/-- A place of bytes of the call's own is stored. -/
theorem set_own {w : World} {base g n cap : Nat} {xs : List Int} (h : w.ownsRow base 5 1 (.slice (some ⟨g, 0, none⟩) n cap) n (cs xs)) (k : Nat) (c : Int) :
    (w.setCell ⟨g, k, none⟩ (.int .u8 c)).ownsRow base 5 1 (.slice (some ⟨g, 0, none⟩) n cap) n (cs (xs.set k c)) := by
  have h1 := (h.stored k (.int .u8 c)).1
  rw [show cs (xs.set k c) = (cs xs).set k (.int .u8 c) from by simp [cs, List.map_set]]
  exact h1

/-- Where owned bytes lie, if that is known. -/
theorem own_isB {w : World} {base g n cap : Nat} {xs : List Int} (h : w.ownsRow base 5 1 (.slice (some ⟨g, 0, none⟩) n cap) n (cs xs)) (hb : ∀ x ∈ xs, (0 : Int) ≤ x ∧ x < 256) : IsB w (some ⟨g, 0, none⟩) xs := by
  have hl : xs.length = n := by have := h.1; simp [cs] at this; exact this
  refine ⟨hb, fun hx => ⟨g, 0, rfl, fun j hj => ?_⟩⟩
  rw [Nat.zero_add]
  exact own_cell h j (by omega)

/-- What is owned, empty or not: it is a slice, and where it lies. -/
theorem own_any {w : World} {base n : Nat} {v : Value} {xs : List Int} (h : w.ownsRow base 5 1 v n (cs xs)) (hb : ∀ x ∈ xs, (0 : Int) ≤ x ∧ x < 256) :
    ∃ A cap, v = .slice A n cap ∧ xs.length = n ∧ n ≤ cap ∧ IsB w A xs ∧ (A = none → cap = 0) := by
  have hl : xs.length = n := by have := h.1; simp [cs] at this; exact this
  rcases h.2 with ⟨hv, h0⟩ | ⟨g, cap, cur, rfl, hg, hh, hcap, hrest⟩
  · subst hv
    subst h0
    exact ⟨none, 0, rfl, hl, Nat.le_refl _, ⟨hb, fun hx => by omega⟩, fun _ => rfl⟩
  · exact ⟨some ⟨g, 0, none⟩, cap, rfl, hl, hcap, own_isB h hb, fun h => by cases h⟩

theorem bt {a b c : World} (h : Below a.heap.size a b) (k : Below b.heap.size b c) : Below a.heap.size a c := h.trans (k.mono h.size)

/-- Where bytes from a place on lie. -/
def dropA (A : Option Addr) (k cap : Nat) : Option Addr := if cap = k then A else A.map (·.add k)

theorem elem_b : Try.prog.underlying 28 = some (.slice (Try.prog.elem 28)) := by kernel_rfl
theorem size_b (w : World) : (sizeOf (Try.prog.elem 28)).run Try.prog w = .ok 1 w := by kernel_rfl

/-- b[:k] -/
theorem slice_hi (w : World) (A : Option Addr) (len cap k : Nat) (hk : k ≤ cap) :
    (Instr.sliceAt 28 (.slice A len cap) none (some (.int .i64 (k : Int))) none).run Try.prog w = .ok (.slice A k cap) w := by
  rw [run_sliceAt_slice w _ _ _ _ _ elem_b, run_slice_h w _ _ _ _ elem_b .i64 (k : Int) (by omega) (by omega), size_b]
  simp only [Result.andThen, sliced, Int.toNat_natCast, Nat.zero_mul, Nat.sub_zero]
  congr 2
  split
  · rfl
  · cases A <;> simp [Addr.add]

/-- b[k:] -/
theorem slice_lo (w : World) (A : Option Addr) (len cap k : Nat) (hk : k ≤ len) :
    (Instr.sliceAt 28 (.slice A len cap) (some (.int .i64 (k : Int))) none none).run Try.prog w = .ok (.slice (dropA A k cap) (len - k) (cap - k)) w := by
  rw [run_sliceAt_slice w _ _ _ _ _ elem_b, run_slice_l w _ _ _ _ elem_b .i64 (k : Int) (by omega) (by omega), size_b]
  simp only [Result.andThen, sliced, Int.toNat_natCast, Nat.mul_one]
  rfl

theorem isB_dropA {w : World} {A : Option Addr} {xs : List Int} (h : IsB w A xs) (k cap : Nat) (hc : xs.length ≤ cap) : IsB w (dropA A k cap) (xs.drop k) := by
  refine ⟨fun x hx => h.1 x (List.mem_of_mem_drop hx), fun hx => ?_⟩
  rw [List.length_drop] at hx
  obtain ⟨b, o, rfl, hcell⟩ := h.2 (by omega)
  have e : dropA (some ⟨b, o, none⟩) k cap = some ⟨b, o + k, none⟩ := by
    unfold dropA
    rw [if_neg (by omega)]
    simp [Addr.add_lit]
  rw [e]
  refine ⟨b, o + k, rfl, fun j hj => ?_⟩
  rw [List.length_drop] at hj
  rw [Nat.add_assoc, hcell (k + j) (by omega)]
  simp [List.getD_eq_getElem?_getD, List.getElem?_drop]
theorem drop_consB (xs : List Int) (k : Nat) (hk : k < xs.length) : xs.drop k = xs.getD k 0 :: xs.drop (k + 1) := by
  rw [List.drop_eq_getElem_cons hk]
  simp [List.getD_eq_getElem?_getD, hk]
theorem take_snocB (xs : List Int) (k : Nat) (hk : k < xs.length) : xs.take (k + 1) = xs.take k ++ [xs.getD k 0] := by
  rw [List.take_succ_eq_append_getElem hk]
  simp [List.getD_eq_getElem?_getD, hk]
end Go.Proofs.Ytbakhodijhacoaa.BM
