/- Bytes in memory: what is owned, what a conversion to a string gives, an append; no function of the program; nothing is asked. -/
import Derived.Test.YtbmdkibmfkmjoaaGreatCore
namespace Go.Proofs.YtbmdkibmfkmjoaaGreat.BM
open Go.RowKit

theorem info_u8 : (Tryz.prog.info? 5).map (fun i => (i.zero, i.size, i.bytes)) = some (some (.int .u8 0), 1, 1) := by kernel_rfl

/-- What is owned reads as bytes. -/
theorem isB_own {w : World} {base n : Nat} {v : Value} {xs : List Int} (h : w.ownsRow base 5 1 v n (cs xs)) (hb : ∀ x ∈ xs, (0 : Int) ≤ x ∧ x < 256) (hn : 0 < n) :
    ∃ g cap, v = .slice (some ⟨g, 0, none⟩) xs.length cap ∧ n = xs.length ∧ base ≤ g ∧ g < w.heap.size ∧ xs.length ≤ cap ∧ IsB w (some ⟨g, 0, none⟩) xs := by
  have hl : xs.length = n := by have := h.1; simp [cs] at this; exact this
  subst hl
  rcases h.2 with ⟨_, h0⟩ | ⟨g, cap, cur, rfl, hg, hh, hcap, hrest⟩
  · omega
  · refine ⟨g, cap, rfl, rfl, hg, (h.lt g rfl).2, hcap, hb, fun _ => ⟨g, 0, rfl, fun j hj => ?_⟩⟩
    have hc := h.cells (g := g) rfl j (.int .u8 (xs.getD j 0)) (by simp [cs, List.getD_eq_getElem?_getD, hj])
    rw [Addr.add_lit] at hc
    exact hc

/-- string(b): the bytes, as a string. -/
theorem conv_any {w : World} {A : Option Addr} {xs : List Int} (h : IsB w A xs) (cap : Nat) (dst : TypeId) (hd : Tryz.prog.underlying dst = some .string) :
    (convert 26 dst (.slice A xs.length cap)).run Tryz.prog w = .ok (.string (strOfNums xs)) w := by
  by_cases hx : 0 < xs.length
  · obtain ⟨b, o, rfl, hc⟩ := h.2 hx
    exact run_convert_bytes_arg w 26 5 Tryz.underlying26 Tryz.underlying5 b o xs.length cap xs rfl hc dst hd
  · obtain rfl : xs = [] := List.eq_nil_of_length_eq_zero (by omega)
    match A with
    | none => exact run_convert_bytes_nil w 26 5 Tryz.underlying26 Tryz.underlying5 0 cap dst hd
    | some ⟨b, o, s⟩ =>
      rw [run_convert_bytes_string w 26 dst 5 _ _ cap Tryz.underlying26 Tryz.underlying5 hd]
      have h0 : (loadCells ⟨b, o, s⟩ 0).run Tryz.prog w = .ok (([] : List Int).map (Value.int .u8)).toArray w := by
        simpa using run_loadCells_list (P := Tryz.prog) w ⟨b, o, s⟩ [] (fun j v hj => by simp at hj)
      exact run_bytesToString w ⟨b, o, s⟩ 0 cap [] h0

/-- What is owned, and not empty: where it lies. -/
theorem own_form {w : World} {base n : Nat} {v : Value} {xs : List Int} (h : w.ownsRow base 5 1 v n (cs xs)) (hb : ∀ x ∈ xs, (0 : Int) ≤ x ∧ x < 256) (hn : 0 < n) :
    ∃ g cap, v = .slice (some ⟨g, 0, none⟩) n cap ∧ xs.length = n ∧ base ≤ g ∧ g < w.heap.size ∧ n ≤ cap ∧ IsB w (some ⟨g, 0, none⟩) xs := by
  obtain ⟨g, cap, hv, hl, h1, h2, h3, h4⟩ := isB_own h hb hn
  subst hl
  exact ⟨g, cap, hv, rfl, h1, h2, h3, h4⟩

set_option maxRecDepth 100000 in
/-- append onto bytes that are owned, whatever the source: nil, empty or not. -/
theorem wp_append_b {w : World} {ops : Array Oper} {rest : List Oper} {o : Oper} {a : Act} {Q : Exit → Act → World → Prop} (hgd : o.guard = none) (s x : Operand)
    (ho : o.op = .call { callee := .builtin .append, args := #[s, x], argTypes := #[26, 26] })
    (base : Nat) (v : Value) (n : Nat) (xs : List Int) (hs : a.eval s = v) (hown : w.ownsRow base 5 1 v n (cs xs))
    (A : Option Addr) (m c : Nat) (ys : List Int) (hx : a.eval x = .slice A m c) (hm : ys.length = m) (hB : IsB w A ys) (hnil : A = none → c = 0)
    (hsz : n + m ≤ 1000000000) (hbase : base ≤ w.heap.size)
    (h : ∀ v' w', w'.ownsRow base 5 1 v' (n + m) (cs (xs ++ ys)) → w.grownBy w' v.ownBlock → wpList Tryz.prog ops Q rest (a.put o.dst v') w') : wpList Tryz.prog ops Q (o :: rest) a w := by
  obtain ⟨i0, hi, hz0, hz1, hz2⟩ := info_parts info_u8
  have hcs : cs (xs ++ ys) = cs xs ++ cs ys := by simp [cs]
  match A, hx, hB, hnil with
  | none, hx, hB, hnil =>
    have hy : ys = [] := by
      rcases Nat.eq_zero_or_pos ys.length with h0 | h0
      · exact List.eq_nil_of_length_eq_zero h0
      · obtain ⟨b, q, he, _⟩ := hB.2 h0
        cases he
    subst hy
    simp only [List.length_nil] at hm
    subst hm
    obtain rfl := hnil rfl
    refine wpList_append_own_none hgd s x 26 ho base 5 i0 1 Tryz.underlying26 hi v n (cs xs) hs hown hx (h v w ?_ (World.grownBy.refl _ _))
    simpa using hown
  | some ad, hx, hB, _ =>
    refine wpList_append_own w hgd s x 26 ho base 5 i0 (.int .u8 0) 1 1 Tryz.underlying26 hi hz0 hz1 hz2 rfl (by decide) v n (cs xs) hs hown ad m c (cs ys) hx (by rw [cs_len, hm, Nat.mul_one]) ?_ (ints_oneCell .u8 ys) (by unfold maxLen; omega) (by omega) hbase ?_
    · intro j u hj
      have hjl : j < ys.length := by
        rw [← cs_len]
        exact (List.getElem?_eq_some_iff.1 hj).1
      obtain ⟨b, q, he, hc⟩ := hB.2 (by omega)
      injection he with he
      subst he
      rw [Addr.add_lit, hc j hjl]
      rw [← hj]
      simp [cs, List.getD_eq_getElem?_getD, hjl]
    · intro v' w' h1 h2 _
      exact h v' w' (by rw [hcs]; exact h1) h2

/-- New bytes in a block of their own. -/
theorem isB_new (w : World) (xs : List Int) (h : ∀ x ∈ xs, (0 : Int) ≤ x ∧ x < 256) : IsB (w.alloc (.cells (cs xs).toArray 5)) (some ⟨w.heap.size, 0, none⟩) xs := by
  refine ⟨h, fun _ => ⟨w.heap.size, 0, rfl, fun j hj => ?_⟩⟩
  rw [World.cell?_alloc_at (hn := rfl), Nat.zero_add]
  simp [cs, List.getD_eq_getElem?_getD, hj]

/-- []byte("..") of a constant text: new bytes in a block of their own, with a mark behind them. -/
theorem isB_const (w : World) (xs : List Int) (m : Nat × Nat) (h : ∀ x ∈ xs, (0 : Int) ≤ x ∧ x < 256) : IsB (w.alloc (.cells (cs xs).toArray 5 m)) (some ⟨w.heap.size, 0, none⟩) xs := by
  refine ⟨h, fun _ => ⟨w.heap.size, 0, rfl, fun j hj => ?_⟩⟩
  obtain ⟨p, q⟩ := m
  rw [World.cell?_alloc_mark, Nat.zero_add]
  simp [cs, List.getD_eq_getElem?_getD, hj]

theorem conv_const (w : World) (C : Array Value) (n c : Nat) :
    (convert 26 26 (.slice (some ⟨w.heap.size, 0, none⟩) n c)).run Tryz.prog (w.alloc (.cells C 5)) = .ok (.slice (some ⟨w.heap.size, 0, none⟩) n c) (w.alloc (.cells C 5 (C.size, C.size + 1))) :=
  Lib.run_convert_bytes_const (P := Tryz.prog) w 26 5 C n c Tryz.underlying26 Tryz.underlying5

/-- A cell of what is owned. -/
theorem own_cell {w : World} {base g n cap : Nat} {xs : List Int} (h : w.ownsRow base 5 1 (.slice (some ⟨g, 0, none⟩) n cap) n (cs xs)) (j : Nat) (hj : j < n) : w.cell? ⟨g, j, none⟩ = some (.int .u8 (xs.getD j 0)) := by
  have hl : xs.length = n := by have := h.1; simp [cs] at this; exact this
  rw [h.cellAt j (by omega)]
  simp [cs, List.getD_eq_getElem?_getD, hl, hj]

/-- A place of bytes of the call's own is stored. -/
theorem set_own {w : World} {base g n cap : Nat} {xs : List Int} (h : w.ownsRow base 5 1 (.slice (some ⟨g, 0, none⟩) n cap) n (cs xs)) (k : Nat) (c : Int) :
    (w.setCell ⟨g, k, none⟩ (.int .u8 c)).ownsRow base 5 1 (.slice (some ⟨g, 0, none⟩) n cap) n (cs (xs.set k c)) := by
  have h1 := (h.stored k (.int .u8 c)).1
  rw [show cs (xs.set k c) = (cs xs).set k (.int .u8 c) from by simp [cs, List.map_set]]
  exact h1

/-- Where owned bytes lie, if that is known. -/
theorem own_isB {w : World} {base g n cap : Nat} {xs : List Int} (h : w.ownsRow base 5 1 (.slice (some ⟨g, 0, none⟩) n cap) n (cs xs)) (hb : ∀ x ∈ xs, (0 : Int) ≤ x ∧ x < 256) : IsB w (some ⟨g, 0, none⟩) xs := by
  have hl : xs.length = n := by have := h.1; simp [cs] at this; exact this
  refine ⟨hb, fun hx => ⟨g, 0, rfl, fun j hj => ?_⟩⟩
  rw [Nat.zero_add]
  exact own_cell h j (by omega)

/-- What is owned, empty or not: it is a slice, and where it lies. -/
theorem own_any {w : World} {base n : Nat} {v : Value} {xs : List Int} (h : w.ownsRow base 5 1 v n (cs xs)) (hb : ∀ x ∈ xs, (0 : Int) ≤ x ∧ x < 256) :
    ∃ A cap, v = .slice A n cap ∧ xs.length = n ∧ n ≤ cap ∧ IsB w A xs ∧ (A = none → cap = 0) := by
  have hl : xs.length = n := by have := h.1; simp [cs] at this; exact this
  rcases h.2 with ⟨hv, h0⟩ | ⟨g, cap, cur, rfl, hg, hh, hcap, hrest⟩
  · subst hv
    subst h0
    exact ⟨none, 0, rfl, hl, Nat.le_refl _, ⟨hb, fun hx => by omega⟩, fun _ => rfl⟩
  · exact ⟨some ⟨g, 0, none⟩, cap, rfl, hl, hcap, own_isB h hb, fun h => by cases h⟩

theorem elem_b : Tryz.prog.underlying 26 = some (.slice (Tryz.prog.elem 26)) := by kernel_rfl

theorem size_b (w : World) : (sizeOf (Tryz.prog.elem 26)).run Tryz.prog w = .ok 1 w := by kernel_rfl

/-- b[:k] -/
theorem slice_hi (w : World) (A : Option Addr) (len cap k : Nat) (hk : k ≤ cap) :
    (Instr.sliceAt 26 (.slice A len cap) none (some (.int .i64 (k : Int))) none).run Tryz.prog w = .ok (.slice A k cap) w := by
  rw [run_sliceAt_slice w _ _ _ _ _ elem_b, run_slice_h w _ _ _ _ elem_b .i64 (k : Int) (by omega) (by omega), size_b]
  simp only [Result.andThen, sliced, Int.toNat_natCast, Nat.zero_mul, Nat.sub_zero]
  congr 2
  split
  · rfl
  · cases A <;> simp [Addr.add]

/-- b[k:] -/
theorem slice_lo (w : World) (A : Option Addr) (len cap k : Nat) (hk : k ≤ len) :
    (Instr.sliceAt 26 (.slice A len cap) (some (.int .i64 (k : Int))) none none).run Tryz.prog w = .ok (.slice (dropA A k cap) (len - k) (cap - k)) w := by
  rw [run_sliceAt_slice w _ _ _ _ _ elem_b, run_slice_l w _ _ _ _ elem_b .i64 (k : Int) (by omega) (by omega), size_b]
  simp only [Result.andThen, sliced, Int.toNat_natCast, Nat.mul_one]
  rfl
end Go.Proofs.YtbmdkibmfkmjoaaGreat.BM
