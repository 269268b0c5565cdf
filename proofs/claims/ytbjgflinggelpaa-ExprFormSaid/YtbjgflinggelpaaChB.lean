/- Several texts in one: what this layer has; what each asks is said at each theorem. -/
import Derived.Test.YtbjgflinggelpaaChA
import Derived.Test.YtbjgflinggelpaaOpRow
import Derived.Test.YtbjgflinggelpaaSlB
import Derived.Test.YtbjgflinggelpaaLeZig
import Derived.Test.YtbjgflinggelpaaValueHeld
import Derived.Test.YtbjgflinggelpaaSlCut
import Derived.Test.YtbjgflinggelpaaRegAppend
import Derived.Test.YtbjgflinggelpaaRegion
import Derived.Test.YtbjgflinggelpaaValueRefMay
import Derived.Test.YtbjgflinggelpaaExprPile
import Derived.Test.YtbjgflinggelpaaBx
import Derived.Test.YtbjgflinggelpaaLeMem
import Derived.BigQuiet
import Derived.Test.YtbjgflinggelpaaValueEq
import Derived.Deep.QuietTactic
import Derived.Test.YtbjgflinggelpaaValueApp

namespace Go.Proofs.Ytbjgflinggelpaa.ExM
open Go.RowKit Go.Proofs.Ytbjgflinggelpaa.LeM Go.Proofs.Ytbjgflinggelpaa.VaM Go.Proofs.Ytbjgflinggelpaa.BM Go.Proofs.Ytbjgflinggelpaa.EvM
open Go.Proofs.Ytbjgflinggelpaa.ScM (Rs rNum rNum_short rNum_iff rNum_le bytes_drop)
open Go.Proofs.Ytbjgflinggelpaa.Ex (Fin)

def rOne (r : Rs) : Int × Rs :=
  match r.1 with
  | [] => (0, ([], true))
  | x :: t => (x, (t, r.2))
def rPart (r : Rs) : O × Rs :=
  if (rOne r).1 = 0 then (⟨0, 0, (rVal (rOne r).2).1⟩, (rVal (rOne r).2).2)
  else if (rOne r).1 = 1 then (⟨1, (rOne (rOne r).2).1, v0⟩, (rOne (rOne r).2).2)
  else (⟨(rOne r).1, 0, v0⟩, (rOne r).2)
def rParts : Nat → Rs → List O × Rs
  | 0, r => ([], r)
  | n + 1, r => ((rParts n r).1 ++ [(rPart (rParts n r).2).1], (rPart (rParts n r).2).2)
def rExpr (xs : List Int) : List O × Rs := rParts (rNum 12 (xs, false)).1 (rNum 12 (xs, false)).2

theorem rOne_short {r : Rs} (h : r.2 = true) : (rOne r).2.2 = true := by
  unfold rOne
  split
  · rfl
  · exact h
theorem rPart_short {r : Rs} (h : r.2 = true) : (rPart r).2.2 = true := by
  unfold rPart
  split
  · exact rVal_short (rOne_short h)
  · split
    · exact rOne_short (rOne_short h)
    · exact rOne_short h
theorem rParts_short : ∀ {n : Nat} {r : Rs} (_ : r.2 = true), (rParts n r).2.2 = true
  | 0, _, h => h
  | _ + 1, _, h => rPart_short (rParts_short h)

theorem rPart_iff (xs : List Int) : match gO xs with
    | some (o, m) => rPart (xs, false) = (o, (xs.drop m, false))
    | none => (rPart (xs, false)).2.2 = true := by
  cases xs with
  | nil => exact rVal_short (r := ([], true)) rfl
  | cons c t =>
    have h1 : rOne (c :: t, false) = (c, (t, false)) := rfl
    by_cases h0 : c = 0
    · subst h0
      have hv := rVal_iff t
      rw [gO_push]
      unfold rPart
      rw [h1]
      simp only [if_true]
      cases hg : getP t with
      | none =>
        rw [hg] at hv
        exact hv
      | some p =>
        obtain ⟨v, m⟩ := p
        rw [hg] at hv
        simp only at hv ⊢
        rw [hv, Nat.add_comm 1 m, List.drop_succ_cons]
    · by_cases hc : c = 1
      · subst hc
        unfold rPart
        rw [h1]
        cases t with
        | nil => rfl
        | cons a t => rfl
      · rw [gO_other t h0 hc]
        unfold rPart
        rw [h1]
        simp only [if_neg h0, if_neg hc]
        rfl

theorem rParts_cons : ∀ (n : Nat) (r : Rs), rParts (n + 1) r = ((rPart r).1 :: (rParts n (rPart r).2).1, (rParts n (rPart r).2).2)
  | 0, r => rfl
  | n + 1, r => by
    have h := rParts_cons n r
    show ((rParts (n + 1) r).1 ++ [(rPart (rParts (n + 1) r).2).1], (rPart (rParts (n + 1) r).2).2) = _
    rw [h]
    rfl

theorem rParts_iff : ∀ (n : Nat) (xs : List Int), match gOs n xs with
    | some (l, m) => rParts n (xs, false) = (l, (xs.drop m, false))
    | none => (rParts n (xs, false)).2.2 = true
  | 0, xs => rfl
  | n + 1, xs => by
    have h := rPart_iff xs
    rw [rParts_cons]
    simp only [gOs]
    cases hg : gO xs with
    | none =>
      rw [hg] at h
      exact rParts_short h
    | some p =>
      obtain ⟨x, m⟩ := p
      rw [hg] at h
      simp only at h ⊢
      rw [h]
      have h2 := rParts_iff n (xs.drop m)
      cases hr : gOs n (xs.drop m) with
      | none =>
        rw [hr] at h2
        exact h2
      | some q =>
        obtain ⟨l, k⟩ := q
        rw [hr] at h2
        simp only at h2 ⊢
        rw [h2, List.drop_drop]

/-- What Get answers, by the reader. -/
theorem gL_read {xs : List Int} (hb : ∀ x ∈ xs, (0 : Int) ≤ x ∧ x < 256) :
    gotL (gL xs) = if (rExpr xs).2.2 = false ∧ May (rExpr xs).1 then ((rExpr xs).1, xs.length - (rExpr xs).2.1.length, true) else ([], 0, false) := by
  have h1 := rNum_iff 12 xs
  have hsome := fun l m => @gL_some xs hb l m
  unfold gL at hsome ⊢
  unfold rExpr
  cases e1 : getS xs with
  | none =>
    rw [e1] at h1
    simp only at h1
    rw [if_neg]
    · rfl
    · rintro ⟨h, _⟩
      rw [rParts_short h1] at h
      cases h
  | some p =>
    obtain ⟨n, u⟩ := p
    rw [e1] at h1 hsome
    simp only at h1 hsome ⊢
    by_cases hn : n ≤ 12
    · rw [if_pos hn] at h1 ⊢
      simp only [if_pos hn] at hsome
      rw [h1]
      have h2 := rParts_iff n (xs.drop u)
      cases e2 : gOs n (xs.drop u) with
      | none =>
        rw [e2] at h2
        simp only at h2 ⊢
        rw [if_neg]
        · rfl
        · rintro ⟨h, _⟩
          rw [h2] at h
          cases h
      | some q =>
        obtain ⟨l, k⟩ := q
        rw [e2] at h2 hsome
        simp only at h2 hsome ⊢
        rw [h2]
        by_cases hm : May l
        · have hle := (hsome l (u + k) (by rw [if_pos hm])).2.2.1
          rw [if_pos hm, if_pos ⟨rfl, hm⟩]
          simp only [gotL, List.drop_drop, List.length_drop]
          congr 2
          omega
        · rw [if_neg hm, if_neg (fun h => hm h.2)]
          rfl
    · rw [if_neg hn] at h1 ⊢
      rw [if_neg]
      · rfl
      · rintro ⟨h, _⟩
        rw [rParts_short h1] at h
        cases h

theorem rOne_good {r : Rs} (hb : ∀ x ∈ r.1, (0 : Int) ≤ x ∧ x < 256) : (0 ≤ (rOne r).1 ∧ (rOne r).1 < 256) ∧ (∀ x ∈ (rOne r).2.1, (0 : Int) ≤ x ∧ x < 256) ∧ (rOne r).2.1.length ≤ r.1.length := by
  unfold rOne
  split
  · exact ⟨⟨Int.le_refl _, (by decide : (0 : Int) < 256)⟩, (fun x hx => by cases hx), Nat.zero_le _⟩
  · rename_i x t h
    rw [h] at hb ⊢
    exact ⟨hb x (List.mem_cons_self ..), fun y hy => hb y (List.mem_cons_of_mem _ hy), by simp⟩

theorem fin_of {c a : Int} {v : V} (hc : 0 ≤ c ∧ c < 256) (ha : 0 ≤ a ∧ a < 256) (hv : Sm v) : Fin ⟨c, a, v⟩ := ⟨hv.1, hv.2, ⟨by show -9223372036854775808 ≤ c; omega, by show c ≤ 9223372036854775807; omega⟩, by show -9223372036854775808 ≤ a; omega, by show a ≤ 9223372036854775807; omega⟩

theorem rPart_good {r : Rs} (hb : ∀ x ∈ r.1, (0 : Int) ≤ x ∧ x < 256) : Fin (rPart r).1 ∧ (∀ x ∈ (rPart r).2.1, (0 : Int) ≤ x ∧ x < 256) ∧ (rPart r).2.1.length ≤ r.1.length := by
  obtain ⟨h1, h2, h3⟩ := rOne_good hb
  have hz : (0 : Int) ≤ 0 ∧ (0 : Int) < 256 := ⟨Int.le_refl _, by decide⟩
  unfold rPart
  split
  · have h5 := gotP_sm h2
    refine ⟨fin_of hz hz h5.1, bytes_drop h2 _, ?_⟩
    show (List.drop _ (rOne r).2.1).length ≤ _
    rw [List.length_drop]
    omega
  · split
    · obtain ⟨g1, g2, g3⟩ := rOne_good h2
      exact ⟨fin_of ⟨by decide, by decide⟩ g1 sm_v0, g2, Nat.le_trans g3 h3⟩
    · exact ⟨fin_of h1 hz sm_v0, h2, h3⟩

theorem rParts_good : ∀ (n : Nat) {r : Rs} (_ : ∀ x ∈ r.1, (0 : Int) ≤ x ∧ x < 256), (rParts n r).1.length = n ∧ (∀ x ∈ (rParts n r).1, Fin x) ∧ (∀ x ∈ (rParts n r).2.1, (0 : Int) ≤ x ∧ x < 256) ∧ (rParts n r).2.1.length ≤ r.1.length
  | 0, _, hb => ⟨rfl, (fun f hf => by cases hf), hb, Nat.le_refl _⟩
  | n + 1, r, hb => by
    obtain ⟨h1, h2, h3, h4⟩ := rParts_good n hb
    obtain ⟨g1, g2, g3⟩ := rPart_good h3
    refine ⟨by show ((rParts n r).1 ++ [_]).length = n + 1; rw [List.length_append, h1]; rfl, fun f hf => ?_, g2, ?_⟩
    · rcases List.mem_append.1 hf with h | h
      · exact h2 f h
      · obtain rfl := List.mem_singleton.1 h
        exact g1
    · show (rPart (rParts n r).2).2.1.length ≤ _
      omega
end Go.Proofs.Ytbjgflinggelpaa.ExM

namespace Go.Proofs.Ytbjgflinggelpaa.Ex
open Go.RowKit Go.Proofs.Ytbjgflinggelpaa.BM Go.Proofs.Ytbjgflinggelpaa.ExM

/-- What Get answers. -/
def Gots (xs : List Int) (w : World) : Ending → World → Prop := fun e w' =>
  ∃ A c, e = .returned (.tuple #[.slice A (gotL (gL xs)).1.length c, .int .i64 ((gotL (gL xs)).2.1 : Nat), .bool (gotL (gL xs)).2.2]) ∧ SlO w' A (gotL (gL xs)).1 c ∧ Below w.heap.size w w'
end Go.Proofs.Ytbjgflinggelpaa.Ex

namespace Go.Proofs.Ytbjgflinggelpaa.Ex
open Go.RowKit Go.Proofs.Ytbjgflinggelpaa.BM Go.Proofs.Ytbjgflinggelpaa.LM Go.Proofs.Ytbjgflinggelpaa.VaM Go.Proofs.Ytbjgflinggelpaa.Va Go.Proofs.Ytbjgflinggelpaa.ExM

theorem op_append_o {w : World} {o : Oper} {a : Act} {K' : Act → World → Prop} {Q : Exit → Act → World → Prop} (s x : Operand)
    (ho : o.op = .call { callee := .builtin .append, args := #[s, x], argTypes := #[28, 28] })
    (base : Nat) (v : Value) (n : Nat) (l : List O) (hs : a.eval s = v) (hown : w.ownsRow base 52 5 v n (l.flatMap encO))
    (A : Option Addr) (m c : Nat) (r : List O) (hx : a.eval x = .slice A m c) (hm : r.length = m) (hB : SlO w A r c)
    (hsz : n + m ≤ 1000000000) (hbase : base ≤ w.heap.size)
    (hk : ∀ v' w', w'.ownsRow base 52 5 v' (n + m) ((l ++ r).flatMap encO) → w.grownBy w' v.ownBlock → K' (a.put o.dst v') w') : o.wp Try.prog a w K' Q := by
  obtain ⟨⟨⟨us, h1, h2⟩, _, h3, _⟩, _⟩ := hB
  obtain rfl := elems_is h2
  exact tyO.op_append (K := KO) (fun _ => True) s x ho base v n (l.flatMap encO) l hs hown (elems_o _ _ _) A m c (r.flatMap encO) r hx hm h1 (elems_o _ _ _) h3 hsz hbase fun v' w' g1 _ g3 => hk v' w' (by rw [List.flatMap_append]; exact g1) g3

theorem wp_append_o {w : World} {ops : Array Oper} {rest : List Oper} {o : Oper} {a : Act} {Q : Exit → Act → World → Prop} (hgd : o.guard = none) (s x : Operand)
    (ho : o.op = .call { callee := .builtin .append, args := #[s, x], argTypes := #[28, 28] })
    (base : Nat) (v : Value) (n : Nat) (l : List O) (hs : a.eval s = v) (hown : w.ownsRow base 52 5 v n (l.flatMap encO))
    (A : Option Addr) (m c : Nat) (r : List O) (hx : a.eval x = .slice A m c) (hm : r.length = m) (hB : SlO w A r c)
    (hsz : n + m ≤ 1000000000) (hbase : base ≤ w.heap.size)
    (hk : ∀ v' w', w'.ownsRow base 52 5 v' (n + m) ((l ++ r).flatMap encO) → w.grownBy w' v.ownBlock → wpList Try.prog ops Q rest (a.put o.dst v') w') : wpList Try.prog ops Q (o :: rest) a w :=
  wpList_plain hgd fun _ hK2 => op_append_o s x ho base v n l hs hown A m c r hx hm hB hsz hbase fun v' w' g1 g2 => hK2 _ _ (hk v' w' g1 g2)
end Go.Proofs.Ytbjgflinggelpaa.Ex

namespace Go.Proofs.Ytbjgflinggelpaa.Ex
open Go.RowKit Go.Proofs.Ytbjgflinggelpaa.BM Go.Proofs.Ytbjgflinggelpaa.VaM Go.Proofs.Ytbjgflinggelpaa.Va Go.Proofs.Ytbjgflinggelpaa.ExM Go.Proofs.Ytbjgflinggelpaa.EvM

/-- An expression of few parts, of few bytes. -/
def Few (l : List O) : Prop := l.length ≤ 20 ∧ ∀ i, i < l.length → (l.getD i o0).v.s.size ≤ 100
instance (l : List O) : Decidable (Few l) := by unfold Few; infer_instance

set_option maxRecDepth 100000 in
set_option maxHeartbeats 1000000 in
theorem Few_any (l : List O) (A : Option Addr) (c : Nat) (w : World) (hS : SlO w A l c) :
    Calls Try.prog 14 #[.slice A l.length c] w fun e w' => e = .returned (.bool (decide (Few l))) ∧ Below w.heap.size w w' := by
  have hl := slO_len hS
  have hfew : Few l ↔ l.length ≤ 20 ∧ ∀ i, i < l.length → (l.getD i o0).v.s.size ≤ 100 := Iff.rfl
  obtain ⟨n, hn⟩ : ∃ n, n = l.length := ⟨_, rfl⟩
  rw [← hn] at hl hfew ⊢
  have HLen := Lib.hid hn
  have HS := Lib.hid hS
  have HFew := Lib.hid hfew
  clear hn hS hfew
  by_cases m1 : n ≤ 20
  · have hd1 : decide ((20 : Int) < (n : Int)) = false := by rw [decide_eq_false_iff_not]; omega
    have HF := Lib.hid (show Few l ↔ ∀ i, i < n → (l.getD i o0).v.s.size ≤ 100 from ⟨fun h => (HFew.out.1 h).2, fun h => HFew.out.2 ⟨m1, h⟩⟩)
    clear m1 HFew
    go_enter Try.func14, Try.ntmps14
    go_wp2_with fail
    go_loopw [3] (fun i wr => ∃ j : Nat, i = .int .i64 j ∧ j ≤ n ∧ (∀ r, r < j → (l.getD r o0).v.s.size ≤ 100) ∧ wr = w) (fun i _ => n - (intOf i).toNat)
    case atStart => exact ⟨0, rfl, Nat.zero_le _, fun r hr => absurd hr (Nat.not_lt_zero r), rfl⟩
    case round =>
      obtain ⟨j, rfl, hj, hall, rfl⟩ := hrel
      have HAl := Lib.hid hall
      clear hall
      by_cases hjn : j < n
      · obtain ⟨b, q, hix, hc, hfz⟩ := HS.out.at j (by rw [← HLen.out]; exact hjn)
        obtain ⟨⟨fc, fa, fk, fn, fs⟩, hf⟩ : ∃ f, f = l.getD j o0 := ⟨_, rfl⟩
        rw [← hf] at hc hfz
        obtain ⟨_, _, _, _, c0⟩ := hc wr (Below.refl _ _)
        have hsz := hfz.1
        simp only at c0 hsz
        unfold maxLen at hsz
        have hi := fun W => hix W n c hjn
        have HFl := Lib.hid hf
        clear hc hix hf hfz
        by_cases h60 : fs.size ≤ 100
        · have hd3 : decide ((100 : Int) < (fs.size : Int)) = false := by rw [decide_eq_false_iff_not]; omega
          have HY := Lib.hid h60
          clear h60
          go_wp2_with fail
          go_roundw
          case rel =>
            refine ⟨j + 1, by go_num, by omega, fun r hr => ?_, by trivial⟩
            by_cases e : r = j
            · rw [e, ← HFl.out]
              exact HY.out
            · exact HAl.out r (by omega)
          case measure => simp [intOf]; omega
        · have hd3 : decide ((100 : Int) < (fs.size : Int)) = true := by rw [decide_eq_true_iff]; omega
          have HNo := Lib.hid (show ¬ Few l from fun h => h60 (by have := HF.out.1 h j hjn; rw [← HFl.out] at this; exact this))
          clear h60
          go_wp2_with fail
          go_ret
          exact ⟨ret_v (x := .bool false) (by rw [decide_eq_false HNo.out]), Below.refl _ _⟩
      · obtain rfl : j = n := by omega
        have HYes := Lib.hid (HF.out.2 HAl.out)
        go_wp2_with fail
        go_ret
        exact ⟨ret_v (x := .bool true) (by rw [decide_eq_true HYes.out]), Below.refl _ _⟩
  · have hd1 : decide ((20 : Int) < (n : Int)) = true := by rw [decide_eq_true_iff]; omega
    have HNo := Lib.hid (show ¬ Few l from fun h => m1 (HFew.out.1 h).1)
    clear m1
    go_enter Try.func14, Try.ntmps14
    go_wp2_with fail
    go_ret
    exact ⟨ret_v (x := .bool false) (by rw [decide_eq_false HNo.out]), Below.refl _ _⟩

/-- Parts that the program lays down in a block of their own. -/
theorem slO_new (w : World) (l : List O) (hf : ∀ x ∈ l, Fin x) (hl : l.length ≤ maxLen) : SlO (w.alloc (.cells (l.flatMap encO).toArray 52)) (some ⟨w.heap.size, 0, none⟩) l l.length := by
  refine ⟨⟨⟨l.flatMap encO, fun _ => ⟨w.heap.size, 0, rfl, fun j u hj => ?_⟩, elems_o _ _ _⟩, Nat.le_refl _, (fun h => by cases h), hl⟩, hf⟩
  rw [World.cell?_alloc_at (hn := rfl), Nat.zero_add]
  simpa using hj

/-- Is the first value less than a number? -/
def belowL (n : Int) : List O := [⟨1, 0, v0⟩, ⟨0, 0, ⟨0, n, e0⟩⟩, ⟨5, 0, v0⟩]

theorem below_fin {n : Int} (h0 : -9223372036854775808 ≤ n) (h1 : n ≤ 9223372036854775807) : ∀ x ∈ belowL n, Fin x := by
  intro x hx
  simp only [belowL, List.mem_cons, List.not_mem_nil, or_false] at hx
  rcases hx with rfl | rfl | rfl
  · exact ⟨Nat.zero_le _, ⟨by decide, by decide⟩, ⟨by decide, by decide⟩, by decide, by decide⟩
  · exact ⟨Nat.zero_le _, ⟨h0, h1⟩, ⟨(by decide : (-9223372036854775808 : Int) ≤ 0), (by decide : (0 : Int) ≤ 9223372036854775807)⟩, (by decide : (-9223372036854775808 : Int) ≤ 0), (by decide : (0 : Int) ≤ 9223372036854775807)⟩
  · exact ⟨Nat.zero_le _, ⟨by decide, by decide⟩, ⟨by decide, by decide⟩, by decide, by decide⟩

set_option maxRecDepth 100000 in
theorem Below_any (n : Int) (w : World) (h0 : -9223372036854775808 ≤ n) (h1 : n ≤ 9223372036854775807) :
    Calls Try.prog 30 #[.int .i64 n] w fun e w' => ∃ A, e = .returned (.slice A 3 3) ∧ SlO w' A (belowL n) 3 ∧ Below w.heap.size w w' := by
  have HS := Lib.hid (slO_new w (belowL n) (below_fin h0 h1) (show 3 ≤ maxLen from by unfold maxLen; decide))
  have HB := Lib.hid ((Below.refl w.heap.size w).alloc (Nat.le_refl _) (.cells ((belowL n).flatMap encO).toArray 52))
  go_enter Try.func30, Try.ntmps30
  go_wp2_with fail
  go_ret
  exact ⟨some ⟨w.heap.size, 0, none⟩, rfl, HS.out, HB.out⟩
end Go.Proofs.Ytbjgflinggelpaa.Ex

namespace Go.Proofs.Ytbjgflinggelpaa.Va
open Go.RowKit Go.Proofs.Ytbjgflinggelpaa.BM Go.Proofs.Ytbjgflinggelpaa.LM Go.Proofs.Ytbjgflinggelpaa.LeM Go.Proofs.Ytbjgflinggelpaa.LeZ Go.Proofs.Ytbjgflinggelpaa.VaM

def rdV (k : Int) (n : Nat) (ys : List Int) : V × Nat × Bool :=
  if k = 0 then (⟨0, zag n, e0⟩, 0, true) else if k = 2 then (if n ≤ 40 ∧ n ≤ ys.length then (⟨2, 0, strOfNums (ys.take n)⟩, n, true) else (⟨0, 0, e0⟩, 0, false)) else (⟨k, wrap64 n, e0⟩, 0, true)

/-- A value, how many bytes, and whether. -/
def got3 (r : V × Nat × Bool) : Value := .tuple #[.agg #[.int .i64 r.1.k, .int .i64 r.1.n, .string r.1.s], .int .i64 (r.2.1 : Int), .bool r.2.2]

set_option maxRecDepth 100000 in
theorem read_any (k : Int) (n : Nat) (A : Option Addr) (ys : List Int) (c : Nat) (w : World) (hn : n < 18446744073709551616) (hy : SlB w A ys c) (h64 : ys.length ≤ 9223372036854775807) :
    Calls Try.prog 90 #[.int .i64 k, .int .u64 n, .slice A ys.length c] w fun e w' => e = .returned (got3 (rdV k n ys)) ∧ Below w.heap.size w w' := by
  have HB := Lib.hid (fun C => (Below.refl w.heap.size w).alloc (Nat.le_refl _) (.cells C 38))
  by_cases k0 : k = 0
  · subst k0
    have HZ := Lib.hid (fun W => Zag_any (n : Int) W (by omega) (by omega))
    have HR := Lib.hid (show got3 (rdV 0 n ys) = .tuple #[.agg #[.int .i64 0, .int .i64 (zag n), .string ⟨#[]⟩], .int .i64 0, .bool true] from by rw [rdV, if_pos rfl]; rfl)
    clear hy
    go_enter Try.func90, Try.ntmps90
    go_wp2_with fail
    refine (HZ.out _).mono ?_
    rintro e w1 ⟨rfl, rfl⟩
    go_wp2_with fail
    obtain ⟨⟨r0, r1, r2⟩, _⟩ := bx_new w (.int .i64 0) (.int .i64 (zag n)) (.string ⟨#[]⟩)
    exact bodyPost_ret (v := .tuple #[.agg #[.int .i64 0, .int .i64 (zag n), .string ⟨#[]⟩], .int .i64 0, .bool true]) (by simp [results, Try.results90, go_sem]) rfl ⟨ret_v HR.out, HB.out _⟩
  · by_cases k2 : k = 2
    · subst k2
      by_cases hc : n ≤ 40 ∧ n ≤ ys.length
      · have HR := Lib.hid (show got3 (rdV 2 n ys) = .tuple #[.agg #[.int .i64 2, .int .i64 0, .string (strOfNums (ys.take n))], .int .i64 n, .bool true] from by rw [rdV, if_neg k0, if_pos rfl, if_pos hc]; rfl)
        have hcap := hy.2.1
        have hlt : (ys.take n).length = n := by rw [List.length_take]; omega
        have sl := fun W => Cut.slice_hi_k .u64 W A ys.length c n (by omega)
        have cv := fun W (hW : Below w.heap.size w W) => conv_any (isB_take (isB_kept hy.1 hW) n) c 9 Try.underlying9
        obtain ⟨L, hL⟩ : ∃ L, L = ys.length := ⟨_, rfl⟩
        obtain ⟨S, hS⟩ : ∃ S, S = strOfNums (ys.take n) := ⟨_, rfl⟩
        rw [← hS] at HR
        simp only [hlt, ← hS] at cv
        rw [← hL] at sl hc h64 ⊢
        have hcv := cv _ (HB.out #[.int .i64 0, .int .i64 0, .string ⟨#[]⟩])
        obtain ⟨hc1, hc2⟩ := hc
        clear hy hL hS hlt hcap cv
        go_enter Try.func90, Try.ntmps90
        go_wp2_with fail
        obtain ⟨⟨r0, r1, r2⟩, _⟩ := bx_new w (.int .i64 2) (.int .i64 0) (.string S)
        exact bodyPost_ret (v := .tuple #[.agg #[.int .i64 2, .int .i64 0, .string S], .int .i64 n, .bool true]) (by simp [results, Try.results90, go_sem]) rfl ⟨ret_v HR.out, HB.out _⟩
      · have HR := Lib.hid (show got3 (rdV 2 n ys) = .tuple #[.agg #[.int .i64 0, .int .i64 0, .string ⟨#[]⟩], .int .i64 0, .bool false] from by rw [rdV, if_neg k0, if_pos rfl, if_neg hc]; rfl)
        obtain ⟨L, hL⟩ : ∃ L, L = ys.length := ⟨_, rfl⟩
        rw [← hL] at hc h64 ⊢
        clear hy hL
        go_enter Try.func90, Try.ntmps90
        go_wp2_with fail
        obtain ⟨⟨r0, r1, r2⟩, _⟩ := bx_new w (.int .i64 0) (.int .i64 0) (.string ⟨#[]⟩)
        exact bodyPost_ret (v := .tuple #[.agg #[.int .i64 0, .int .i64 0, .string ⟨#[]⟩], .int .i64 0, .bool false]) (by simp [results, Try.results90, go_sem]) rfl ⟨ret_v HR.out, HB.out _⟩
    · have HR := Lib.hid (show got3 (rdV k n ys) = .tuple #[.agg #[.int .i64 k, .int .i64 (wrap64 n), .string ⟨#[]⟩], .int .i64 0, .bool true] from by rw [rdV, if_neg k0, if_neg k2]; rfl)
      have b0 : (k == 0) = false := by simpa using k0
      have b2 : (k == 2) = false := by simpa using k2
      clear hy
      go_enter Try.func90, Try.ntmps90
      go_wp2_with fail
      obtain ⟨⟨r0, r1, r2⟩, _⟩ := bx_new w (.int .i64 k) (.int .i64 (wrap64 n)) (.string ⟨#[]⟩)
      exact bodyPost_ret (v := .tuple #[.agg #[.int .i64 k, .int .i64 (wrap64 n), .string ⟨#[]⟩], .int .i64 0, .bool true]) (by simp [results, Try.results90, go_sem]) rfl ⟨ret_v HR.out, HB.out _⟩
end Go.Proofs.Ytbjgflinggelpaa.Va

namespace Go.Proofs.Ytbjgflinggelpaa.Va
open Go.RowKit Go.Proofs.Ytbjgflinggelpaa.BM Go.Proofs.Ytbjgflinggelpaa.LM Go.Proofs.Ytbjgflinggelpaa.LeM Go.Proofs.Ytbjgflinggelpaa.LeZ Go.Proofs.Ytbjgflinggelpaa.VaM

/-- Get by read: behind the kind and the number. -/
theorem getP_read {k : Int} {t : List Int} {n u : Nat} (hg : getS t = some (n, u)) (hn : n < 18446744073709551616) :
    getP (k :: t) = if (rdV k n (t.drop u)).2.2 = true ∧ May (rdV k n (t.drop u)).1 then some ((rdV k n (t.drop u)).1, 1 + u + (rdV k n (t.drop u)).2.1) else none := by
  show getB k t (getS t) = _
  rw [hg]
  simp only [getB]
  unfold rdV
  by_cases k0 : k = 0
  · rw [if_pos k0, if_pos k0, if_pos ⟨rfl, Or.inr ⟨rfl, Or.inl rfl⟩⟩]
    rfl
  · rw [if_neg k0, if_neg k0]
    by_cases k2 : k = 2
    · rw [if_pos k2, if_pos k2, List.length_drop]
      by_cases hc : n ≤ 40 ∧ n ≤ t.length - u
      · rw [if_pos hc, if_pos hc, if_pos ⟨rfl, Or.inl ⟨rfl, rfl, by simp only; rw [size_str, List.length_take]; omega⟩⟩]
      · rw [if_neg hc, if_neg hc, if_neg (by simp)]
    · rw [if_neg k2, if_neg k2]
      simp only [true_and, Nat.add_zero]
      by_cases hc : (k = 1 ∧ n ≤ 1) ∨ (k = 3 ∧ n ≤ 1125899906842624)
      · have hw : wrap64 (n : Int) = n := IntWalk.wrap64_in _ (by omega)
        rw [if_pos hc, hw, if_pos]
        refine Or.inr ⟨rfl, Or.inr ?_⟩
        rcases hc with ⟨c1, c2⟩ | ⟨c1, c2⟩
        · exact Or.inl ⟨c1, by simp only; omega⟩
        · exact Or.inr ⟨c1, by simp only; omega, by simp only; omega⟩
      · rw [if_neg hc, if_neg]
        rintro (⟨h1, _⟩ | ⟨_, h1 | ⟨h1, h2⟩ | ⟨h1, h2, h3⟩⟩)
        · exact k2 h1
        · exact k0 h1
        · simp only at h1 h2
          unfold wrap64 at h2
          omega
        · simp only at h1 h2 h3
          unfold wrap64 at h2 h3
          omega

/-- b[0] -/
theorem index_0 (w : World) (b o len cap : Nat) (h : 0 < len) : (Instr.indexAt 29 (.slice (some ⟨b, o, none⟩) len cap) (.int .i64 0)).run Try.prog w = .ok (.pointer (some ⟨b, o, none⟩)) w := by
  rw [run_indexAt_slice w _ _ _ _ _ _ elem_b, if_pos (by omega), size_b]
  simp [Result.andThen, Addr.add_lit]

/-- b[1:] -/
theorem slice_1 (w : World) (A : Option Addr) (len cap : Nat) :
    (Instr.sliceAt 29 (.slice A (len + 1) cap) (some (.int .i64 1)) none none).run Try.prog w = .ok (.slice (dropA A 1 cap) len (cap - 1)) w := by
  have h := slice_lo w A (len + 1) cap 1 (by omega)
  rw [Nat.add_sub_cancel] at h
  exact h

/-- What Get leaves. -/
def Gots (xs : List Int) (w : World) : Ending → World → Prop := fun e w' => e = .returned (got3 (gotP (getP xs))) ∧ Below w.heap.size w w'

set_option maxRecDepth 100000 in
theorem Get_nil (A : Option Addr) (c : Nat) (w : World) : Calls Try.prog 83 #[.slice A 0 c] w (Gots [] w) := by
  go_enter Try.func83, Try.ntmps83
  go_wp2_with fail
  obtain ⟨⟨r0, r1, r2⟩, _⟩ := bx_new w (.int .i64 0) (.int .i64 0) (.string ⟨#[]⟩)
  exact bodyPost_ret (v := .tuple #[.agg #[.int .i64 0, .int .i64 0, .string ⟨#[]⟩], .int .i64 0, .bool false]) (by simp [results, Try.results83, go_sem]) rfl ⟨rfl, (Below.refl _ _).alloc (Nat.le_refl _) _⟩

set_option maxRecDepth 100000 in
theorem Get_no (A : Option Addr) (k : Int) (t : List Int) (c : Nat) (w : World) (h : SlB w A (k :: t) c) (hg : getS t = none) : Calls Try.prog 83 #[.slice A (k :: t).length c] w (Gots (k :: t) w) := by
  have hm := h.2.2.2
  have hc := h.2.1
  unfold maxLen at hm
  rw [List.length_cons] at hc ⊢
  have hB := (Below.refl w.heap.size w).alloc (Nat.le_refl _) (.cells #[.int .i64 0, .int .i64 0, .string ⟨#[]⟩] 38)
  have hr : gotP (getP (k :: t)) = (⟨0, 0, e0⟩, 0, false) := by
    rw [show getP (k :: t) = getB k t (getS t) from rfl, hg]
    rfl
  have hsl := fun W => slice_1 W A t.length c
  obtain ⟨D, hD⟩ : ∃ D, D = dropA A 1 c := ⟨_, rfl⟩
  have hd := (Cut.slB_drop h 1 (by simp)).kept hB
  rw [← hD] at hsl hd
  have hGet := LeG.Get_any D t (c - 1) _ (by omega) hd.1
  rw [hg] at hGet
  have HG := Lib.hid hGet
  have HR := Lib.hid hr
  obtain ⟨L, hL⟩ : ∃ L, L = t.length := ⟨_, rfl⟩
  rw [← hL] at hsl HG hc ⊢
  have HB := Lib.hid hB
  clear hB hr hD hd hGet hg hL h
  go_enter Try.func83, Try.ntmps83
  go_wp2_with fail
  refine HG.out.mono ?_
  rintro e w1 ⟨rfl, rfl⟩
  simp only [LeG.gotV]
  go_wp2_with fail
  obtain ⟨⟨r0, r1, r2⟩, _⟩ := bx_new w (.int .i64 0) (.int .i64 0) (.string ⟨#[]⟩)
  exact bodyPost_ret (v := .tuple #[.agg #[.int .i64 0, .int .i64 0, .string ⟨#[]⟩], .int .i64 0, .bool false]) (by simp [results, Try.results83, go_sem]) rfl ⟨ret_v (by rw [HR.out]; rfl), HB.out⟩

set_option maxRecDepth 100000 in
set_option maxHeartbeats 2000000 in
theorem Get_yes (A : Option Addr) (b o : Nat) (hA : A = some ⟨b, o, none⟩) (k : Int) (t : List Int) (c : Nat) (w : World) (h : SlB w A (k :: t) c) (n u : Nat) (hg : getS t = some (n, u)) : Calls Try.prog 83 #[.slice A (k :: t).length c] w (Gots (k :: t) w) := by
  have hm := h.2.2.2
  have hc := h.2.1
  unfold maxLen at hm
  rw [List.length_cons] at hc ⊢
  have htb : ∀ x ∈ t, (0 : Int) ≤ x ∧ x < 256 := fun x hx => h.1.1 x (List.mem_cons_of_mem _ hx)
  have hk := h.1.1 k (by simp)
  obtain ⟨hn, hu, hpu⟩ := (getS_iff t htb n u).1 hg
  have hu10 : u ≤ 10 := by
    have h10 := putL_len64 hn
    rw [hpu, List.length_take] at h10
    omega
  clear hpu
  have hB := (Below.refl w.heap.size w).alloc (Nat.le_refl _) (.cells #[.int .i64 0, .int .i64 0, .string ⟨#[]⟩] 38)
  have hr := getP_read (k := k) hg hn
  have hdl : (t.drop u).length = t.length - u := List.length_drop
  obtain ⟨rk, rn, rs, more, is, hrd⟩ : ∃ rk rn rs more is, rdV k n (t.drop u) = (⟨rk, rn, rs⟩, more, is) := ⟨_, _, _, _, _, rfl⟩
  have hsl := fun W => slice_1 W A t.length c
  have hsl2 := fun W => slice_lo W A (t.length + 1) c (1 + u) (by omega)
  have hd := (Cut.slB_drop h 1 (by simp)).kept hB
  have hcell : w.cell? ⟨b, o, none⟩ = some (.int .u8 k) := by
    rw [hA] at h
    have h0 := isB_cell h.1 0 (by simp)
    rw [Nat.add_zero, List.getD_cons_zero] at h0
    exact h0
  have hix : ∀ W, (Instr.indexAt 29 (.slice A (t.length + 1) c) (.int .i64 0)).run Try.prog W = .ok (.pointer (some ⟨b, o, none⟩)) W := fun W => by
    rw [hA]
    exact index_0 W b o _ c (by omega)
  obtain ⟨D, hD⟩ : ∃ D, D = dropA A 1 c := ⟨_, rfl⟩
  obtain ⟨E, hE⟩ : ∃ E, E = dropA A (1 + u) c := ⟨_, rfl⟩
  have hd2 := Cut.slB_drop h (1 + u) (by rw [List.length_cons]; omega)
  rw [Nat.add_comm 1 u, List.drop_succ_cons, Nat.add_comm u 1] at hd2
  rw [← hD] at hsl hd
  rw [← hE] at hsl2 hd2
  have hGet := LeG.Get_any D t (c - 1) _ (by omega) hd.1
  rw [hg] at hGet
  have HG := Lib.hid hGet
  have hrd' := fun W (hW : Below w.heap.size w W) => read_any k n E (t.drop u) (c - (1 + u)) W hn (hd2.kept hW) (by omega)
  rw [hrd] at hr
  simp only [hrd, hdl] at hrd'
  simp only at hr
  have hmore : (more : Int) ≤ 40 := by
    have h1 : more = (rdV k n (t.drop u)).2.1 := by rw [hrd]
    rw [h1]
    unfold rdV
    split
    · simp
    · split
      · split
        · simp only; omega
        · simp
      · simp
  obtain ⟨L, hL⟩ : ∃ L, L = t.length := ⟨_, rfl⟩
  rw [← hL] at hsl hsl2 HG hc hu ⊢
  simp only [← hL] at hix
  simp only [← hL] at hrd'
  rw [show L + 1 - (1 + u) = L - u from by omega, show ((1 + u : Nat) : Int) = 1 + (u : Int) from by omega] at hsl2
  have hcell' := fun W (hW : Below (w.alloc (.cells #[.int .i64 0, .int .i64 0, .string ⟨#[]⟩] 38)).heap.size (w.alloc (.cells #[.int .i64 0, .int .i64 0, .string ⟨#[]⟩] 38)) W) => show W.cell? ⟨b, o, none⟩ = some (.int .u8 k) from by
    rw [(bt hB hW).cell (World.block_lt_of_cell? w _ hcell)]
    exact hcell
  have HRd := Lib.hid (fun W (hW : Below (w.alloc (.cells #[.int .i64 0, .int .i64 0, .string ⟨#[]⟩] 38)).heap.size (w.alloc (.cells #[.int .i64 0, .int .i64 0, .string ⟨#[]⟩] 38)) W) => hrd' W (bt hB hW))
  have HC := Lib.hid hcell'
  have HR := Lib.hid hr
  have HB := Lib.hid hB
  have HX := Lib.hid (bx_new w (.int .i64 0) (.int .i64 0) (.string ⟨#[]⟩))
  clear hA hB hr hD hE hd hd2 hGet hg hL h hrd hrd' hcell hcell' htb hdl
  go_enter Try.func83, Try.ntmps83
  go_wp2_with fail
  refine HG.out.mono ?_
  rintro e w1 ⟨rfl, rfl⟩
  simp only [LeG.gotV]
  obtain ⟨w1, hw1⟩ : ∃ w1, w1 = w.alloc (.cells #[.int .i64 0, .int .i64 0, .string ⟨#[]⟩] 38) := ⟨_, rfl⟩
  rw [← hw1] at HRd HC HB HX ⊢
  have hsz1 : w.heap.size ≤ w1.heap.size := HB.out.size
  clear hw1 HG
  go_wp2_with fail
  refine RegB.GS_start (fun x => Below w1.heap.size w1 x) (by kernel_rfl) (by repeat (first | exact Reg.frameless_bodyPost | refine Reg.frameless_then ?_ | refine Reg.frameless_inBlock ?_)) (fun W hW => hW) (fun W hW => ?_)
  have HW := Lib.hid hW
  have x0 : ∀ x : RegB.At (fun x => Below w1.heap.size w1 x), x.world.cell? ⟨b, o, none⟩ = some (.int .u8 k) := fun x => HC.out _ x.ok
  haveI : Nonempty (RegB.At (fun x => Below w1.heap.size w1 x)) := ⟨⟨W, hW⟩⟩
  clear hW
  first | (refine RegB.GS_step (i := 0) rfl (by kernel_rfl) (by rfl) (fun K hK => ?_); go_big_quiet_op; refine hK _ ?_; clear hK K)
  first | (refine RegB.GS_step (i := 1) rfl (by kernel_rfl) (by rfl) (fun K hK => ?_); go_big_quiet_op; refine hK _ ?_; clear hK K)
  first | (refine RegB.GS_step (i := 2) rfl (by kernel_rfl) (by rfl) (fun K hK => ?_); go_big_quiet_op; refine hK _ ?_; clear hK K)
  first | (refine RegB.GS_step (i := 3) rfl (by kernel_rfl) (by rfl) (fun K hK => ?_); go_big_quiet_op; refine hK _ ?_; clear hK K)
  first | (refine RegB.GS_step (i := 4) rfl (by kernel_rfl) (by rfl) (fun K hK => ?_); go_big_quiet_op; refine hK _ ?_; clear hK K)
  first | (refine RegB.GS_step (i := 5) rfl (by kernel_rfl) (by rfl) (fun K hK => ?_); go_big_quiet_op; refine hK _ ?_; clear hK K)
  first | (refine RegB.GS_step (i := 6) rfl (by kernel_rfl) (by rfl) (fun K hK => ?_); go_big_quiet_op; refine hK _ ?_; clear hK K)
  first | (refine RegB.GS_step (i := 7) rfl (by kernel_rfl) (by rfl) (fun K hK => ?_); go_big_quiet_op; refine hK _ ?_; clear hK K)
  refine RegB.GS_fork (i := 8) (j := 13) rfl rfl (by kernel_rfl) (by rfl) (by rfl) (fun K hK => ?_) (fun K hK => ?_)
  focus
    go_simp
    refine (HRd.out _ HW.out).mono ?_
    rintro e w4 ⟨rfl, hB4⟩
    simp only [got3]
    refine hK _ _ (bt HW.out hB4) ?_
    clear hK K
    first | (refine RegB.GS_step (i := 9) rfl (by kernel_rfl) (by rfl) (fun K hK => ?_); go_big_quiet_op; refine hK _ ?_; clear hK K)
    first | (refine RegB.GS_step (i := 10) rfl (by kernel_rfl) (by rfl) (fun K hK => ?_); go_big_quiet_op; refine hK _ ?_; clear hK K)
    first | (refine RegB.GS_step (i := 11) rfl (by kernel_rfl) (by rfl) (fun K hK => ?_); go_big_quiet_op; refine hK _ ?_; clear hK K)
    first | (refine RegB.GS_step (i := 12) rfl (by kernel_rfl) (by rfl) (fun K hK => ?_); go_big_quiet_op; refine hK _ ?_; clear hK K)
    refine RegB.GS_event (i := 13) rfl (by kernel_rfl) (by rfl) (fun K hK => ?_)
    go_simp
    refine hK _ _ (bt HW.out (bt hB4 ((Below.refl _ _).alloc (Nat.le_refl _) _))) ?_
    clear hK K
    refine RegB.GS_event (i := 14) rfl (by kernel_rfl) (by rfl) (fun K hK => ?_)
    go_simp
    refine hK _ _ (bt HW.out (bt hB4 ((Below.refl _ _).alloc (Nat.le_refl _) _))) ?_
    clear hK K
    first | (refine RegB.GS_step (i := 15) rfl (by kernel_rfl) (by rfl) (fun K hK => ?_); go_big_quiet_op; refine hK _ ?_; clear hK K)
    first | (refine RegB.GS_step (i := 16) rfl (by kernel_rfl) (by rfl) (fun K hK => ?_); go_big_quiet_op; refine hK _ ?_; clear hK K)
    refine RegB.GS_done (by kernel_rfl) ?_
    have hbx := bx_new w4 (.int .i64 rk) (.int .i64 rn) (.string rs)
    have hbel := bt HW.out (bt hB4 ((Below.refl _ w4).alloc (Nat.le_refl _) (.cells #[.int .i64 rk, .int .i64 rn, .string rs] 38)))
    obtain ⟨bk, hbk⟩ : ∃ bk, bk = w4.heap.size := ⟨_, rfl⟩
    obtain ⟨w5, hw5⟩ : ∃ w5, w5 = w4.alloc (.cells #[.int .i64 rk, .int .i64 rn, .string rs] 38) := ⟨_, rfl⟩
    rw [← hw5] at hbx hbel ⊢
    rw [← hbk] at hbx ⊢
    have HBk := Lib.hid hbx
    have HB5 := Lib.hid hbel
    clear hbx hbel hB4 hbk hw5
  rotate_left
  focus
    go_simp
    refine hK _ _ (bt HW.out ((Below.refl _ _).alloc (Nat.le_refl _) _)) ?_
    clear hK K
    refine RegB.GS_event (i := 8) rfl (by kernel_rfl) (by rfl) (fun K hK => ?_)
    go_simp
    refine (HRd.out _ (bt HW.out ((Below.refl _ _).alloc (Nat.le_refl _) _))).mono ?_
    rintro e w4 ⟨rfl, hB4⟩
    simp only [got3]
    refine hK _ _ (bt HW.out (bt ((Below.refl _ _).alloc (Nat.le_refl _) _) hB4)) ?_
    clear hK K
    first | (refine RegB.GS_step (i := 9) rfl (by kernel_rfl) (by rfl) (fun K hK => ?_); go_big_quiet_op; refine hK _ ?_; clear hK K)
    first | (refine RegB.GS_step (i := 10) rfl (by kernel_rfl) (by rfl) (fun K hK => ?_); go_big_quiet_op; refine hK _ ?_; clear hK K)
    first | (refine RegB.GS_step (i := 11) rfl (by kernel_rfl) (by rfl) (fun K hK => ?_); go_big_quiet_op; refine hK _ ?_; clear hK K)
    first | (refine RegB.GS_step (i := 12) rfl (by kernel_rfl) (by rfl) (fun K hK => ?_); go_big_quiet_op; refine hK _ ?_; clear hK K)
    have hbx0 := (bx_new W (.int .i64 0) (.int .i64 0) (.string ⟨#[]⟩)).kept hB4
    obtain ⟨⟨z0, z1, z2⟩, z3, z4, z5⟩ := hbx0
    have hbel : Below w1.heap.size w1 (((w4.setCell ⟨W.heap.size, 0, none⟩ (.int .i64 rk)).setCell ⟨W.heap.size, 1, none⟩ (.int .i64 rn)).setCell ⟨W.heap.size, 2, none⟩ (.string rs)) := stored3 (bt HW.out (bt ((Below.refl _ W).alloc (Nat.le_refl _) (.cells #[.int .i64 0, .int .i64 0, .string ⟨#[]⟩] 38)) hB4)) HW.out.size _ _ _
    refine RegB.GS_event (i := 14) rfl (by kernel_rfl) (by rfl) (fun K hK => ?_)
    go_simp
    refine hK _ _ hbel ?_
    clear hK K
    first | (refine RegB.GS_step (i := 15) rfl (by kernel_rfl) (by rfl) (fun K hK => ?_); go_big_quiet_op; refine hK _ ?_; clear hK K)
    first | (refine RegB.GS_step (i := 16) rfl (by kernel_rfl) (by rfl) (fun K hK => ?_); go_big_quiet_op; refine hK _ ?_; clear hK K)
    refine RegB.GS_done (by kernel_rfl) ?_
    have hbx := bx_store ((bx_new W (.int .i64 0) (.int .i64 0) (.string ⟨#[]⟩)).kept hB4) (.int .i64 rk) (.int .i64 rn) (.string rs)
    obtain ⟨bk, hbk⟩ : ∃ bk, bk = W.heap.size := ⟨_, rfl⟩
    rw [← hbk] at hbx hbel ⊢
    obtain ⟨w5, hw5⟩ : ∃ w5, w5 = ((w4.setCell ⟨bk, 0, none⟩ (.int .i64 rk)).setCell ⟨bk, 1, none⟩ (.int .i64 rn)).setCell ⟨bk, 2, none⟩ (.string rs) := ⟨_, rfl⟩
    rw [← hw5] at hbx hbel ⊢
    have HBk := Lib.hid hbx
    have HB5 := Lib.hid hbel
    clear hbx hbel hB4 hbk hw5 z0 z1 z2 z3 z4 z5
  all_goals
    cases is
    · have HN := Lib.hid (show gotP (getP (k :: t)) = (⟨0, 0, e0⟩, 0, false) from by rw [HR.out, if_neg (by simp)]; rfl)
      have hx := HX.out.kept HB5.out
      have HBB := Lib.hid HB5.out
      have hst := bx_store hx (.int .i64 0) (.int .i64 0) (.string ⟨#[]⟩)
      obtain ⟨⟨r0, r1, r2⟩, _⟩ := hst
      have R0 := Lib.hid r0
      have R1 := Lib.hid r1
      have R2 := Lib.hid r2
      have HF := Lib.hid (stored3 (bt HB.out HBB.out) (Nat.le_refl _) (.int .i64 0) (.int .i64 0) (.string ⟨#[]⟩))
      obtain ⟨⟨p0, p1, p2⟩, p3, p4, p5⟩ := hx
      clear r0 r1 r2
      go_wp2_with fail
      obtain ⟨W2, hW2⟩ : ∃ W2, W2 = ((w5.setCell ⟨w.heap.size, 0, none⟩ (.int .i64 0)).setCell ⟨w.heap.size, 1, none⟩ (.int .i64 0)).setCell ⟨w.heap.size, 2, none⟩ (.string ⟨#[]⟩) := ⟨_, rfl⟩
      rw [← hW2] at HF R0 R1 R2 ⊢
      have r0 := R0.out
      have r1 := R1.out
      have r2 := R2.out
      clear hW2 p0 p1 p2 p3 p4 p5
      exact bodyPost_ret (v := .tuple #[.agg #[.int .i64 0, .int .i64 0, .string ⟨#[]⟩], .int .i64 0, .bool false]) (by simp [results, Try.results83, go_sem, r0, r1, r2]) rfl ⟨ret_v (by rw [HN.out]; rfl), HF.out⟩
    · obtain ⟨⟨q0, q1, q2⟩, _⟩ := HBk.out
      go_wp2_with fail
      refine (May_any rk rn rs _).mono ?_
      rintro e w6 ⟨rfl, hb6⟩
      have hx := HX.out.kept (bt HB5.out hb6)
      have HBB := Lib.hid (bt HB5.out hb6)
      have HBk6 := Lib.hid (HBk.out.kept hb6)
      clear q0 q1 q2 hb6 HB5 HBk
      by_cases hmay : May ⟨rk, rn, rs⟩
      · rw [decide_eq_true hmay]
        have HN := Lib.hid (show gotP (getP (k :: t)) = (⟨rk, rn, rs⟩, 1 + u + more, true) from by rw [HR.out, if_pos ⟨trivial, hmay⟩]; rfl)
        have hst := bx_store hx (.int .i64 rk) (.int .i64 rn) (.string rs)
        obtain ⟨⟨r0, r1, r2⟩, _⟩ := hst
        have R0 := Lib.hid r0
        have R1 := Lib.hid r1
        have R2 := Lib.hid r2
        have HF := Lib.hid (stored3 (bt HB.out HBB.out) (Nat.le_refl _) (.int .i64 rk) (.int .i64 rn) (.string rs))
        obtain ⟨⟨p0, p1, p2⟩, p3, p4, p5⟩ := hx
        obtain ⟨⟨q0, q1, q2⟩, _⟩ := HBk6.out
        clear r0 r1 r2 hmay
        go_wp2_with fail
        obtain ⟨W2, hW2⟩ : ∃ W2, W2 = ((w6.setCell ⟨w.heap.size, 0, none⟩ (.int .i64 rk)).setCell ⟨w.heap.size, 1, none⟩ (.int .i64 rn)).setCell ⟨w.heap.size, 2, none⟩ (.string rs) := ⟨_, rfl⟩
        rw [← hW2] at HF R0 R1 R2 ⊢
        have r0 := R0.out
        have r1 := R1.out
        have r2 := R2.out
        clear hW2 p0 p1 p2 p3 p4 p5 q0 q1 q2
        have hw64 : wrap64 (1 + (u : Int) + (more : Int)) = 1 + (u : Int) + (more : Int) := IntWalk.wrap64_in _ (by omega)
        have hcast : ((1 + u + more : Nat) : Int) = 1 + (u : Int) + (more : Int) := by omega
        exact bodyPost_ret (v := .tuple #[.agg #[.int .i64 rk, .int .i64 rn, .string rs], .int .i64 (1 + (u : Int) + more), .bool true]) (by simp [results, Try.results83, go_sem, r0, r1, r2]) rfl ⟨ret_v (by rw [HN.out, got3]; simp only [hcast]), HF.out⟩
      · rw [decide_eq_false hmay]
        have HN := Lib.hid (show gotP (getP (k :: t)) = (⟨0, 0, e0⟩, 0, false) from by rw [HR.out, if_neg (fun h => hmay h.2)]; rfl)
        clear hmay
        have hst := bx_store hx (.int .i64 0) (.int .i64 0) (.string ⟨#[]⟩)
        obtain ⟨⟨r0, r1, r2⟩, _⟩ := hst
        have R0 := Lib.hid r0
        have R1 := Lib.hid r1
        have R2 := Lib.hid r2
        have HF := Lib.hid (stored3 (bt HB.out HBB.out) (Nat.le_refl _) (.int .i64 0) (.int .i64 0) (.string ⟨#[]⟩))
        obtain ⟨⟨p0, p1, p2⟩, p3, p4, p5⟩ := hx
        clear r0 r1 r2
        go_wp2_with fail
        obtain ⟨W2, hW2⟩ : ∃ W2, W2 = ((w6.setCell ⟨w.heap.size, 0, none⟩ (.int .i64 0)).setCell ⟨w.heap.size, 1, none⟩ (.int .i64 0)).setCell ⟨w.heap.size, 2, none⟩ (.string ⟨#[]⟩) := ⟨_, rfl⟩
        rw [← hW2] at HF R0 R1 R2 ⊢
        have r0 := R0.out
        have r1 := R1.out
        have r2 := R2.out
        clear hW2 p0 p1 p2 p3 p4 p5
        exact bodyPost_ret (v := .tuple #[.agg #[.int .i64 0, .int .i64 0, .string ⟨#[]⟩], .int .i64 0, .bool false]) (by simp [results, Try.results83, go_sem, r0, r1, r2]) rfl ⟨ret_v (by rw [HN.out]; rfl), HF.out⟩

/-- Get of any bytes. -/
theorem Get_any (A : Option Addr) (xs : List Int) (c : Nat) (w : World) (h : SlB w A xs c) : Calls Try.prog 83 #[.slice A xs.length c] w (Gots xs w) := by
  cases xs with
  | nil => exact Get_nil A c w
  | cons k t =>
    cases hg : getS t with
    | none => exact Get_no A k t c w h hg
    | some p =>
      obtain ⟨n, u⟩ := p
      obtain ⟨b, o, hA, _⟩ := h.1.2 (by simp)
      exact Get_yes A b o hA k t c w h n u hg
end Go.Proofs.Ytbjgflinggelpaa.Va

namespace Go.Proofs.Ytbjgflinggelpaa.LeG
open Go.RowKit Go.Proofs.Ytbjgflinggelpaa.LeM Go.Proofs.Ytbjgflinggelpaa.LeZ Go.Proofs.Ytbjgflinggelpaa.LeP Go.Proofs.Ytbjgflinggelpaa.BM

/-- Get, said by Put. -/
theorem get_by_put {xs : List Int} {k : Nat} (hb : ∀ x ∈ xs, (0 : Int) ≤ x ∧ x < 256) (hk : k < xs.length) (h10 : k < 10) (hge : ∀ x ∈ xs.take k, (128 : Int) ≤ x) (hx : xs.getD k 0 < 128) (h0 : 0 ≤ xs.getD k 0) :
    getS xs = if strOfNums (putL ((vs (xs.take k) + 128 ^ k * (xs.getD k 0).toNat) % 18446744073709551616)) = strOfNums (xs.take (k + 1)) then some ((vs (xs.take k) + 128 ^ k * (xs.getD k 0).toNat) % 18446744073709551616, k + 1) else none := by
  obtain ⟨t, ht⟩ : ∃ t, t = vs (xs.take k) + 128 ^ k * (xs.getD k 0).toNat := ⟨_, rfl⟩
  rw [← ht]
  have hlt : t % 18446744073709551616 < 18446744073709551616 := Nat.mod_lt _ (by decide)
  by_cases he : strOfNums (putL (t % 18446744073709551616)) = strOfNums (xs.take (k + 1))
  · rw [if_pos he]
    exact (getS_iff xs hb _ _).2 ⟨hlt, by omega, str_inj (putL_bytes _) (fun x hx => hb x (List.mem_of_mem_take hx)) he⟩
  · rw [if_neg he]
    by_cases h1 : 0 < k ∧ xs.getD k 0 ≤ 0
    · exact getS_zero hk h10 hge hx h1.1 h1.2
    · by_cases h2 : t < 18446744073709551616
      · have h3 := getS_some hk h10 hge hx (by omega) (by rw [← ht]; exact h2)
        rw [← ht] at h3
        have h4 := (getS_iff xs hb _ _).1 h3
        rw [Nat.mod_eq_of_lt h2, h4.2.2] at he
        exact absurd rfl he
      · exact getS_over hk h10 hge hx (by rw [← ht]; omega)

theorem acc_mul (acc pl : Nat) (x : Int) : IntKind.u64.wrap ((acc : Int) + IntKind.u64.wrap (x % 128 * (pl : Int))) = (((acc + pl * (x % 128).toNat) % 18446744073709551616 : Nat) : Int) := by
  have e : x % 128 * (pl : Int) = ((pl * (x % 128).toNat : Nat) : Int) := by
    have : x % 128 = ((x % 128).toNat : Int) := by omega
    rw [this]
    simp [Int.mul_comm]
  rw [e, IntKind.wrap_u64, IntKind.wrap_u64]
  omega
theorem pl_mul (pl : Nat) : IntKind.u64.wrap ((pl : Int) * 128) = ((pl * 128 % 18446744073709551616 : Nat) : Int) := by
  rw [IntKind.wrap_u64]
  omega

theorem refGet_none (A : Option Addr) (cap : Nat) (w : World) :
    Calls Try.prog 46 #[.slice A 0 cap] w fun e w' => e = .returned (gotV (getS [])) ∧ Below w.heap.size w w' := by
  go_enter Try.func46, Try.ntmps46
  go_wp2
  refine wp_loop_rounds 1 ?_
  rw [rounds_succ]
  go_wp2
  go_ret3
  exact ⟨rfl, Below.refl _ _⟩

set_option maxRecDepth 100000 in
set_option maxHeartbeats 1000000 in
theorem refGet_some (b o : Nat) (xs : List Int) (cap : Nat) (w : World) (hx : 0 < xs.length) (hcap : xs.length ≤ cap) (hm : xs.length ≤ 9223372036854775807) (hb : ∀ x ∈ xs, (0 : Int) ≤ x ∧ x < 256)
    (hc : ∀ j, j < xs.length → w.cell? ⟨b, o + j, none⟩ = some (.int .u8 (xs.getD j 0))) :
    Calls Try.prog 46 #[.slice (some ⟨b, o, none⟩) xs.length cap] w fun e w' => e = .returned (gotV (getS xs)) ∧ Below w.heap.size w w' := by
  have hB : IsB w (some ⟨b, o, none⟩) xs := ⟨hb, fun _ => ⟨b, o, rfl, hc⟩⟩
  have HBs := Lib.hid hB
  clear hB
  go_enter Try.func46, Try.ntmps46
  go_wp2
  go_loop [5, 6, 7] (fun nn pp i => ∃ (k acc pl : Nat), k ≤ xs.length ∧ k ≤ 10 ∧ i = .int .i64 k ∧ nn = .int .u64 acc ∧ pp = .int .u64 pl ∧ (k < 10 → acc = vs (xs.take k) ∧ pl = 128 ^ k) ∧ ∀ x ∈ xs.take k, (128 : Int) ≤ x) (fun _ _ i => 10 - (intOf i).toNat)
  case atStart => exact ⟨0, 0, 1, by omega, by omega, rfl, rfl, rfl, by simp [vs], by simp⟩
  case round =>
    obtain ⟨k, acc, pl, hk, hk10, rfl, rfl, rfl, hv, hge⟩ := hrel
    have HV := Lib.hid hv
    have HG := Lib.hid hge
    have HB := Lib.hid hb
    clear hv hge hb
    by_cases hl1 : k < xs.length
    · by_cases hl2 : k < 10
      · have hcell : w.cell? ⟨b, o + k, none⟩ = some (.int .u8 (xs.getD k 0)) := hc k hl1
        have hbk : 0 ≤ xs.getD k 0 ∧ xs.getD k 0 < 256 := by
          rw [List.getD_eq_getElem?_getD, List.getElem?_eq_getElem hl1]
          exact HB.out _ (List.getElem_mem hl1)
        obtain ⟨x, hx⟩ : ∃ x, x = xs.getD k 0 := ⟨_, rfl⟩
        rw [← hx] at hcell hbk
        have HX := Lib.hid hx
        obtain ⟨hb0, hb1⟩ := hbk
        clear hx hc
        have HA := Lib.hid (acc_mul acc pl x)
        have HP := Lib.hid (pl_mul pl)
        by_cases h128 : 128 ≤ x
        · have HS := Lib.hid (vs_snoc xs k hl1)
          have HT := Lib.hid (take_snoc xs k hl1)
          go_wp2_with fail
          go_round
          case rel =>
            refine ⟨k + 1, _, _, by omega, by omega, by go_num, congrArg (Value.int .u64) HA.out, congrArg (Value.int .u64) HP.out, ?_, ?_⟩
            · intro h9
              obtain ⟨e1, e2⟩ := HV.out hl2
              have h1 := pow_le (k + 1) (by omega)
              rw [HS.out, ← HX.out, e1, e2]
              have h2 := vs_lt (xs.take (k + 1))
              rw [HS.out, ← HX.out, List.length_take, Nat.min_eq_left (by omega)] at h2
              rw [← Nat.pow_succ]
              exact ⟨Nat.mod_eq_of_lt (by omega), Nat.mod_eq_of_lt (by omega)⟩
            · rw [HT.out, ← HX.out]
              intro y hy
              rcases List.mem_append.1 hy with h | h
              · exact HG.out y h
              · simp at h; omega
          case measure => simp [intOf]; omega
        · have hgp := get_by_put HB.out hl1 hl2 HG.out (by rw [← HX.out]; omega) (by rw [← HX.out]; omega)
          have ha : (acc + pl * (x % 128).toNat) % 18446744073709551616 = (vs (xs.take k) + 128 ^ k * (xs.getD k 0).toNat) % 18446744073709551616 := by
            obtain ⟨e1, e2⟩ := HV.out hl2
            rw [e1, e2, ← HX.out, show x % 128 = x from by omega]
          rw [← ha] at hgp
          have HA' := HA.out
          obtain ⟨v, hv⟩ : ∃ v, v = (acc + pl * (x % 128).toNat) % 18446744073709551616 := ⟨_, rfl⟩
          have hvl : v < 18446744073709551616 := by rw [hv]; exact Nat.mod_lt _ (by decide)
          rw [← hv] at hgp HA'
          have HA2 := Lib.hid HA'
          have Hgp := Lib.hid hgp
          have Hput := Lib.hid (fun W => refPut_mem v W hvl)
          have hkc : (k : Int) + 1 ≤ (cap : Int) := by omega
          clear ha HA' hv HA hgp HP
          go_wp2_with fail
          rw [HA2.out]
          refine (Hput.out _).mono ?_
          rintro e w2 ⟨g, cap1, rfl, hB1, hb2⟩
          have hc1 := fun j => conv_any (w := w2.drewN j) hB1 cap1 9 Try.underlying9
          have hc2 := fun j => conv_any (w := w2.drewN j) (isB_take (isB_kept HBs.out hb2) (k + 1)) cap 9 Try.underlying9
          rw [List.length_take, Nat.min_eq_left (by omega)] at hc2
          obtain ⟨s1, hs1⟩ : ∃ s, s = strOfNums (putL v) := ⟨_, rfl⟩
          obtain ⟨s2, hs2⟩ : ∃ s, s = strOfNums (xs.take (k + 1)) := ⟨_, rfl⟩
          have hgp := Hgp.out
          rw [← hs1, ← hs2] at hgp
          rw [← hs1] at hc1
          rw [← hs2] at hc2
          have Hgp2 := Lib.hid hgp
          clear hs1 hs2 hgp Hgp hB1
          by_cases hse : s1 = s2
          · subst hse
            have hgp := Hgp2.out
            rw [if_pos rfl] at hgp
            have Hgp3 := Lib.hid hgp
            clear hgp Hgp2
            go_wp2_with fail
            go_quiet (fail)
            go_wp2
            go_ret3
            refine ⟨?_, below_drewN hb2 _⟩
            rw [Hgp3.out]
            rfl
          · have hgp := Hgp2.out
            rw [if_neg hse] at hgp
            have Hgp3 := Lib.hid hgp
            have hsn := str_ne hse
            clear hgp Hgp2
            go_wp2_with fail
            go_quiet (fail)
            go_wp2
            go_ret3
            refine ⟨?_, below_drewN hb2 _⟩
            rw [Hgp3.out]
            rfl
      · obtain rfl : k = 10 := by omega
        go_wp2_with fail
        go_ret3
        refine ⟨?_, Below.refl _ _⟩
        rw [getS_all (k := 10) (.inr rfl) (by omega) HG.out]
        rfl
    · obtain rfl : k = xs.length := by omega
      go_wp2_with fail
      go_ret3
      refine ⟨?_, Below.refl _ _⟩
      rw [getS_all (k := xs.length) (.inl rfl) hk10 HG.out]
      rfl

theorem refGet_any (A : Option Addr) (xs : List Int) (cap : Nat) (w : World) (hcap : xs.length ≤ cap) (hm : xs.length ≤ 9223372036854775807) (h : IsB w A xs) :
    Calls Try.prog 46 #[.slice A xs.length cap] w fun e w' => e = .returned (gotV (getS xs)) ∧ Below w.heap.size w w' := by
  by_cases hx : 0 < xs.length
  · obtain ⟨b, o, rfl, hc⟩ := h.2 hx
    exact refGet_some b o xs cap w hx hcap hm h.1 hc
  · obtain rfl : xs = [] := List.eq_nil_of_length_eq_zero (by omega)
    exact refGet_none A cap w
end Go.Proofs.Ytbjgflinggelpaa.LeG

namespace Go.Proofs.Ytbjgflinggelpaa.Va
open Go.RowKit Go.Proofs.Ytbjgflinggelpaa.BM Go.Proofs.Ytbjgflinggelpaa.LM Go.Proofs.Ytbjgflinggelpaa.LeM Go.Proofs.Ytbjgflinggelpaa.LeZ Go.Proofs.Ytbjgflinggelpaa.VaM

set_option maxRecDepth 100000 in
theorem refGet_nil (A : Option Addr) (c : Nat) (w : World) : Calls Try.prog 47 #[.slice A 0 c] w (Gots [] w) := by
  go_enter Try.func47, Try.ntmps47
  go_wp2_with fail
  obtain ⟨⟨r0, r1, r2⟩, _⟩ := bx_new w (.int .i64 0) (.int .i64 0) (.string ⟨#[]⟩)
  exact bodyPost_ret (v := .tuple #[.agg #[.int .i64 0, .int .i64 0, .string ⟨#[]⟩], .int .i64 0, .bool false]) (by simp [results, Try.results47, go_sem]) rfl ⟨rfl, (Below.refl _ _).alloc (Nat.le_refl _) _⟩

set_option maxRecDepth 100000 in
theorem refGet_no (A : Option Addr) (k : Int) (t : List Int) (c : Nat) (w : World) (h : SlB w A (k :: t) c) (hg : getS t = none) : Calls Try.prog 47 #[.slice A (k :: t).length c] w (Gots (k :: t) w) := by
  have hm := h.2.2.2
  have hc := h.2.1
  unfold maxLen at hm
  rw [List.length_cons] at hc ⊢
  have hB := (Below.refl w.heap.size w).alloc (Nat.le_refl _) (.cells #[.int .i64 0, .int .i64 0, .string ⟨#[]⟩] 38)
  have hr : gotP (getP (k :: t)) = (⟨0, 0, e0⟩, 0, false) := by
    rw [show getP (k :: t) = getB k t (getS t) from rfl, hg]
    rfl
  have hsl := fun W => slice_1 W A t.length c
  obtain ⟨D, hD⟩ : ∃ D, D = dropA A 1 c := ⟨_, rfl⟩
  have hd := (Cut.slB_drop h 1 (by simp)).kept hB
  rw [← hD] at hsl hd
  have hGet := LeG.refGet_any D t (c - 1) _ hd.2.1 (by omega) hd.1
  rw [hg] at hGet
  have HG := Lib.hid hGet
  have HR := Lib.hid hr
  have HX := Lib.hid (bx_new w (.int .i64 0) (.int .i64 0) (.string ⟨#[]⟩))
  obtain ⟨L, hL⟩ : ∃ L, L = t.length := ⟨_, rfl⟩
  rw [← hL] at hsl HG hc ⊢
  have HB := Lib.hid hB
  clear hB hr hD hd hGet hg hL h
  go_enter Try.func47, Try.ntmps47
  go_wp2_with fail
  refine HG.out.mono ?_
  rintro e w1 ⟨rfl, hb1⟩
  simp only [LeG.gotV]
  have hx := HX.out.kept hb1
  have hst := bx_store hx (.int .i64 0) (.int .i64 0) (.string ⟨#[]⟩)
  obtain ⟨⟨r0, r1, r2⟩, _⟩ := hst
  have R0 := Lib.hid r0
  have R1 := Lib.hid r1
  have R2 := Lib.hid r2
  have HF := Lib.hid (stored3 (bt HB.out hb1) (Nat.le_refl _) (.int .i64 0) (.int .i64 0) (.string ⟨#[]⟩))
  obtain ⟨⟨p0, p1, p2⟩, p3, p4, p5⟩ := hx
  clear r0 r1 r2 hb1
  go_wp2_with fail
  obtain ⟨W2, hW2⟩ : ∃ W2, W2 = ((w1.setCell ⟨w.heap.size, 0, none⟩ (.int .i64 0)).setCell ⟨w.heap.size, 1, none⟩ (.int .i64 0)).setCell ⟨w.heap.size, 2, none⟩ (.string ⟨#[]⟩) := ⟨_, rfl⟩
  rw [← hW2] at HF R0 R1 R2 ⊢
  have r0 := R0.out
  have r1 := R1.out
  have r2 := R2.out
  clear hW2 p0 p1 p2 p3 p4 p5
  exact bodyPost_ret (v := .tuple #[.agg #[.int .i64 0, .int .i64 0, .string ⟨#[]⟩], .int .i64 0, .bool false]) (by simp [results, Try.results47, go_sem, r0, r1, r2]) rfl ⟨ret_v (by rw [HR.out]; rfl), HF.out⟩

set_option maxRecDepth 100000 in
set_option maxHeartbeats 2000000 in
theorem refGet_yes (A : Option Addr) (b o : Nat) (hA : A = some ⟨b, o, none⟩) (k : Int) (t : List Int) (c : Nat) (w : World) (h : SlB w A (k :: t) c) (n u : Nat) (hg : getS t = some (n, u)) : Calls Try.prog 47 #[.slice A (k :: t).length c] w (Gots (k :: t) w) := by
  have hm := h.2.2.2
  have hc := h.2.1
  unfold maxLen at hm
  rw [List.length_cons] at hc ⊢
  have htb : ∀ x ∈ t, (0 : Int) ≤ x ∧ x < 256 := fun x hx => h.1.1 x (List.mem_cons_of_mem _ hx)
  have hk := h.1.1 k (by simp)
  obtain ⟨hn, hu, hpu⟩ := (getS_iff t htb n u).1 hg
  have hu10 : u ≤ 10 := by
    have h10 := putL_len64 hn
    rw [hpu, List.length_take] at h10
    omega
  clear hpu
  have hB := (Below.refl w.heap.size w).alloc (Nat.le_refl _) (.cells #[.int .i64 0, .int .i64 0, .string ⟨#[]⟩] 38)
  have hr := getP_read (k := k) hg hn
  have hsl := fun W => slice_1 W A t.length c
  have hd := (Cut.slB_drop h 1 (by simp)).kept hB
  have hcell : w.cell? ⟨b, o, none⟩ = some (.int .u8 k) := by
    rw [hA] at h
    have h0 := isB_cell h.1 0 (by simp)
    rw [Nat.add_zero, List.getD_cons_zero] at h0
    exact h0
  have hix : ∀ W, (Instr.indexAt 29 (.slice A (t.length + 1) c) (.int .i64 0)).run Try.prog W = .ok (.pointer (some ⟨b, o, none⟩)) W := fun W => by
    rw [hA]
    exact index_0 W b o _ c (by omega)
  obtain ⟨D, hD⟩ : ∃ D, D = dropA A 1 c := ⟨_, rfl⟩
  rw [← hD] at hsl hd
  have hGet := LeG.refGet_any D t (c - 1) _ hd.2.1 (by omega) hd.1
  rw [hg] at hGet
  have HG := Lib.hid hGet
  have HS := Lib.hid h
  obtain ⟨L, hL⟩ : ∃ L, L = t.length := ⟨_, rfl⟩
  have HL := Lib.hid hL
  rw [← hL] at hsl HG hc hu ⊢
  simp only [← hL] at hix
  have HR := Lib.hid hr
  have HC := Lib.hid hcell
  have HX := Lib.hid (bx_new w (.int .i64 0) (.int .i64 0) (.string ⟨#[]⟩))
  have HB := Lib.hid hB
  clear hA hB hr hD hd hGet hg hL h hcell htb
  go_enter Try.func47, Try.ntmps47
  go_wp2_with fail
  refine HG.out.mono ?_
  rintro e w1 ⟨rfl, hb1⟩
  simp only [LeG.gotV]
  have HB1 := Lib.hid (bt HB.out hb1)
  have HX1 := Lib.hid (HX.out.kept hb1)
  have hc1 : w1.cell? ⟨b, o, none⟩ = some (.int .u8 k) := by
    rw [HB1.out.cell (World.block_lt_of_cell? w _ HC.out)]
    exact HC.out
  clear HG hb1 HB HX HC
  by_cases k0 : k = 0
  · subst k0
    have HZ := Lib.hid (fun W => refZag_any (n : Int) W (by omega) (by omega))
    go_wp2_with fail
    refine (HZ.out _).mono ?_
    rintro e w2 ⟨rfl, rfl⟩
    go_wp2_with fail
    have HB5 := Lib.hid ((Below.refl w1.heap.size w1).alloc (Nat.le_refl _) (.cells #[.int .i64 0, .int .i64 (zag n), .string ⟨#[]⟩] 38))
    have HBk := Lib.hid (bx_new w1 (.int .i64 0) (.int .i64 (zag n)) (.string ⟨#[]⟩))
    obtain ⟨bk, hbk⟩ : ∃ bk, bk = w1.heap.size := ⟨_, rfl⟩
    obtain ⟨w5, hw5⟩ : ∃ w5, w5 = w1.alloc (.cells #[.int .i64 0, .int .i64 (zag n), .string ⟨#[]⟩] 38) := ⟨_, rfl⟩
    rw [← hw5] at HBk HB5 ⊢
    rw [← hbk] at HBk ⊢
    obtain ⟨⟨q0, q1, q2⟩, _⟩ := HBk.out
    clear hbk hw5 hc1
    go_wp2_with fail
    refine (refMay_any 0 (zag n) e0 _).mono ?_
    rintro e w6 ⟨rfl, hb6⟩
    have hx := HX1.out.kept (bt HB5.out hb6)
    have HBB := Lib.hid (bt HB5.out hb6)
    have HBk6 := Lib.hid (HBk.out.kept hb6)
    clear q0 q1 q2 hb6 HB5 HBk
    by_cases hmay : May ⟨0, (zag n), e0⟩
    · rw [decide_eq_true hmay]
      have HN := Lib.hid (show gotP (getP (0 :: t)) = (⟨0, (zag n), e0⟩, 1 + u + 0, true) from by rw [HR.out, if_pos ⟨by first | exact rfl | exact trivial, hmay⟩]; rfl)
      have hst := bx_store hx (.int .i64 0) (.int .i64 (zag n)) (.string ⟨#[]⟩)
      obtain ⟨⟨r0, r1, r2⟩, _⟩ := hst
      have R0 := Lib.hid r0
      have R1 := Lib.hid r1
      have R2 := Lib.hid r2
      have HF := Lib.hid (stored3 (bt HB1.out HBB.out) (Nat.le_refl _) (.int .i64 0) (.int .i64 (zag n)) (.string ⟨#[]⟩))
      obtain ⟨⟨p0, p1, p2⟩, p3, p4, p5⟩ := hx
      obtain ⟨⟨q0, q1, q2⟩, _⟩ := HBk6.out
      clear r0 r1 r2 hmay
      go_wp2_with fail
      obtain ⟨W2, hW2⟩ : ∃ W2, W2 = ((w6.setCell ⟨w.heap.size, 0, none⟩ (.int .i64 0)).setCell ⟨w.heap.size, 1, none⟩ (.int .i64 (zag n))).setCell ⟨w.heap.size, 2, none⟩ (.string ⟨#[]⟩) := ⟨_, rfl⟩
      rw [← hW2] at HF R0 R1 R2 ⊢
      have r0 := R0.out
      have r1 := R1.out
      have r2 := R2.out
      clear hW2 p0 p1 p2 p3 p4 p5 q0 q1 q2
      have hcast : ((1 + u + 0 : Nat) : Int) = 1 + (u : Int) := by omega
      exact bodyPost_ret (v := .tuple #[.agg #[.int .i64 0, .int .i64 (zag n), .string ⟨#[]⟩], .int .i64 (1 + (u : Int)), .bool true]) (by simp [results, Try.results47, go_sem, r0, r1, r2]) rfl ⟨ret_v (by rw [HN.out, got3]; simp only [hcast] <;> rfl), HF.out⟩
    · rw [decide_eq_false hmay]
      have HN := Lib.hid (show gotP (getP (0 :: t)) = (⟨0, 0, e0⟩, 0, false) from by rw [HR.out, if_neg (fun h => hmay h.2)]; rfl)
      clear hmay
      have hst := bx_store hx (.int .i64 0) (.int .i64 0) (.string ⟨#[]⟩)
      obtain ⟨⟨r0, r1, r2⟩, _⟩ := hst
      have R0 := Lib.hid r0
      have R1 := Lib.hid r1
      have R2 := Lib.hid r2
      have HF := Lib.hid (stored3 (bt HB1.out HBB.out) (Nat.le_refl _) (.int .i64 0) (.int .i64 0) (.string ⟨#[]⟩))
      obtain ⟨⟨p0, p1, p2⟩, p3, p4, p5⟩ := hx
      clear r0 r1 r2
      go_wp2_with fail
      obtain ⟨W2, hW2⟩ : ∃ W2, W2 = (((w6).setCell ⟨w.heap.size, 0, none⟩ (.int .i64 0)).setCell ⟨w.heap.size, 1, none⟩ (.int .i64 0)).setCell ⟨w.heap.size, 2, none⟩ (.string ⟨#[]⟩) := ⟨_, rfl⟩
      rw [← hW2] at HF R0 R1 R2 ⊢
      have r0 := R0.out
      have r1 := R1.out
      have r2 := R2.out
      clear hW2 p0 p1 p2 p3 p4 p5
      exact bodyPost_ret (v := .tuple #[.agg #[.int .i64 0, .int .i64 0, .string ⟨#[]⟩], .int .i64 0, .bool false]) (by simp [results, Try.results47, go_sem, r0, r1, r2]) rfl ⟨ret_v (by rw [HN.out]; rfl), HF.out⟩
  · by_cases k2 : k = 2
    · subst k2
      by_cases h40 : n ≤ 40
      · have hw : wrap64 (n : Int) = n := IntWalk.wrap64_in _ (by omega)
        by_cases hfit : n ≤ L - u
        · have hs2 := fun W => Cut.slice_2 W A (L + 1) c (1 + u) (1 + u + n) (by omega) (by omega)
          have hcut := ((Cut.slB_cut HS.out (1 + u) (1 + u + n) c (by omega) (by omega) (Nat.le_refl _) (by rw [List.length_cons, ← HL.out]; omega)).kept HB1.out).kept ((Below.refl w1.heap.size w1).alloc (Nat.le_refl _) (.cells #[.int .i64 2, .int .i64 0, .string ⟨#[]⟩] 38))
          have hcv := conv_any hcut.1 (c - (1 + u)) 9 Try.underlying9
          have hln : ((List.drop (1 + u) (2 :: t)).take (1 + u + n - (1 + u))).length = n := by rw [List.length_take, List.length_drop, List.length_cons, ← HL.out]; omega
          rw [hln] at hcv
          rw [show (List.drop (1 + u) (2 :: t)).take (1 + u + n - (1 + u)) = (t.drop u).take n from by rw [Nat.add_comm 1 u, List.drop_succ_cons]; congr 1; omega] at hcv
          simp only [show 1 + u + n - (1 + u) = n from by omega, show ((1 + u : Nat) : Int) = 1 + (u : Int) from by omega, show ((1 + u + n : Nat) : Int) = 1 + (u : Int) + (n : Int) from by omega] at hs2
          have hrd : rdV 2 n (t.drop u) = (⟨2, 0, strOfNums ((t.drop u).take n)⟩, n, true) := by rw [rdV, if_neg k0, if_pos rfl, if_pos ⟨h40, by rw [List.length_drop, ← HL.out]; exact hfit⟩]
          rw [hrd] at HR
          clear hrd
          obtain ⟨S, hS⟩ : ∃ S, S = strOfNums ((t.drop u).take n) := ⟨_, rfl⟩
          rw [← hS] at hcv HR
          obtain ⟨E, hE⟩ : ∃ E, E = dropA A (1 + u) c := ⟨_, rfl⟩
          rw [← hE] at hcv
          simp only [← hE] at hs2
          clear hS hE hcut hln
          go_wp2_with fail
          have HB5 := Lib.hid ((Below.refl w1.heap.size w1).alloc (Nat.le_refl _) (.cells #[.int .i64 2, .int .i64 0, .string S] 38))
          have HBk := Lib.hid (bx_new w1 (.int .i64 2) (.int .i64 0) (.string S))
          obtain ⟨bk, hbk⟩ : ∃ bk, bk = w1.heap.size := ⟨_, rfl⟩
          obtain ⟨w5, hw5⟩ : ∃ w5, w5 = w1.alloc (.cells #[.int .i64 2, .int .i64 0, .string S] 38) := ⟨_, rfl⟩
          rw [← hw5] at HBk HB5 ⊢
          rw [← hbk] at HBk ⊢
          obtain ⟨⟨q0, q1, q2⟩, _⟩ := HBk.out
          clear hbk hw5 hc1
          go_wp2_with fail
          refine (refMay_any 2 0 S _).mono ?_
          rintro e w6 ⟨rfl, hb6⟩
          have hx := HX1.out.kept (bt HB5.out hb6)
          have HBB := Lib.hid (bt HB5.out hb6)
          have HBk6 := Lib.hid (HBk.out.kept hb6)
          clear q0 q1 q2 hb6 HB5 HBk
          by_cases hmay : May ⟨2, 0, S⟩
          · rw [decide_eq_true hmay]
            have HN := Lib.hid (show gotP (getP (2 :: t)) = (⟨2, 0, S⟩, 1 + u + n, true) from by rw [HR.out, if_pos ⟨by first | exact rfl | exact trivial, hmay⟩]; rfl)
            have hst := bx_store hx (.int .i64 2) (.int .i64 0) (.string S)
            obtain ⟨⟨r0, r1, r2⟩, _⟩ := hst
            have R0 := Lib.hid r0
            have R1 := Lib.hid r1
            have R2 := Lib.hid r2
            have HF := Lib.hid (stored3 (bt HB1.out HBB.out) (Nat.le_refl _) (.int .i64 2) (.int .i64 0) (.string S))
            obtain ⟨⟨p0, p1, p2⟩, p3, p4, p5⟩ := hx
            obtain ⟨⟨q0, q1, q2⟩, _⟩ := HBk6.out
            clear r0 r1 r2 hmay
            go_wp2_with fail
            obtain ⟨W2, hW2⟩ : ∃ W2, W2 = ((w6.setCell ⟨w.heap.size, 0, none⟩ (.int .i64 2)).setCell ⟨w.heap.size, 1, none⟩ (.int .i64 0)).setCell ⟨w.heap.size, 2, none⟩ (.string S) := ⟨_, rfl⟩
            rw [← hW2] at HF R0 R1 R2 ⊢
            have r0 := R0.out
            have r1 := R1.out
            have r2 := R2.out
            clear hW2 p0 p1 p2 p3 p4 p5 q0 q1 q2
            have hcast : ((1 + u + n : Nat) : Int) = 1 + (u : Int) + (n : Int) := by omega
            exact bodyPost_ret (v := .tuple #[.agg #[.int .i64 2, .int .i64 0, .string S], .int .i64 (1 + (u : Int) + (n : Int)), .bool true]) (by simp [results, Try.results47, go_sem, r0, r1, r2]) rfl ⟨ret_v (by rw [HN.out, got3]; simp only [hcast] <;> rfl), HF.out⟩
          · rw [decide_eq_false hmay]
            have HN := Lib.hid (show gotP (getP (2 :: t)) = (⟨0, 0, e0⟩, 0, false) from by rw [HR.out, if_neg (fun h => hmay h.2)]; rfl)
            clear hmay
            have hst := bx_store hx (.int .i64 0) (.int .i64 0) (.string ⟨#[]⟩)
            obtain ⟨⟨r0, r1, r2⟩, _⟩ := hst
            have R0 := Lib.hid r0
            have R1 := Lib.hid r1
            have R2 := Lib.hid r2
            have HF := Lib.hid (stored3 (bt HB1.out HBB.out) (Nat.le_refl _) (.int .i64 0) (.int .i64 0) (.string ⟨#[]⟩))
            obtain ⟨⟨p0, p1, p2⟩, p3, p4, p5⟩ := hx
            clear r0 r1 r2
            go_wp2_with fail
            obtain ⟨W2, hW2⟩ : ∃ W2, W2 = (((w6).setCell ⟨w.heap.size, 0, none⟩ (.int .i64 0)).setCell ⟨w.heap.size, 1, none⟩ (.int .i64 0)).setCell ⟨w.heap.size, 2, none⟩ (.string ⟨#[]⟩) := ⟨_, rfl⟩
            rw [← hW2] at HF R0 R1 R2 ⊢
            have r0 := R0.out
            have r1 := R1.out
            have r2 := R2.out
            clear hW2 p0 p1 p2 p3 p4 p5
            exact bodyPost_ret (v := .tuple #[.agg #[.int .i64 0, .int .i64 0, .string ⟨#[]⟩], .int .i64 0, .bool false]) (by simp [results, Try.results47, go_sem, r0, r1, r2]) rfl ⟨ret_v (by rw [HN.out]; rfl), HF.out⟩
        · have hrd : rdV 2 n (t.drop u) = (⟨0, 0, e0⟩, 0, false) := by rw [rdV, if_neg k0, if_pos rfl, if_neg (fun h => hfit (by have := h.2; rw [List.length_drop, ← HL.out] at this; exact this))]
          rw [hrd] at HR
          have HN := Lib.hid (show gotP (getP (2 :: t)) = (⟨0, 0, e0⟩, 0, false) from by rw [HR.out, if_neg (fun h => by cases h.1)]; rfl)
          have HBB := Lib.hid ((Below.refl w1.heap.size w1).alloc (Nat.le_refl _) (.cells #[.int .i64 2, .int .i64 n, .string ⟨#[]⟩] 38))
          have hx := HX1.out.kept HBB.out
          have hst := bx_store hx (.int .i64 0) (.int .i64 0) (.string ⟨#[]⟩)
          obtain ⟨⟨r0, r1, r2⟩, _⟩ := hst
          have R0 := Lib.hid r0
          have R1 := Lib.hid r1
          have R2 := Lib.hid r2
          have HF := Lib.hid (stored3 (bt HB1.out HBB.out) (Nat.le_refl _) (.int .i64 0) (.int .i64 0) (.string ⟨#[]⟩))
          obtain ⟨⟨p0, p1, p2⟩, p3, p4, p5⟩ := hx
          clear r0 r1 r2
          go_wp2_with fail
          obtain ⟨W2, hW2⟩ : ∃ W2, W2 = (((w1.alloc (.cells #[.int .i64 2, .int .i64 n, .string ⟨#[]⟩] 38)).setCell ⟨w.heap.size, 0, none⟩ (.int .i64 0)).setCell ⟨w.heap.size, 1, none⟩ (.int .i64 0)).setCell ⟨w.heap.size, 2, none⟩ (.string ⟨#[]⟩) := ⟨_, rfl⟩
          rw [← hW2] at HF R0 R1 R2 ⊢
          have r0 := R0.out
          have r1 := R1.out
          have r2 := R2.out
          clear hW2 p0 p1 p2 p3 p4 p5
          exact bodyPost_ret (v := .tuple #[.agg #[.int .i64 0, .int .i64 0, .string ⟨#[]⟩], .int .i64 0, .bool false]) (by simp [results, Try.results47, go_sem, r0, r1, r2]) rfl ⟨ret_v (by rw [HN.out]; rfl), HF.out⟩
      · have hrd : rdV 2 n (t.drop u) = (⟨0, 0, e0⟩, 0, false) := by rw [rdV, if_neg k0, if_pos rfl, if_neg (fun h => h40 h.1)]
        rw [hrd] at HR
        have HN := Lib.hid (show gotP (getP (2 :: t)) = (⟨0, 0, e0⟩, 0, false) from by rw [HR.out, if_neg (fun h => by cases h.1)]; rfl)
        have HBB := Lib.hid ((Below.refl w1.heap.size w1).alloc (Nat.le_refl _) (.cells #[.int .i64 2, .int .i64 (wrap64 n), .string ⟨#[]⟩] 38))
        have hx := HX1.out.kept HBB.out
        have hst := bx_store hx (.int .i64 0) (.int .i64 0) (.string ⟨#[]⟩)
        obtain ⟨⟨r0, r1, r2⟩, _⟩ := hst
        have R0 := Lib.hid r0
        have R1 := Lib.hid r1
        have R2 := Lib.hid r2
        have HF := Lib.hid (stored3 (bt HB1.out HBB.out) (Nat.le_refl _) (.int .i64 0) (.int .i64 0) (.string ⟨#[]⟩))
        obtain ⟨⟨p0, p1, p2⟩, p3, p4, p5⟩ := hx
        clear r0 r1 r2
        go_wp2_with fail
        obtain ⟨W2, hW2⟩ : ∃ W2, W2 = (((w1.alloc (.cells #[.int .i64 2, .int .i64 (wrap64 n), .string ⟨#[]⟩] 38)).setCell ⟨w.heap.size, 0, none⟩ (.int .i64 0)).setCell ⟨w.heap.size, 1, none⟩ (.int .i64 0)).setCell ⟨w.heap.size, 2, none⟩ (.string ⟨#[]⟩) := ⟨_, rfl⟩
        rw [← hW2] at HF R0 R1 R2 ⊢
        have r0 := R0.out
        have r1 := R1.out
        have r2 := R2.out
        clear hW2 p0 p1 p2 p3 p4 p5
        exact bodyPost_ret (v := .tuple #[.agg #[.int .i64 0, .int .i64 0, .string ⟨#[]⟩], .int .i64 0, .bool false]) (by simp [results, Try.results47, go_sem, r0, r1, r2]) rfl ⟨ret_v (by rw [HN.out]; rfl), HF.out⟩
    · rw [show rdV k n (t.drop u) = (⟨k, wrap64 n, e0⟩, 0, true) from by rw [rdV, if_neg k0, if_neg k2]] at HR
      have b0 : (k == 0) = false := by simpa using k0
      have b2 : (k == 2) = false := by simpa using k2
      go_wp2_with fail
      have HB5 := Lib.hid ((Below.refl w1.heap.size w1).alloc (Nat.le_refl _) (.cells #[.int .i64 k, .int .i64 (wrap64 n), .string ⟨#[]⟩] 38))
      have HBk := Lib.hid (bx_new w1 (.int .i64 k) (.int .i64 (wrap64 n)) (.string ⟨#[]⟩))
      obtain ⟨bk, hbk⟩ : ∃ bk, bk = w1.heap.size := ⟨_, rfl⟩
      obtain ⟨w5, hw5⟩ : ∃ w5, w5 = w1.alloc (.cells #[.int .i64 k, .int .i64 (wrap64 n), .string ⟨#[]⟩] 38) := ⟨_, rfl⟩
      rw [← hw5] at HBk HB5 ⊢
      rw [← hbk] at HBk ⊢
      obtain ⟨⟨q0, q1, q2⟩, _⟩ := HBk.out
      clear hbk hw5 hc1
      go_wp2_with fail
      refine (refMay_any k (wrap64 n) e0 _).mono ?_
      rintro e w6 ⟨rfl, hb6⟩
      have hx := HX1.out.kept (bt HB5.out hb6)
      have HBB := Lib.hid (bt HB5.out hb6)
      have HBk6 := Lib.hid (HBk.out.kept hb6)
      clear q0 q1 q2 hb6 HB5 HBk
      by_cases hmay : May ⟨k, (wrap64 n), e0⟩
      · rw [decide_eq_true hmay]
        have HN := Lib.hid (show gotP (getP (k :: t)) = (⟨k, (wrap64 n), e0⟩, 1 + u + 0, true) from by rw [HR.out, if_pos ⟨by first | exact rfl | exact trivial, hmay⟩]; rfl)
        have hst := bx_store hx (.int .i64 k) (.int .i64 (wrap64 n)) (.string ⟨#[]⟩)
        obtain ⟨⟨r0, r1, r2⟩, _⟩ := hst
        have R0 := Lib.hid r0
        have R1 := Lib.hid r1
        have R2 := Lib.hid r2
        have HF := Lib.hid (stored3 (bt HB1.out HBB.out) (Nat.le_refl _) (.int .i64 k) (.int .i64 (wrap64 n)) (.string ⟨#[]⟩))
        obtain ⟨⟨p0, p1, p2⟩, p3, p4, p5⟩ := hx
        obtain ⟨⟨q0, q1, q2⟩, _⟩ := HBk6.out
        clear r0 r1 r2 hmay
        go_wp2_with fail
        obtain ⟨W2, hW2⟩ : ∃ W2, W2 = ((w6.setCell ⟨w.heap.size, 0, none⟩ (.int .i64 k)).setCell ⟨w.heap.size, 1, none⟩ (.int .i64 (wrap64 n))).setCell ⟨w.heap.size, 2, none⟩ (.string ⟨#[]⟩) := ⟨_, rfl⟩
        rw [← hW2] at HF R0 R1 R2 ⊢
        have r0 := R0.out
        have r1 := R1.out
        have r2 := R2.out
        clear hW2 p0 p1 p2 p3 p4 p5 q0 q1 q2
        have hcast : ((1 + u + 0 : Nat) : Int) = 1 + (u : Int) := by omega
        exact bodyPost_ret (v := .tuple #[.agg #[.int .i64 k, .int .i64 (wrap64 n), .string ⟨#[]⟩], .int .i64 (1 + (u : Int)), .bool true]) (by simp [results, Try.results47, go_sem, r0, r1, r2]) rfl ⟨ret_v (by rw [HN.out, got3]; simp only [hcast] <;> rfl), HF.out⟩
      · rw [decide_eq_false hmay]
        have HN := Lib.hid (show gotP (getP (k :: t)) = (⟨0, 0, e0⟩, 0, false) from by rw [HR.out, if_neg (fun h => hmay h.2)]; rfl)
        clear hmay
        have hst := bx_store hx (.int .i64 0) (.int .i64 0) (.string ⟨#[]⟩)
        obtain ⟨⟨r0, r1, r2⟩, _⟩ := hst
        have R0 := Lib.hid r0
        have R1 := Lib.hid r1
        have R2 := Lib.hid r2
        have HF := Lib.hid (stored3 (bt HB1.out HBB.out) (Nat.le_refl _) (.int .i64 0) (.int .i64 0) (.string ⟨#[]⟩))
        obtain ⟨⟨p0, p1, p2⟩, p3, p4, p5⟩ := hx
        clear r0 r1 r2
        go_wp2_with fail
        obtain ⟨W2, hW2⟩ : ∃ W2, W2 = (((w6).setCell ⟨w.heap.size, 0, none⟩ (.int .i64 0)).setCell ⟨w.heap.size, 1, none⟩ (.int .i64 0)).setCell ⟨w.heap.size, 2, none⟩ (.string ⟨#[]⟩) := ⟨_, rfl⟩
        rw [← hW2] at HF R0 R1 R2 ⊢
        have r0 := R0.out
        have r1 := R1.out
        have r2 := R2.out
        clear hW2 p0 p1 p2 p3 p4 p5
        exact bodyPost_ret (v := .tuple #[.agg #[.int .i64 0, .int .i64 0, .string ⟨#[]⟩], .int .i64 0, .bool false]) (by simp [results, Try.results47, go_sem, r0, r1, r2]) rfl ⟨ret_v (by rw [HN.out]; rfl), HF.out⟩

/-- Get of any bytes. -/
theorem refGet_any (A : Option Addr) (xs : List Int) (c : Nat) (w : World) (h : SlB w A xs c) : Calls Try.prog 47 #[.slice A xs.length c] w (Gots xs w) := by
  cases xs with
  | nil => exact refGet_nil A c w
  | cons k t =>
    cases hg : getS t with
    | none => exact refGet_no A k t c w h hg
    | some p =>
      obtain ⟨n, u⟩ := p
      obtain ⟨b, o, hA, _⟩ := h.1.2 (by simp)
      exact refGet_yes A b o hA k t c w h n u hg
end Go.Proofs.Ytbjgflinggelpaa.Va

namespace Go.Proofs.Ytbjgflinggelpaa.Ex
open Go.RowKit Go.Proofs.Ytbjgflinggelpaa.BM Go.Proofs.Ytbjgflinggelpaa.LM Go.Proofs.Ytbjgflinggelpaa.LeM Go.Proofs.Ytbjgflinggelpaa.VaM Go.Proofs.Ytbjgflinggelpaa.Va Go.Proofs.Ytbjgflinggelpaa.ExM
open Go.Proofs.Ytbjgflinggelpaa.EvM (v0)

/-- What comes of parts that are got, and of some more. -/
def fin8 (l : List O) (p : Nat) : Option (List O × Nat) → Option (List O × Nat)
  | none => none
  | some (r, k) => if ExM.May (l ++ r) then some (l ++ r, p + k) else none

theorem fin8_step {l : List O} {p k : Nat} {ys : List Int} {o : O} {m : Nat} (h : gO ys = some (o, m)) :
    fin8 l p (gOs (k + 1) ys) = fin8 (l ++ [o]) (p + m) (gOs k (ys.drop m)) := by
  simp only [gOs, h]
  cases gOs k (ys.drop m) with
  | none => rfl
  | some q =>
    obtain ⟨r, n⟩ := q
    simp only [fin8, List.append_assoc, List.singleton_append, Nat.add_assoc]

theorem fin8_no {l : List O} {p k : Nat} {ys : List Int} (h : gO ys = none) : fin8 l p (gOs (k + 1) ys) = none := by
  simp only [gOs, h]
  rfl

theorem gL_fin {xs : List Int} {n u : Nat} (h : getS xs = some (n, u)) (hn : n ≤ 12) : gL xs = fin8 [] u (gOs n (xs.drop u)) := by
  unfold gL
  rw [h]
  simp only [if_pos hn]
  cases gOs n (xs.drop u) with
  | none => rfl
  | some q => rfl

theorem gL_no {xs : List Int} (h : getS xs = none) : gL xs = none := by
  unfold gL
  rw [h]

theorem gL_great {xs : List Int} {n u : Nat} (h : getS xs = some (n, u)) (hn : ¬ n ≤ 12) : gL xs = none := by
  unfold gL
  rw [h]
  simp only [if_neg hn]

theorem tyB : RG.Ty 29 5 1 1 (.int .u8 0) := ⟨by kernel_rfl, by kernel_rfl, by kernel_rfl, fun _ => by kernel_rfl, rfl, by decide, by decide⟩

theorem byte_at {w : World} {A : Option Addr} {xs : List Int} {c : Nat} (h : SlB w A xs c) (p : Nat) (hp : p < xs.length) :
    ∃ b q, (∀ W, (Instr.indexAt 29 (.slice A xs.length c) (.int .i64 (p : Int))).run Try.prog W = .ok (.pointer (some ⟨b, q, none⟩)) W) ∧ (∀ W, Below w.heap.size w W → W.cell? ⟨b, q, none⟩ = some (.int .u8 (xs.getD p 0))) ∧ 0 ≤ xs.getD p 0 ∧ xs.getD p 0 < 256 := by
  have hb := h.1.1 (xs.getD p 0) (by rw [List.getD_eq_getElem?_getD, List.getElem?_eq_getElem hp]; exact List.getElem_mem hp)
  obtain ⟨b, o, hA, hc⟩ := h.1.2 (by omega)
  refine ⟨b, o + p * 1, fun W => by rw [hA]; exact tyB.index W b o _ c p hp, fun W hW => ?_, hb.1, hb.2⟩
  obtain ⟨b', o', hA', hc'⟩ := (h.kept hW).1.2 (by omega)
  rw [hA] at hA'
  injection hA' with e
  injection e with e1 e2
  subst e1 e2
  rw [Nat.mul_one]
  exact hc' p hp

theorem drop_at {xs : List Int} {p : Nat} (hp : p < xs.length) : xs.drop p = xs.getD p 0 :: xs.drop (p + 1) := by
  rw [List.drop_eq_getElem_cons hp, List.getD_eq_getElem?_getD, List.getElem?_eq_getElem hp]
  rfl

theorem slO_1 (w : World) (x : O) (hx : Fin x) : SlO (w.alloc (.cells #[.int .i64 x.c, .int .i64 x.a, .int .i64 x.v.k, .int .i64 x.v.n, .string x.v.s] 52)) (some ⟨w.heap.size, 0, none⟩) [x] 1 :=
  slO_new w [x] (fun y hy => by rw [List.mem_singleton.1 hy]; exact hx) (show 1 ≤ maxLen from by unfold maxLen; decide)

set_option maxRecDepth 100000 in
set_option maxHeartbeats 8000000 in
theorem refGet_any (A : Option Addr) (xs : List Int) (c : Nat) (w : World) (hx : SlB w A xs c) : Calls Try.prog 22 #[.slice A xs.length c] w (Gots xs w) := by
  have hxc := hx.2.1
  have hmx := hx.2.2.2
  unfold maxLen at hmx
  have hbytes := hx.1.1
  have hbat := fun p (hp : p < xs.length) => byte_at hx p hp
  have hdrop := fun p (hp : p < xs.length) => drop_at (xs := xs) hp
  have hout := fun p (hp : ¬ p < xs.length) => (List.drop_eq_nil_of_le (Nat.le_of_not_lt hp) : xs.drop p = [])
  have hget := LeG.refGet_any A xs c w hxc (by omega) hx.1
  have hval := fun W (hW : Below w.heap.size w W) (p : Nat) (hp : p ≤ xs.length) => Va.refGet_any (dropA A p c) (xs.drop p) (c - p) W (Cut.slB_drop (hx.kept hW) p hp)
  unfold Va.Gots at hval
  simp only [List.length_drop] at hval
  have hslo := fun W (p : Nat) (hp : p ≤ xs.length) => slice_lo W A xs.length c p hp
  have hul := fun n u (h : getS xs = some (n, u)) => ((getS_iff xs hbytes n u).1 h).2.1
  obtain ⟨N, hN⟩ : ∃ N, N = xs.length := ⟨_, rfl⟩
  simp only [← hN] at hbat hval hslo hdrop hout hul
  rw [← hN] at hxc hget ⊢
  have HLen := Lib.hid hN
  have HBat := Lib.hid hbat
  have HDrop := Lib.hid hdrop
  have HOut := Lib.hid hout
  have HGet := Lib.hid hget
  have HVal := Lib.hid hval
  have HSlo := Lib.hid hslo
  have HBy := Lib.hid hbytes
  have HUl := Lib.hid hul
  clear hx hN hbat hdrop hout hget hval hslo hbytes hul
  cases hs : getS xs with
  | none =>
    have HNo := Lib.hid (gL_no hs)
    rw [hs] at HGet
    clear hs
    go_enter Try.func22, Try.ntmps22
    go_wp2_with fail
    refine HGet.out.mono ?_
    rintro e w1 ⟨rfl, hb1⟩
    have HB1 := Lib.hid hb1
    simp only [LeG.gotV]
    clear hb1
    go_wp2_with fail
    go_ret3
    exact ⟨none, 0, ret_v (x := .tuple #[.slice none 0 0, .int .i64 0, .bool false]) (by rw [HNo.out]; rfl), (by rw [HNo.out]; exact slO_none _), HB1.out⟩
  | some r =>
    obtain ⟨n, u⟩ := r
    have hu := HUl.out n u hs
    rw [hs] at HGet
    by_cases hn : n ≤ 12
    · have HFi := Lib.hid (gL_fin hs hn)
      have hd1 : decide ((12 : Int) < (n : Int)) = false := by rw [decide_eq_false_iff_not]; omega
      clear hs HUl
      go_enter Try.func22, Try.ntmps22
      go_wp2_with fail
      refine HGet.out.mono ?_
      rintro e w1 ⟨rfl, hb1⟩
      have HB1 := Lib.hid hb1
      simp only [LeG.gotV]
      clear hb1 HGet
      go_wp2_with fail
      go_loopw [6, 8, 9] (fun at' u' i wr => ∃ (j p : Nat) (l : List O), i = .int .i64 j ∧ at' = .int .i64 p ∧ j ≤ n ∧ p ≤ N ∧ l.length = j ∧ (∀ y ∈ l, Fin y) ∧ gL xs = fin8 l p (gOs (n - j) (xs.drop p)) ∧ wr.ownsRow w.heap.size 52 5 u' j (l.flatMap encO) ∧ Below w.heap.size w wr) (fun _ _ i _ => n - (intOf i).toNat)
      case atStart => exact ⟨0, u, [], rfl, rfl, Nat.zero_le _, hu, rfl, (fun y hy => by cases hy), HFi.out, World.ownsRow_nil _ _ _ _, HB1.out⟩
      case round =>
        obtain ⟨j, p, l, rfl, rfl, hj, hp, hlj, hfn, hgs, hown, hbel⟩ := hrel
        have HL := Lib.hid hlj
        have HFn := Lib.hid hfn
        have HGs := Lib.hid hgs
        have HO := Lib.hid hown
        have HBl := Lib.hid hbel
        clear hlj hfn hgs hown hbel HFi HB1
        by_cases hjn : j < n
        · have hgs := HGs.out
          rw [show n - j = (n - (j + 1)) + 1 by omega] at hgs
          have HGs2 := Lib.hid hgs
          clear hgs HGs
          by_cases hpN : p < N
          · have g1 : decide (N ≤ p) = false := by rw [decide_eq_false_iff_not]; omega
            have g1' : decide ((N : Int) ≤ (p : Int)) = false := by rw [decide_eq_false_iff_not]; omega
            obtain ⟨b, q, hi, hc, x0l, x0u⟩ := HBat.out p hpN
            have hdr := HDrop.out p hpN
            obtain ⟨x0, hx0⟩ : ∃ e, e = xs.getD p 0 := ⟨_, rfl⟩
            rw [← hx0] at hdr x0l x0u
            simp only [← hx0] at hc
            have y0 := hc wr HBl.out
            have HDr := Lib.hid hdr
            clear hx0 hdr hc
            by_cases h0 : x0 = 0
            · subst h0
              clear x0l x0u
              have ha4 := (Below.refl wr.heap.size wr).alloc (Nat.le_refl _) (.cells #[.int .i64 0, .int .i64 0, .int .i64 0, .int .i64 0, .string ⟨#[]⟩] 52)
              have HX4 := Lib.hid (bxO_new wr ⟨0, 0, v0⟩)
              have HB4 := Lib.hid ha4
              have hsl := fun W => HSlo.out W (p + 1) hpN
              rw [show ((p + 1 : Nat) : Int) = (p : Int) + 1 from by omega] at hsl
              have HV := Lib.hid (HVal.out (wr.alloc (.cells #[.int .i64 0, .int .i64 0, .int .i64 0, .int .i64 0, .string ⟨#[]⟩] 52)) (bt HBl.out ha4) (p + 1) hpN)
              obtain ⟨D, hD⟩ : ∃ D, D = dropA A (p + 1) c := ⟨_, rfl⟩
              rw [← hD] at HV
              simp only [← hD] at hsl
              obtain ⟨y0', y1, y2, y3, y4⟩ := HX4.out.cells
              simp only [v0] at y0' y1 y2 y3 y4
              clear hD ha4
              cases hg : getP (xs.drop (p + 1)) with
              | none =>
                have HNo := Lib.hid (show gL xs = none by rw [HGs2.out, HDr.out]; exact fin8_no (by rw [gO_push, hg]))
                rw [hg] at HV
                simp only [gotP, Va.got3] at HV
                clear hg
                go_wp2_with fail
                refine HV.out.mono ?_
                rintro e w5 ⟨rfl, hb5⟩
                have HB5 := Lib.hid (bt HBl.out (bt HB4.out (bt hb5 ((Below.refl w5.heap.size w5).alloc (Nat.le_refl _) (.cells #[.int .i64 0, .int .i64 0, .string ⟨#[]⟩] 38)))))
                clear hb5
                go_wp2_with fail
                go_ret3
                exact ⟨none, 0, ret_v (x := .tuple #[.slice none 0 0, .int .i64 0, .bool false]) (by rw [HNo.out]; rfl), (by rw [HNo.out]; exact slO_none _), HB5.out⟩
              | some r =>
                obtain ⟨⟨k, nn, s⟩, m⟩ := r
                obtain ⟨hrg, hmy, hml, _⟩ := getP_some (ScM.bytes_drop HBy.out (p + 1)) hg
                rw [List.length_drop, ← HLen.out] at hml
                have HGo := Lib.hid (show gL xs = fin8 (l ++ [⟨0, 0, ⟨k, nn, s⟩⟩]) (p + (1 + m)) (gOs (n - (j + 1)) (xs.drop (p + (1 + m)))) by
                  rw [HGs2.out, HDr.out, fin8_step (show gO (0 :: xs.drop (p + 1)) = some (⟨0, 0, ⟨k, nn, s⟩⟩, 1 + m) by rw [gO_push, hg]), ← HDr.out, List.drop_drop])
                rw [hg] at HV
                simp only [gotP, Va.got3] at HV
                have HFo := Lib.hid (⟨Go.Proofs.Ytbjgflinggelpaa.Ex.may_size hmy, hrg, ⟨(by decide : (-9223372036854775808 : Int) ≤ 0), (by decide : (0 : Int) ≤ 9223372036854775807)⟩, (by decide : (-9223372036854775808 : Int) ≤ 0), (by decide : (0 : Int) ≤ 9223372036854775807)⟩ : Fin ⟨0, 0, ⟨k, nn, s⟩⟩)
                clear hg hrg hmy
                go_wp2_with fail
                obtain ⟨w4, hw4⟩ : ∃ z, z = (wr.alloc (.cells #[.int .i64 0, .int .i64 0, .int .i64 0, .int .i64 0, .string ⟨#[]⟩] 52)) := ⟨_, rfl⟩
                obtain ⟨g, hg⟩ : ∃ z, z = wr.heap.size := ⟨_, rfl⟩
                clear y0' y1 y2 y3 y4
                have hx4 : BxO (wr.alloc (.cells #[.int .i64 0, .int .i64 0, .int .i64 0, .int .i64 0, .string ⟨#[]⟩] 52)) wr.heap.size ⟨0, 0, v0⟩ := HX4.out
                have HB4 := Lib.hid (show Below wr.heap.size wr (wr.alloc (.cells #[.int .i64 0, .int .i64 0, .int .i64 0, .int .i64 0, .string ⟨#[]⟩] 52)) from HB4.out)
                rw [← hw4] at HV hx4 HB4 ⊢
                rw [← hg] at hx4 ⊢
                have HG := Lib.hid hg
                have HX4 := Lib.hid (show BxO w4 g ⟨0, 0, v0⟩ from hx4)
                clear hw4 hg hx4
                refine HV.out.mono ?_
                rintro e w5 ⟨rfl, hb5⟩
                have ha6 := (Below.refl w5.heap.size w5).alloc (Nat.le_refl _) (.cells #[.int .i64 k, .int .i64 nn, .string s] 38)
                obtain ⟨⟨z0, z1, z2⟩, _⟩ := bx_new_t w5 38 (.int .i64 k) (.int .i64 nn) (.string s)
                have hx6 := (HX4.out.kept hb5).kept ha6
                have hx7 := RG.BxN.set (RG.BxN.set (RG.BxN.set hx6 2 (show 2 < 5 from by decide) (.int .i64 k)) 3 (show 3 < 5 from by decide) (.int .i64 nn)) 4 (show 4 < 5 from by decide) (.string s)
                have HX7 := Lib.hid (show BxO (((((w5.alloc (.cells #[.int .i64 k, .int .i64 nn, .string s] 38)).setCell ⟨g, 2, none⟩ (.int .i64 k)).setCell ⟨g, 3, none⟩ (.int .i64 nn)).setCell ⟨g, 4, none⟩ (.string s))) g ⟨0, 0, ⟨k, nn, s⟩⟩ from hx7)
                have HBW := Lib.hid (((bt HB4.out (bt hb5 ha6)).setCell (p := ⟨g, 2, none⟩) (Nat.le_of_eq HG.out.symm) (.int .i64 k)).setCell (p := ⟨g, 3, none⟩) (Nat.le_of_eq HG.out.symm) (.int .i64 nn) |>.setCell (p := ⟨g, 4, none⟩) (Nat.le_of_eq HG.out.symm) (.string s))
                obtain ⟨t0, t0'⟩ := hx6 0 _ rfl
                obtain ⟨t2, t2'⟩ := hx6 2 _ rfl
                obtain ⟨t3, t3'⟩ := hx6 3 _ rfl
                obtain ⟨t4, t4'⟩ := hx6 4 _ rfl
                simp only at t0 t2 t3 t4
                clear hb5 ha6 hx6 hx7
                obtain ⟨o0, o1, o2, o3, o4⟩ := HX7.out.cells
                simp only at o0 o1 o2 o3 o4
                have ha7 := (Below.refl ((((w5.alloc (.cells #[.int .i64 k, .int .i64 nn, .string s] 38)).setCell ⟨g, 2, none⟩ (.int .i64 k)).setCell ⟨g, 3, none⟩ (.int .i64 nn)).setCell ⟨g, 4, none⟩ (.string s)).heap.size ((((w5.alloc (.cells #[.int .i64 k, .int .i64 nn, .string s] 38)).setCell ⟨g, 2, none⟩ (.int .i64 k)).setCell ⟨g, 3, none⟩ (.int .i64 nn)).setCell ⟨g, 4, none⟩ (.string s))).alloc (Nat.le_refl _) (.cells #[.int .i64 0, .int .i64 0, .int .i64 k, .int .i64 nn, .string s] 52)
                have hz7 : ((((w5.alloc (.cells #[.int .i64 k, .int .i64 nn, .string s] 38)).setCell ⟨g, 2, none⟩ (.int .i64 k)).setCell ⟨g, 3, none⟩ (.int .i64 nn)).setCell ⟨g, 4, none⟩ (.string s)).heap.size = w5.heap.size + 1 := by simp
                have hn7 := slO_1 ((((w5.alloc (.cells #[.int .i64 k, .int .i64 nn, .string s] 38)).setCell ⟨g, 2, none⟩ (.int .i64 k)).setCell ⟨g, 3, none⟩ (.int .i64 nn)).setCell ⟨g, 4, none⟩ (.string s)) ⟨0, 0, ⟨k, nn, s⟩⟩ HFo.out
                rw [hz7] at hn7
                have HN7 := Lib.hid hn7
                have HO7 := Lib.hid (RegA.own_below HO.out (bt HBW.out ha7))
                have HB7 := Lib.hid (bt HBl.out (bt HBW.out ha7))
                have hsz7 := HB7.out.size
                clear ha7 hz7 hn7
                go_wp2_with (at_builtin; refine wp_append_o rfl (.tmp 78) (.tmp 80) rfl w.heap.size _ j l rfl HO7.out (some ⟨w5.heap.size + 1, 0, none⟩) 1 1 [⟨0, 0, ⟨k, nn, s⟩⟩] rfl rfl HN7.out (by omega) hsz7 ?_; intro u8 w8 hown8 hgrow8; refine pause ?_)
                have HB8 := Lib.hid (HB7.out.grown hgrow8 hsz7 (fun k hk => (HO7.out.lt k hk).1))
                have HO8 := Lib.hid hown8
                clear hown8 hgrow8 o0 o1 o2 o3 o4
                unfold Pause
                go_wp2_with fail
                go_roundw
                case rel => exact ⟨j + 1, p + (1 + m), l ++ [⟨0, 0, ⟨k, nn, s⟩⟩], by go_num, by go_num, by omega, by omega, by rw [List.length_append, HL.out]; rfl, (fun y hy => by
                  rcases List.mem_append.1 hy with hy | hy
                  · exact HFn.out y hy
                  · rw [List.mem_singleton.1 hy]
                    exact HFo.out), HGo.out, HO8.out, HB8.out⟩
                case measure => simp [intOf]; omega
            · have h0' : (x0 == 0) = false := by simpa using h0
              by_cases h1 : x0 = 1
              · subst h1
                clear h0 h0' x0l x0u
                by_cases hp2 : p + 1 < N
                · have g2 : decide ((N : Int) ≤ (p : Int) + 1) = false := by rw [decide_eq_false_iff_not]; omega
                  obtain ⟨b2, q2, hi2, hc2, x2l, x2u⟩ := HBat.out (p + 1) hp2
                  rw [show ((p + 1 : Nat) : Int) = (p : Int) + 1 from by omega] at hi2
                  have hdr2 := HDrop.out (p + 1) hp2
                  obtain ⟨x2, hx2⟩ : ∃ e, e = xs.getD (p + 1) 0 := ⟨_, rfl⟩
                  rw [← hx2] at hdr2 x2l x2u
                  simp only [← hx2] at hc2
                  have HGo := Lib.hid (show gL xs = fin8 (l ++ [⟨1, x2, v0⟩]) (p + 2) (gOs (n - (j + 1)) (xs.drop (p + 2))) by
                    rw [HGs2.out, HDr.out, fin8_step (show gO (1 :: xs.drop (p + 1)) = some (⟨1, x2, v0⟩, 2) by rw [hdr2]; rfl), ← HDr.out, List.drop_drop])
                  have ha4 := (Below.refl wr.heap.size wr).alloc (Nat.le_refl _) (.cells #[.int .i64 1, .int .i64 x2, .int .i64 0, .int .i64 0, .string ⟨#[]⟩] 52)
                  have HX4 := Lib.hid (bxO_new wr ⟨1, x2, v0⟩)
                  have HB4 := Lib.hid ha4
                  have ha5 := (Below.refl wr.heap.size wr).alloc (Nat.le_refl _) (.cells #[.int .i64 1, .int .i64 0, .int .i64 0, .int .i64 0, .string ⟨#[]⟩] 52)
                  have y2' := hc2 _ (bt HBl.out ha5)
                  obtain ⟨r0, r1, r2, r3, r4⟩ := (bxO_new wr ⟨1, 0, v0⟩).cells
                  simp only [v0] at r0 r1 r2 r3 r4
                  clear hx2 hdr2 hc2 ha4 ha5
                  obtain ⟨o0, o1, o2, o3, o4⟩ := HX4.out.cells
                  simp only at o0 o1 o2 o3 o4
                  have ha7 := (Below.refl (wr.alloc (.cells #[.int .i64 1, .int .i64 x2, .int .i64 0, .int .i64 0, .string ⟨#[]⟩] 52)).heap.size (wr.alloc (.cells #[.int .i64 1, .int .i64 x2, .int .i64 0, .int .i64 0, .string ⟨#[]⟩] 52))).alloc (Nat.le_refl _) (.cells #[.int .i64 1, .int .i64 x2, .int .i64 0, .int .i64 0, .string ⟨#[]⟩] 52)
                  have hz7 : (wr.alloc (.cells #[.int .i64 1, .int .i64 x2, .int .i64 0, .int .i64 0, .string ⟨#[]⟩] 52)).heap.size = wr.heap.size + 1 := by simp
                  have hn7 := slO_1 (wr.alloc (.cells #[.int .i64 1, .int .i64 x2, .int .i64 0, .int .i64 0, .string ⟨#[]⟩] 52)) ⟨1, x2, v0⟩ (⟨Nat.zero_le _, ⟨(by decide : (-9223372036854775808 : Int) ≤ 0), (by decide : (0 : Int) ≤ 9223372036854775807)⟩, ⟨by show -9223372036854775808 ≤ (1 : Int); omega, by show (1 : Int) ≤ 9223372036854775807; omega⟩, by show -9223372036854775808 ≤ x2; omega, by show x2 ≤ 9223372036854775807; omega⟩ : Fin ⟨(1 : Int), x2, v0⟩)
                  rw [hz7] at hn7
                  have HN7 := Lib.hid hn7
                  have HO7 := Lib.hid (RegA.own_below HO.out (bt HB4.out ha7))
                  have HB7 := Lib.hid (bt HBl.out (bt HB4.out ha7))
                  have hsz7 := HB7.out.size
                  clear ha7 hz7 hn7
                  go_wp2_with (at_builtin; refine wp_append_o rfl (.tmp 78) (.tmp 80) rfl w.heap.size _ j l rfl HO7.out (some ⟨wr.heap.size + 1, 0, none⟩) 1 1 [⟨1, x2, v0⟩] rfl rfl HN7.out (by omega) hsz7 ?_; intro u8 w8 hown8 hgrow8; refine pause ?_)
                  have HB8 := Lib.hid (HB7.out.grown hgrow8 hsz7 (fun k hk => (HO7.out.lt k hk).1))
                  have HO8 := Lib.hid hown8
                  clear hown8 hgrow8 o0 o1 o2 o3 o4
                  unfold Pause
                  go_wp2_with fail
                  go_roundw
                  case rel => exact ⟨j + 1, p + 2, l ++ [⟨1, x2, v0⟩], by go_num, by go_num, by omega, by omega, by rw [List.length_append, HL.out]; rfl, (fun y hy => by
                    rcases List.mem_append.1 hy with hy | hy
                    · exact HFn.out y hy
                    · rw [List.mem_singleton.1 hy]
                      exact (⟨Nat.zero_le _, ⟨(by decide : (-9223372036854775808 : Int) ≤ 0), (by decide : (0 : Int) ≤ 9223372036854775807)⟩, ⟨by show -9223372036854775808 ≤ (1 : Int); omega, by show (1 : Int) ≤ 9223372036854775807; omega⟩, by show -9223372036854775808 ≤ x2; omega, by show x2 ≤ 9223372036854775807; omega⟩ : Fin ⟨(1 : Int), x2, v0⟩)), HGo.out, HO8.out, HB8.out⟩
                  case measure => simp [intOf]; omega
                · have g2 : decide ((N : Int) ≤ (p : Int) + 1) = true := by rw [decide_eq_true_iff]; omega
                  have HNo := Lib.hid (show gL xs = none by rw [HGs2.out, HDr.out, HOut.out (p + 1) hp2]; exact fin8_no rfl)
                  have ha5 := (Below.refl wr.heap.size wr).alloc (Nat.le_refl _) (.cells #[.int .i64 1, .int .i64 0, .int .i64 0, .int .i64 0, .string ⟨#[]⟩] 52)
                  have HB5 := Lib.hid (bt HBl.out ha5)
                  obtain ⟨r0, r1, r2, r3, r4⟩ := (bxO_new wr ⟨1, 0, v0⟩).cells
                  simp only [v0] at r0 r1 r2 r3 r4
                  clear ha5
                  go_wp2_with fail
                  go_ret3
                  exact ⟨none, 0, ret_v (x := .tuple #[.slice none 0 0, .int .i64 0, .bool false]) (by rw [HNo.out]; rfl), (by rw [HNo.out]; exact slO_none _), HB5.out⟩
              · have h1' : (x0 == 1) = false := by simpa using h1
                have HGo := Lib.hid (show gL xs = fin8 (l ++ [⟨x0, 0, v0⟩]) (p + 1) (gOs (n - (j + 1)) (xs.drop (p + 1))) by
                  rw [HGs2.out, HDr.out, fin8_step (gO_other _ h0 h1), ← HDr.out, List.drop_drop])
                have HX4 := Lib.hid (bxO_new wr ⟨x0, 0, v0⟩)
                have HB4 := Lib.hid ((Below.refl wr.heap.size wr).alloc (Nat.le_refl _) (.cells #[.int .i64 x0, .int .i64 0, .int .i64 0, .int .i64 0, .string ⟨#[]⟩] 52))
                obtain ⟨o0, o1, o2, o3, o4⟩ := HX4.out.cells
                simp only at o0 o1 o2 o3 o4
                have ha7 := (Below.refl (wr.alloc (.cells #[.int .i64 x0, .int .i64 0, .int .i64 0, .int .i64 0, .string ⟨#[]⟩] 52)).heap.size (wr.alloc (.cells #[.int .i64 x0, .int .i64 0, .int .i64 0, .int .i64 0, .string ⟨#[]⟩] 52))).alloc (Nat.le_refl _) (.cells #[.int .i64 x0, .int .i64 0, .int .i64 0, .int .i64 0, .string ⟨#[]⟩] 52)
                have hz7 : (wr.alloc (.cells #[.int .i64 x0, .int .i64 0, .int .i64 0, .int .i64 0, .string ⟨#[]⟩] 52)).heap.size = wr.heap.size + 1 := by simp
                have hn7 := slO_1 (wr.alloc (.cells #[.int .i64 x0, .int .i64 0, .int .i64 0, .int .i64 0, .string ⟨#[]⟩] 52)) ⟨x0, 0, v0⟩ (⟨Nat.zero_le _, ⟨(by decide : (-9223372036854775808 : Int) ≤ 0), (by decide : (0 : Int) ≤ 9223372036854775807)⟩, ⟨by show -9223372036854775808 ≤ x0; omega, by show x0 ≤ 9223372036854775807; omega⟩, by show -9223372036854775808 ≤ (0 : Int); omega, by show (0 : Int) ≤ 9223372036854775807; omega⟩ : Fin ⟨x0, (0 : Int), v0⟩)
                rw [hz7] at hn7
                have HN7 := Lib.hid hn7
                have HO7 := Lib.hid (RegA.own_below HO.out (bt HB4.out ha7))
                have HB7 := Lib.hid (bt HBl.out (bt HB4.out ha7))
                have hsz7 := HB7.out.size
                clear ha7 hz7 hn7
                go_wp2_with (at_builtin; refine wp_append_o rfl (.tmp 78) (.tmp 80) rfl w.heap.size _ j l rfl HO7.out (some ⟨wr.heap.size + 1, 0, none⟩) 1 1 [⟨x0, 0, v0⟩] rfl rfl HN7.out (by omega) hsz7 ?_; intro u8 w8 hown8 hgrow8; refine pause ?_)
                have HB8 := Lib.hid (HB7.out.grown hgrow8 hsz7 (fun k hk => (HO7.out.lt k hk).1))
                have HO8 := Lib.hid hown8
                clear hown8 hgrow8 o0 o1 o2 o3 o4
                unfold Pause
                go_wp2_with fail
                go_roundw
                case rel => exact ⟨j + 1, p + 1, l ++ [⟨x0, 0, v0⟩], by go_num, by go_num, by omega, by omega, by rw [List.length_append, HL.out]; rfl, (fun y hy => by
                  rcases List.mem_append.1 hy with hy | hy
                  · exact HFn.out y hy
                  · rw [List.mem_singleton.1 hy]
                    exact (⟨Nat.zero_le _, ⟨(by decide : (-9223372036854775808 : Int) ≤ 0), (by decide : (0 : Int) ≤ 9223372036854775807)⟩, ⟨by show -9223372036854775808 ≤ x0; omega, by show x0 ≤ 9223372036854775807; omega⟩, by show -9223372036854775808 ≤ (0 : Int); omega, by show (0 : Int) ≤ 9223372036854775807; omega⟩ : Fin ⟨x0, (0 : Int), v0⟩)), HGo.out, HO8.out, HB8.out⟩
                case measure => simp [intOf]; omega
          · have g1 : decide (N ≤ p) = true := by rw [decide_eq_true_iff]; omega
            have g1' : decide ((N : Int) ≤ (p : Int)) = true := by rw [decide_eq_true_iff]; omega
            have HNo := Lib.hid (show gL xs = none by rw [HGs2.out, HOut.out p hpN]; exact fin8_no rfl)
            go_wp2_with fail
            go_ret3
            exact ⟨none, 0, ret_v (x := .tuple #[.slice none 0 0, .int .i64 0, .bool false]) (by rw [HNo.out]; rfl), (by rw [HNo.out]; exact slO_none _), HBl.out⟩
        · obtain rfl : j = n := by omega
          have hgs := HGs.out
          rw [Nat.sub_self] at hgs
          have hgl : gL xs = if ExM.May l then some (l, p) else none := by rw [hgs]; simp only [gOs, fin8, List.append_nil, Nat.add_zero]
          obtain ⟨Af, cf, rfl, hjl, hsl, hfar⟩ := own_slO HO.out HFn.out
          have hmy := refMay_any l Af cf wr hsl
          have HGl := Lib.hid hgl
          have HSl := Lib.hid hsl
          rw [HL.out] at hmy ⊢
          have HMy := Lib.hid hmy
          clear hgs hgl hsl hmy HGs hjl hfar
          go_wp2_with fail
          refine HMy.out.mono ?_
          rintro e w6 ⟨rfl, hb6⟩
          have HB6 := Lib.hid (bt HBl.out hb6)
          have HS6 := Lib.hid (HSl.out.kept hb6)
          clear hb6 HMy
          by_cases hm : ExM.May l
          · have HYes := Lib.hid (show gL xs = some (l, p) by rw [HGl.out, if_pos hm])
            rw [decide_eq_true hm]
            clear hm
            go_wp2_with fail
            go_ret3
            exact ⟨Af, cf, ret_v (x := .tuple #[.slice Af j cf, .int .i64 p, .bool true]) (by rw [HYes.out]; simp only [gotL, HL.out]), (by rw [HYes.out]; exact HS6.out), HB6.out⟩
          · have HNo := Lib.hid (show gL xs = none by rw [HGl.out, if_neg hm])
            rw [decide_eq_false hm]
            clear hm
            go_wp2_with fail
            go_ret3
            exact ⟨none, 0, ret_v (x := .tuple #[.slice none 0 0, .int .i64 0, .bool false]) (by rw [HNo.out]; rfl), (by rw [HNo.out]; exact slO_none _), HB6.out⟩
    · have HNo := Lib.hid (gL_great hs hn)
      have hd1 : decide ((12 : Int) < (n : Int)) = true := by rw [decide_eq_true_iff]; omega
      clear hs hn
      go_enter Try.func22, Try.ntmps22
      go_wp2_with fail
      refine HGet.out.mono ?_
      rintro e w1 ⟨rfl, hb1⟩
      have HB1 := Lib.hid hb1
      simp only [LeG.gotV]
      clear hb1
      go_wp2_with fail
      go_ret3
      exact ⟨none, 0, ret_v (x := .tuple #[.slice none 0 0, .int .i64 0, .bool false]) (by rw [HNo.out]; rfl), (by rw [HNo.out]; exact slO_none _), HB1.out⟩
end Go.Proofs.Ytbjgflinggelpaa.Ex

namespace Go.Proofs.Ytbjgflinggelpaa.Ex
open Go.RowKit Go.Proofs.Ytbjgflinggelpaa.BM Go.Proofs.Ytbjgflinggelpaa.LM Go.Proofs.Ytbjgflinggelpaa.LeM Go.Proofs.Ytbjgflinggelpaa.EvM Go.Proofs.Ytbjgflinggelpaa.ExM
open Go.Proofs.Ytbjgflinggelpaa.VaM (V Rng gotP getP e0)
open Go.Proofs.Ytbjgflinggelpaa.Va (Bx Bx2 bx_new_t bx2_new bx2_set0 bx2_set1 bx_set2 ret_v bx_store stored3)
open Go.Proofs.Ytbjgflinggelpaa.Sc (Rdd grown_set grown_trans)
open Go.Proofs.Ytbjgflinggelpaa.ScM (Rs rNum rNum_le)

set_option maxRecDepth 100000 in
theorem number_own (b : Nat) (A : Option Addr) (xs : List Int) (c : Nat) (sh : Bool) (m : Nat) (w : World) (hB : Bx2 w b (.slice A xs.length c) (.bool sh)) (hx : SlB w A xs c) (hm : m ≤ 1000) :
    Calls Try.prog 44 #[.pointer (some ⟨b, 0, none⟩), .int .u64 (m : Int)] w fun e w' => e = .returned (.int .i64 ((rNum m (xs, sh)).1 : Int)) ∧ Rdd b A c xs w (rNum m (xs, sh)).2 w' := by
  have hxc := hx.2.1
  have hmx := hx.2.2.2
  unfold maxLen at hmx
  have hget := LeG.Get_any A xs c w (by omega) hx.1
  have HX := Lib.hid hB
  cases hg : getS xs with
  | none =>
    have hr : rNum m (xs, sh) = (0, (xs, true)) := by unfold rNum; simp only [hg]
    rw [hr]
    rw [hg] at hget
    obtain ⟨n, hn⟩ : ∃ n, n = xs.length := ⟨_, rfl⟩
    have HP := Lib.hid (bx2_set1 hB (.bool true))
    rw [← hn] at hB hget
    have HG := Lib.hid hget
    obtain ⟨⟨p0, p1⟩, p2, p3⟩ := hB
    clear hr hx hn hg hget
    go_enter Try.func44, Try.ntmps44
    go_wp2_with fail
    refine HG.out.mono ?_
    rintro e w1 ⟨rfl, rfl⟩
    simp only [LeG.gotV]
    go_wp2_with fail
    go_ret
    exact ⟨rfl, grown_set _ _ _ _, A, c, HP.out, fun W h => h⟩
  | some p =>
    obtain ⟨v, u⟩ := p
    obtain ⟨h1, h2, h3⟩ := (getS_iff xs hx.1.1 v u).1 hg
    rw [hg] at hget
    by_cases hv : v ≤ m
    · have hr : rNum m (xs, sh) = (v, (xs.drop u, sh)) := by unfold rNum; simp only [hg, if_pos hv]
      rw [hr]
      have hlt2 : (xs.drop u).length = xs.length - u := List.length_drop
      have HP := Lib.hid (bx2_set0 hB (.slice (dropA A u c) (xs.drop u).length (c - u)))
      have HE := Lib.hid hlt2
      have hD := fun W (h : SlB W A xs c) => Cut.slB_drop h u h2
      have hsl2 := fun W => slice_lo W A xs.length c u h2
      obtain ⟨D, hDe⟩ : ∃ D, D = dropA A u c := ⟨_, rfl⟩
      rw [← hDe] at HP hsl2
      simp only [← hDe] at hD
      obtain ⟨n, hn⟩ : ∃ n, n = xs.length := ⟨_, rfl⟩
      rw [← hn] at hB hget hsl2 HE h2
      have HG := Lib.hid hget
      have HD := Lib.hid hD
      obtain ⟨⟨p0, p1⟩, p2, p3⟩ := hB
      clear hr hx hn hg hget hD hDe hlt2 h3 h1
      go_enter Try.func44, Try.ntmps44
      go_wp2_with fail
      refine HG.out.mono ?_
      rintro e w1 ⟨rfl, rfl⟩
      simp only [LeG.gotV]
      go_wp2_with fail
      go_ret
      refine ⟨rfl, grown_set _ _ _ _, D, c - u, ?_, HD.out⟩
      have h := HP.out
      rw [HE.out] at h
      simp only [HE.out]
      exact h
    · have hr : rNum m (xs, sh) = (0, (xs, true)) := by unfold rNum; simp only [hg, if_neg hv]
      rw [hr]
      obtain ⟨n, hn⟩ : ∃ n, n = xs.length := ⟨_, rfl⟩
      have HP := Lib.hid (bx2_set1 hB (.bool true))
      rw [← hn] at hB hget
      have HG := Lib.hid hget
      obtain ⟨⟨p0, p1⟩, p2, p3⟩ := hB
      clear hr hx hn hg hget h3 h2
      go_enter Try.func44, Try.ntmps44
      go_wp2_with fail
      refine HG.out.mono ?_
      rintro e w1 ⟨rfl, rfl⟩
      simp only [LeG.gotV]
      go_wp2_with fail
      go_ret
      exact ⟨rfl, grown_set _ _ _ _, A, c, HP.out, fun W h => h⟩

theorem grownB {w w' : World} {r : Option Nat} (h : Below w.heap.size w w') : w.grownBy w' r := ⟨h.os, h.tape, h.output, h.size, fun k hk _ => h.block k hk⟩
theorem grownF {w W : World} {r : Option Nat} {k : Nat} (h : w.grownBy W r) (hk : w.heap.size ≤ k) (i : Nat) (u : Value) : w.grownBy (W.setCell ⟨k, i, none⟩ u) r := by
  have g := grown_set W k i u
  exact ⟨g.os.trans h.os, g.tape.trans h.tape, g.output.trans h.output, Nat.le_trans h.size g.size, fun j hj hne => (g.block j (Nat.lt_of_lt_of_le hj h.size) (fun e => by injection e with e; omega)).trans (h.block j hj hne)⟩

set_option maxRecDepth 100000 in
set_option maxHeartbeats 1000000 in
theorem value_own (b : Nat) (A : Option Addr) (xs : List Int) (c : Nat) (sh : Bool) (w : World) (hB : Bx2 w b (.slice A xs.length c) (.bool sh)) (hx : ∀ W, w.grownBy W (some b) → SlB W A xs c) :
    Calls Try.prog 67 #[.pointer (some ⟨b, 0, none⟩)] w fun e w' => e = .returned (.agg #[.int .i64 (rVal (xs, sh)).1.k, .int .i64 (rVal (xs, sh)).1.n, .string (rVal (xs, sh)).1.s]) ∧ Rdd b A c xs w (rVal (xs, sh)).2 w' := by
  have hx0 := hx w (World.grownBy.refl _ _)
  have hxc := hx0.2.1
  have hxm := hx0.2.2.2
  unfold maxLen at hxm
  have hblt := hB.lt
  have hget := fun W (hW : Below w.heap.size w W) => Va.Get_any A xs c W (hx0.kept hW)
  have hle := (gotP_sm hx0.1.1).2
  have hrv : rVal (xs, sh) = ((gotP (getP xs)).1, (xs.drop (gotP (getP xs)).2.1, sh || !(gotP (getP xs)).2.2)) := rfl
  unfold Va.Gots at hget
  obtain ⟨⟨⟨vk, vn, vs⟩, m, is⟩, hr⟩ : ∃ r, r = gotP (getP xs) := ⟨_, rfl⟩
  rw [← hr] at hle hrv
  simp only [← hr, Va.got3] at hget
  simp only at hle hrv
  rw [hrv]
  simp only
  have hdl : (xs.drop m).length = xs.length - m := List.length_drop
  have hD := fun W (h : SlB W A xs c) => Cut.slB_drop h m hle
  have hsl2 := fun W => slice_lo W A xs.length c m hle
  obtain ⟨D, hDe⟩ : ∃ D, D = dropA A m c := ⟨_, rfl⟩
  rw [← hDe] at hsl2
  simp only [← hDe] at hD
  have HDl := Lib.hid hdl
  obtain ⟨r, hrl⟩ : ∃ r, r = xs.length := ⟨_, rfl⟩
  rw [← hrl] at hB hle hxc hsl2 HDl
  simp only [← hrl] at hget
  have HGet := Lib.hid hget
  have HD := Lib.hid hD
  have ha0 := (Below.refl w.heap.size w).alloc (Nat.le_refl _) (.cells #[.int .i64 0, .int .i64 0, .string ⟨#[]⟩] 38)
  have HA0 := Lib.hid ha0
  have HR0 := Lib.hid (bx_new_t w 38 (.int .i64 0) (.int .i64 0) (.string ⟨#[]⟩))
  have HB0 := Lib.hid (hB.kept ha0)
  clear hr hrv hget hD hDe hrl hdl ha0 hx hx0 hB
  obtain ⟨⟨p0, p1⟩, p2, p3⟩ := HB0.out
  go_enter Try.func67, Try.ntmps67
  go_wp2_with fail
  refine (HGet.out _ HA0.out).mono ?_
  rintro e w1 ⟨rfl, hb1⟩
  have ha1 := (Below.refl w1.heap.size w1).alloc (Nat.le_refl _) (.cells #[.int .i64 vk, .int .i64 vn, .string vs] 38)
  have HB1 := Lib.hid ((HB0.out.kept hb1).kept ha1)
  have HR1 := Lib.hid ((HR0.out.kept hb1).kept ha1)
  have HV1 := Lib.hid (bx_new_t w1 38 (.int .i64 vk) (.int .i64 vn) (.string vs))
  have HG1 := Lib.hid (bt HA0.out (bt hb1 ha1))
  have hwl := Nat.lt_of_lt_of_le HR0.out.lt hb1.size
  clear hb1 ha1 HGet HA0 HR0 HB0 p0 p1 p2 p3
  have hne1 : ¬ b = w1.heap.size := by omega
  have hne2 : ¬ b = w.heap.size := by omega
  have hne3 : ¬ w1.heap.size = w.heap.size := by omega
  obtain ⟨⟨p0, p1⟩, p2, p3⟩ := HB1.out
  obtain ⟨⟨z0, z1, z2⟩, _⟩ := HV1.out
  obtain ⟨⟨y0, y1, y2⟩, y3, y4, y5⟩ := HR1.out
  have hfin : ∀ T : Bool, ∃ W2, W2 = (((((w1.alloc (.cells #[.int .i64 vk, .int .i64 vn, .string vs] 38)).setCell ⟨b, 0, none⟩ (.slice D (r - m) (c - m))).setCell ⟨b, 1, none⟩ (.bool T)).setCell ⟨w.heap.size, 0, none⟩ (.int .i64 vk)).setCell ⟨w.heap.size, 1, none⟩ (.int .i64 vn)).setCell ⟨w.heap.size, 2, none⟩ (.string vs) ∧
      Bx W2 w.heap.size (.int .i64 vk) (.int .i64 vn) (.string vs) ∧ Rdd b A c xs w (xs.drop m, T) W2 := fun T => by
    refine ⟨_, rfl, bx_store ((HR1.out.off (p := ⟨b, 0, none⟩) hne2 _).off (p := ⟨b, 1, none⟩) hne2 _) _ _ _, ?_, D, c - m, ?_, HD.out⟩
    · exact grownF (grownF (grownF (grown_trans (grown_trans (grownB HG1.out) (grown_set _ _ _ _)) (grown_set _ _ _ _)) (Nat.le_refl _) _ _) (Nat.le_refl _) _ _) (Nat.le_refl _) _ _
    · simp only [HDl.out]
      have hn2 : w.heap.size ≠ b := fun e => hne2 e.symm
      exact (((bx2_set1 (bx2_set0 HB1.out (.slice D (r - m) (c - m))) (.bool T)).off (p := ⟨w.heap.size, 0, none⟩) hn2 _).off (p := ⟨w.heap.size, 1, none⟩) hn2 _).off (p := ⟨w.heap.size, 2, none⟩) hn2 _
  have HFin := Lib.hid hfin
  clear hfin
  cases sh
  · obtain ⟨W2, hW2, hb2, hr2⟩ := HFin.out (!is)
    obtain ⟨⟨g0, g1, g2⟩, _⟩ := hb2
    have G0 := Lib.hid g0
    have G1 := Lib.hid g1
    have G2 := Lib.hid g2
    have HRd := Lib.hid hr2
    have HW2 := Lib.hid hW2
    clear hW2 g0 g1 g2 hr2
    go_wp2_with fail
    rw [← HW2.out]
    have g0 := G0.out
    have g1 := G1.out
    have g2 := G2.out
    exact bodyPost_ret (v := .agg #[.int .i64 vk, .int .i64 vn, .string vs]) (by simp [results, Try.results67, go_sem, g0, g1, g2]) rfl ⟨rfl, HRd.out⟩
  · obtain ⟨W2, hW2, hb2, hr2⟩ := HFin.out true
    obtain ⟨⟨g0, g1, g2⟩, _⟩ := hb2
    have G0 := Lib.hid g0
    have G1 := Lib.hid g1
    have G2 := Lib.hid g2
    have HRd := Lib.hid hr2
    have HW2 := Lib.hid hW2
    clear hW2 g0 g1 g2 hr2
    go_wp2_with fail
    rw [← HW2.out]
    have g0 := G0.out
    have g1 := G1.out
    have g2 := G2.out
    exact bodyPost_ret (v := .agg #[.int .i64 vk, .int .i64 vn, .string vs]) (by simp [results, Try.results67, go_sem, g0, g1, g2]) rfl ⟨rfl, HRd.out⟩
set_option maxRecDepth 100000 in
theorem one_own (b : Nat) (A : Option Addr) (xs : List Int) (c : Nat) (sh : Bool) (w : World) (hB : Bx2 w b (.slice A xs.length c) (.bool sh)) (hx : SlB w A xs c) :
    Calls Try.prog 66 #[.pointer (some ⟨b, 0, none⟩)] w fun e w' => e = .returned (.int .i64 (rOne (xs, sh)).1) ∧ Rdd b A c xs w (rOne (xs, sh)).2 w' := by
  cases xs with
  | nil =>
    have hr : rOne ([], sh) = (0, ([], true)) := rfl
    rw [hr]
    have HP := Lib.hid (bx2_set1 hB (.bool true))
    rw [List.length_nil] at hB
    obtain ⟨⟨p0, p1⟩, p2, p3⟩ := hB
    clear hr hx
    go_enter Try.func66, Try.ntmps66
    go_wp2_with fail
    go_ret
    exact ⟨rfl, grown_set _ _ _ _, A, c, HP.out, fun W h => h⟩
  | cons x t =>
    have hr : rOne (x :: t, sh) = (x, (t, sh)) := rfl
    rw [hr]
    obtain ⟨b1, q1, hix, hc, hx0, hx1⟩ := byte_at hx 0 (by simp)
    have hc0 := hc w (Below.refl _ _)
    rw [List.getD_cons_zero] at hc0 hx0 hx1
    have hi : ∀ W, (Instr.indexAt 29 (.slice A (t.length + 1) c) (.int .i64 0)).run Try.prog W = .ok (.pointer (some ⟨b1, q1, none⟩)) W := hix
    have hsl := fun W => Va.slice_1 W A t.length c
    have hD := fun W (h : SlB W A (x :: t) c) => Cut.slB_drop h 1 (by simp)
    simp only [List.drop_succ_cons, List.drop_zero] at hD
    have HP := Lib.hid (bx2_set0 hB (.slice (dropA A 1 c) t.length (c - 1)))
    obtain ⟨D, hDe⟩ : ∃ D, D = dropA A 1 c := ⟨_, rfl⟩
    rw [← hDe] at HP
    simp only [← hDe] at hD hsl
    rw [List.length_cons] at hB
    obtain ⟨n, hn⟩ : ∃ n, n = t.length := ⟨_, rfl⟩
    rw [← hn] at hB
    simp only [← hn] at hi hsl
    have HN := Lib.hid hn
    have HD := Lib.hid hD
    obtain ⟨⟨p0, p1⟩, p2, p3⟩ := hB
    clear hr hx hn hD hDe hix hc
    go_enter Try.func66, Try.ntmps66
    go_wp2_with fail
    go_ret
    refine ⟨rfl, grown_set _ _ _ _, D, c - 1, ?_, HD.out⟩
    have h := HP.out
    rw [← HN.out] at h
    simp only [← HN.out]
    exact h
end Go.Proofs.Ytbjgflinggelpaa.Ex

namespace Go.Proofs.Ytbjgflinggelpaa.Ex
open Go.RowKit Go.Proofs.Ytbjgflinggelpaa.BM Go.Proofs.Ytbjgflinggelpaa.LM Go.Proofs.Ytbjgflinggelpaa.LeM Go.Proofs.Ytbjgflinggelpaa.EvM Go.Proofs.Ytbjgflinggelpaa.ExM
open Go.Proofs.Ytbjgflinggelpaa.VaM (V Rng gotP getP e0)
open Go.Proofs.Ytbjgflinggelpaa.Va (Bx Bx2 bx_new_t bx2_new bx2_set0 bx2_set1 bx_set2 ret_v bx_store stored3)
open Go.Proofs.Ytbjgflinggelpaa.Sc (Rdd grown_set grown_trans)
open Go.Proofs.Ytbjgflinggelpaa.ScM (Rs)

/-- Five cells, stored. -/
def put5 (w : World) (b : Nat) (y : O) : World := ((((w.setCell ⟨b, 0, none⟩ (.int .i64 y.c)).setCell ⟨b, 1, none⟩ (.int .i64 y.a)).setCell ⟨b, 2, none⟩ (.int .i64 y.v.k)).setCell ⟨b, 3, none⟩ (.int .i64 y.v.n)).setCell ⟨b, 4, none⟩ (.string y.v.s)

theorem bxO_put {w : World} {b : Nat} {x : O} (h : BxO w b x) (y : O) : BxO (put5 w b y) b y :=
  RG.BxN.set (RG.BxN.set (RG.BxN.set (RG.BxN.set (RG.BxN.set h 0 (show 0 < 5 from by decide) (.int .i64 y.c)) 1 (show 1 < 5 from by decide) (.int .i64 y.a)) 2 (show 2 < 5 from by decide) (.int .i64 y.v.k)) 3 (show 3 < 5 from by decide) (.int .i64 y.v.n)) 4 (show 4 < 5 from by decide) (.string y.v.s)

theorem put5_grown {w W : World} {r : Option Nat} {k : Nat} (h : w.grownBy W r) (hk : w.heap.size ≤ k) (y : O) : w.grownBy (put5 W k y) r := grownF (grownF (grownF (grownF (grownF h hk _ _) hk _ _) hk _ _) hk _ _) hk _ _

theorem put5_off {w : World} {b k : Nat} {v0 v1 : Value} (h : Bx2 w b v0 v1) (hk : k ≠ b) (y : O) : Bx2 (put5 w k y) b v0 v1 :=
  ((((h.off (p := ⟨k, 0, none⟩) hk _).off (p := ⟨k, 1, none⟩) hk _).off (p := ⟨k, 2, none⟩) hk _).off (p := ⟨k, 3, none⟩) hk _).off (p := ⟨k, 4, none⟩) hk _

theorem rPart_push {r : Rs} (h : (rOne r).1 = 0) : rPart r = (⟨0, 0, (rVal (rOne r).2).1⟩, (rVal (rOne r).2).2) := by rw [rPart, if_pos h]
theorem rPart_load {r : Rs} (h : (rOne r).1 = 1) : rPart r = (⟨1, (rOne (rOne r).2).1, v0⟩, (rOne (rOne r).2).2) := by rw [rPart, if_neg (by omega), if_pos h]
theorem rPart_else {r : Rs} (h0 : (rOne r).1 ≠ 0) (h1 : (rOne r).1 ≠ 1) : rPart r = (⟨(rOne r).1, 0, v0⟩, (rOne r).2) := by rw [rPart, if_neg h0, if_neg h1]

set_option maxRecDepth 100000 in
set_option maxHeartbeats 4000000 in
theorem part_own (b : Nat) (A : Option Addr) (xs : List Int) (c : Nat) (sh : Bool) (w : World) (hB : Bx2 w b (.slice A xs.length c) (.bool sh)) (hx : ∀ W, w.grownBy W (some b) → SlB W A xs c) :
    Calls Try.prog 45 #[.pointer (some ⟨b, 0, none⟩)] w fun e w' => e = .returned (agO (rPart (xs, sh)).1) ∧ Rdd b A c xs w (rPart (xs, sh)).2 w' := by
  have hblt := hB.lt
  have hpu := @rPart_push (xs, sh)
  have hlo := @rPart_load (xs, sh)
  have hel := @rPart_else (xs, sh)
  have ha0 := (Below.refl w.heap.size w).alloc (Nat.le_refl _) (.cells #[.int .i64 0, .int .i64 0, .int .i64 0, .int .i64 0, .string ⟨#[]⟩] 52)
  have HG0 := Lib.hid (grownB (r := some b) ha0)
  have hR0 := bxO_new w ⟨0, 0, v0⟩
  have hB0 := hB.kept ha0
  obtain ⟨w0, hw0⟩ : ∃ w0, w0 = w.alloc (.cells #[.int .i64 0, .int .i64 0, .int .i64 0, .int .i64 0, .string ⟨#[]⟩] 52) := ⟨_, rfl⟩
  have hR0' : BxO w0 w.heap.size ⟨0, 0, v0⟩ := by rw [hw0]; exact hR0
  rw [← hw0] at HG0 hB0
  have hone := one_own b A xs c sh w0 hB0 (hx w0 HG0.out)
  have HR0 := Lib.hid hR0'
  have HX := Lib.hid hx
  obtain ⟨⟨cd, ys, s1⟩, hr⟩ : ∃ r, r = rOne (xs, sh) := ⟨_, rfl⟩
  rw [← hr] at hone hpu hlo hel
  simp only at hone hpu hlo hel
  obtain ⟨R, hRp⟩ : ∃ R, R = rPart (xs, sh) := ⟨_, rfl⟩
  rw [← hRp] at hpu hlo hel ⊢
  have HOne := Lib.hid hone
  have HPu := Lib.hid hpu
  have HLo := Lib.hid hlo
  have HEl := Lib.hid hel
  have HW0 := Lib.hid hw0
  clear hB hx ha0 hR0 hR0' hB0 hone hr hRp hpu hlo hel hw0
  go_enter Try.func45, Try.ntmps45
  go_wp2_with fail
  rw [← HW0.out]
  refine HOne.out.mono ?_
  rintro e w1 ⟨rfl, hg1, A1, c1, hb1, hs1⟩
  have hG1 := grown_trans HG0.out hg1
  have hR1 := RG.BxN.grown HR0.out hg1 (fun e => by injection e with e; omega)
  have ha2 := (Below.refl w1.heap.size w1).alloc (Nat.le_refl _) (.cells #[.int .i64 cd, .int .i64 0, .int .i64 0, .int .i64 0, .string ⟨#[]⟩] 52)
  have HG2 := Lib.hid (grown_trans hG1 (grownB (r := some b) ha2))
  have HR2 := Lib.hid (show BxO _ w.heap.size ⟨0, 0, v0⟩ from RG.BxN.kept hR1 ha2)
  have HO2 := Lib.hid (bxO_new w1 ⟨cd, 0, v0⟩)
  have HB2 := Lib.hid (hb1.kept ha2)
  have HS1 := Lib.hid hs1
  have hlt1 : w.heap.size < w1.heap.size := RG.BxN.lt hR1 (by decide : 0 < 5)
  obtain ⟨o, ho⟩ : ∃ o, o = w1.heap.size := ⟨_, rfl⟩
  obtain ⟨w2, hw2⟩ : ∃ w2, w2 = w1.alloc (.cells #[.int .i64 cd, .int .i64 0, .int .i64 0, .int .i64 0, .string ⟨#[]⟩] 52) := ⟨_, rfl⟩
  have HO2' := Lib.hid (show BxO w2 o ⟨cd, 0, v0⟩ from by rw [hw2, ho]; exact HO2.out)
  rw [← hw2] at HG2 HR2 HB2
  rw [← ho] at hlt1
  have HW2 := Lib.hid hw2
  have HOe := Lib.hid ho
  obtain ⟨x0, x1, x2, x3, x4⟩ := HO2.out.cells
  simp only [v0] at x0 x1 x2 x3 x4
  have hne1 : o ≠ b := by omega
  have hne2 : w.heap.size ≠ b := by omega
  have hne3 : ¬ o = w.heap.size := by omega
  have hne4 : ¬ w.heap.size = o := by omega
  clear hg1 hb1 hs1 hG1 hR1 ha2 HO2 ho hw2 HOne HG0 HR0 HW0
  by_cases h0 : cd = 0
  · subst h0
    have hR := HPu.out rfl
    have hval := value_own b A1 ys c1 s1 w2 HB2.out (fun W hg => HS1.out W (HX.out W (grown_trans HG2.out hg)))
    obtain ⟨⟨⟨vk, vn, vs⟩, zs, s2⟩, hr⟩ : ∃ r, r = rVal (ys, s1) := ⟨_, rfl⟩
    rw [← hr] at hval hR
    simp only at hval hR
    have HVal := Lib.hid hval
    have HRe := Lib.hid hR
    clear hval hR hr HPu HLo HEl
    obtain ⟨y0, y1, y2, y3, y4⟩ := HO2'.out.cells
    simp only [v0] at y0 y1 y2 y3 y4
    go_wp2_with fail
    rw [← HW2.out, ← HOe.out]
    refine HVal.out.mono ?_
    rintro e w3 ⟨rfl, hg3, A3, c3, hb3, hs3⟩
    have hO3 : BxO w3 o ⟨0, 0, v0⟩ := RG.BxN.grown HO2'.out hg3 (fun e => by injection e with e; omega)
    have hR3 : BxO w3 w.heap.size ⟨0, 0, v0⟩ := RG.BxN.grown HR2.out hg3 (fun e => by injection e with e; omega)
    have hG3 := grown_trans HG2.out hg3
    obtain ⟨w4, hw4⟩ : ∃ w4, w4 = ((w3.setCell ⟨o, 2, none⟩ (.int .i64 vk)).setCell ⟨o, 3, none⟩ (.int .i64 vn)).setCell ⟨o, 4, none⟩ (.string vs) := ⟨_, rfl⟩
    have hO4 : BxO w4 o ⟨0, 0, ⟨vk, vn, vs⟩⟩ := by rw [hw4]; exact RG.BxN.set (RG.BxN.set (RG.BxN.set hO3 2 (show 2 < 5 from by decide) (.int .i64 vk)) 3 (show 3 < 5 from by decide) (.int .i64 vn)) 4 (show 4 < 5 from by decide) (.string vs)
    have hR4 : BxO w4 w.heap.size ⟨0, 0, v0⟩ := by rw [hw4]; exact ((RG.BxN.off hR3 (p := ⟨o, 2, none⟩) hne3 _).off (p := ⟨o, 3, none⟩) hne3 _).off (p := ⟨o, 4, none⟩) hne3 _
    have hG4 : w.grownBy w4 (some b) := by rw [hw4]; exact grownF (grownF (grownF hG3 (by omega) _ _) (by omega) _ _) (by omega) _ _
    have hB4 : Bx2 w4 b (.slice A3 zs.length c3) (.bool s2) := by rw [hw4]; exact ((hb3.off (p := ⟨o, 2, none⟩) hne1 _).off (p := ⟨o, 3, none⟩) hne1 _).off (p := ⟨o, 4, none⟩) hne1 _
    have HF := Lib.hid (bxO_put hR4 ⟨0, 0, ⟨vk, vn, vs⟩⟩)
    have HRd := Lib.hid (show Rdd b A c xs w (zs, s2) (put5 w4 w.heap.size ⟨0, 0, ⟨vk, vn, vs⟩⟩) from ⟨put5_grown hG4 (Nat.le_refl _) _, A3, c3, put5_off hB4 hne2 _, fun W h => hs3 W (HS1.out W h)⟩)
    have HW4 := Lib.hid hw4
    obtain ⟨z0, z0'⟩ := hO3 0 _ rfl
    obtain ⟨z1, z1'⟩ := hO3 1 _ rfl
    obtain ⟨z2, z2'⟩ := hO3 2 _ rfl
    obtain ⟨z3, z3'⟩ := hO3 3 _ rfl
    obtain ⟨z4, z4'⟩ := hO3 4 _ rfl
    obtain ⟨u0, u0'⟩ := hR3 0 _ rfl
    obtain ⟨u1, u1'⟩ := hR3 1 _ rfl
    obtain ⟨u2, u2'⟩ := hR3 2 _ rfl
    obtain ⟨u3, u3'⟩ := hR3 3 _ rfl
    obtain ⟨u4, u4'⟩ := hR3 4 _ rfl
    simp only [v0] at z0 z1 z2 z3 z4 u0 u1 u2 u3 u4
    clear hg3 hb3 hs3 hO3 hR3 hG3 hO4 hR4 hG4 hB4 hw4 HVal HX HG2 HR2 HB2 HS1 HO2' HW2 x0 x1 x2 x3 x4 y0 y1 y2 y3 y4
    go_wp2_with fail
    change bodyPost _ _ _ _ _ (put5 (((w3.setCell ⟨o, 2, none⟩ (.int .i64 vk)).setCell ⟨o, 3, none⟩ (.int .i64 vn)).setCell ⟨o, 4, none⟩ (.string vs)) w.heap.size ⟨0, 0, ⟨vk, vn, vs⟩⟩)
    rw [← HW4.out]
    obtain ⟨W2, hW2⟩ : ∃ W2, W2 = put5 w4 w.heap.size ⟨0, 0, ⟨vk, vn, vs⟩⟩ := ⟨_, rfl⟩
    rw [← hW2] at HF HRd ⊢
    obtain ⟨g0, g1, g2, g3, g4⟩ := HF.out.cells
    simp only at g0 g1 g2 g3 g4
    clear hW2 z0 z1 z2 z3 z4 u0 u1 u2 u3 u4 z0' z1' z2' z3' z4' u0' u1' u2' u3' u4'
    exact bodyPost_ret (v := .agg #[.int .i64 0, .int .i64 0, .int .i64 vk, .int .i64 vn, .string vs]) (by simp [results, Try.results45, go_sem, g0, g1, g2, g3, g4]) rfl ⟨ret_v (by rw [HRe.out]; rfl), by rw [HRe.out]; exact HRd.out⟩
  · have g0' : (cd == 0) = false := by simpa using h0
    by_cases h1 : cd = 1
    · subst h1
      have hR := HLo.out rfl
      have hval := one_own b A1 ys c1 s1 w2 HB2.out (HS1.out w2 (HX.out w2 HG2.out))
      obtain ⟨⟨a, zs, s2⟩, hr⟩ : ∃ r, r = rOne (ys, s1) := ⟨_, rfl⟩
      rw [← hr] at hval hR
      simp only at hval hR
      have HVal := Lib.hid hval
      have HRe := Lib.hid hR
      clear hval hR hr HPu HLo HEl
      obtain ⟨y0, y1, y2, y3, y4⟩ := HO2'.out.cells
      simp only [v0] at y0 y1 y2 y3 y4
      go_wp2_with fail
      rw [← HW2.out, ← HOe.out]
      refine HVal.out.mono ?_
      rintro e w3 ⟨rfl, hg3, A3, c3, hb3, hs3⟩
      have hO3 : BxO w3 o ⟨1, 0, v0⟩ := RG.BxN.grown HO2'.out hg3 (fun e => by injection e with e; omega)
      have hR3 : BxO w3 w.heap.size ⟨0, 0, v0⟩ := RG.BxN.grown HR2.out hg3 (fun e => by injection e with e; omega)
      have hG3 := grown_trans HG2.out hg3
      obtain ⟨w4, hw4⟩ : ∃ w4, w4 = w3.setCell ⟨o, 1, none⟩ (.int .i64 a) := ⟨_, rfl⟩
      have hR4 : BxO w4 w.heap.size ⟨0, 0, v0⟩ := by rw [hw4]; exact RG.BxN.off hR3 (p := ⟨o, 1, none⟩) hne3 _
      have hG4 : w.grownBy w4 (some b) := by rw [hw4]; exact grownF hG3 (by omega) _ _
      have hB4 : Bx2 w4 b (.slice A3 zs.length c3) (.bool s2) := by rw [hw4]; exact hb3.off (p := ⟨o, 1, none⟩) hne1 _
      have HF := Lib.hid (bxO_put hR4 ⟨1, a, v0⟩)
      have HRd := Lib.hid (show Rdd b A c xs w (zs, s2) (put5 w4 w.heap.size ⟨1, a, v0⟩) from ⟨put5_grown hG4 (Nat.le_refl _) _, A3, c3, put5_off hB4 hne2 _, fun W h => hs3 W (HS1.out W h)⟩)
      have HW4 := Lib.hid hw4
      obtain ⟨z0, z0'⟩ := hO3 0 _ rfl
      obtain ⟨z1, z1'⟩ := hO3 1 _ rfl
      obtain ⟨z2, z2'⟩ := hO3 2 _ rfl
      obtain ⟨z3, z3'⟩ := hO3 3 _ rfl
      obtain ⟨z4, z4'⟩ := hO3 4 _ rfl
      obtain ⟨u0, u0'⟩ := hR3 0 _ rfl
      obtain ⟨u1, u1'⟩ := hR3 1 _ rfl
      obtain ⟨u2, u2'⟩ := hR3 2 _ rfl
      obtain ⟨u3, u3'⟩ := hR3 3 _ rfl
      obtain ⟨u4, u4'⟩ := hR3 4 _ rfl
      simp only [v0] at z0 z1 z2 z3 z4 u0 u1 u2 u3 u4
      clear hg3 hb3 hs3 hO3 hR3 hG3 hR4 hG4 hB4 hw4 HVal HX HG2 HR2 HB2 HS1 HO2' HW2 x0 x1 x2 x3 x4 y0 y1 y2 y3 y4
      go_wp2_with fail
      change bodyPost _ _ _ _ _ (put5 (w3.setCell ⟨o, 1, none⟩ (.int .i64 a)) w.heap.size ⟨1, a, v0⟩)
      rw [← HW4.out]
      obtain ⟨W2, hW2⟩ : ∃ W2, W2 = put5 w4 w.heap.size ⟨1, a, v0⟩ := ⟨_, rfl⟩
      rw [← hW2] at HF HRd ⊢
      obtain ⟨g0, g1, g2, g3, g4⟩ := HF.out.cells
      simp only [v0] at g0 g1 g2 g3 g4
      clear hW2 z0 z1 z2 z3 z4 u0 u1 u2 u3 u4 z0' z1' z2' z3' z4' u0' u1' u2' u3' u4'
      exact bodyPost_ret (v := .agg #[.int .i64 1, .int .i64 a, .int .i64 0, .int .i64 0, .string e0]) (by simp [results, Try.results45, go_sem, g0, g1, g2, g3, g4]) rfl ⟨ret_v (by rw [HRe.out]; rfl), by rw [HRe.out]; exact HRd.out⟩
    · have g1' : (cd == 1) = false := by simpa using h1
      have hR := HEl.out h0 h1
      have HRe := Lib.hid hR
      have hRs := HR2.out
      have HF := Lib.hid (bxO_put HR2.out ⟨cd, 0, v0⟩)
      have HRd := Lib.hid (show Rdd b A c xs w (ys, s1) (put5 w2 w.heap.size ⟨cd, 0, v0⟩) from ⟨put5_grown HG2.out (Nat.le_refl _) _, A1, c1, put5_off HB2.out hne2 _, HS1.out⟩)
      rw [HW2.out] at hRs
      obtain ⟨u0, u0'⟩ := hRs 0 _ rfl
      obtain ⟨u1, u1'⟩ := hRs 1 _ rfl
      obtain ⟨u2, u2'⟩ := hRs 2 _ rfl
      obtain ⟨u3, u3'⟩ := hRs 3 _ rfl
      obtain ⟨u4, u4'⟩ := hRs 4 _ rfl
      simp only [v0] at u0 u1 u2 u3 u4
      clear hR hRs HPu HLo HEl h0 h1 HX HG2 HR2 HB2 HS1 HO2'
      go_wp2_with fail
      change bodyPost _ _ _ _ _ (put5 (w1.alloc (.cells #[.int .i64 cd, .int .i64 0, .int .i64 0, .int .i64 0, .string ⟨#[]⟩] 52)) w.heap.size ⟨cd, 0, v0⟩)
      rw [← HW2.out]
      obtain ⟨W2, hW2⟩ : ∃ W2, W2 = put5 w2 w.heap.size ⟨cd, 0, v0⟩ := ⟨_, rfl⟩
      rw [← hW2] at HF HRd ⊢
      obtain ⟨g0, g1, g2, g3, g4⟩ := HF.out.cells
      simp only [v0] at g0 g1 g2 g3 g4
      clear hW2 x0 x1 x2 x3 x4 u0 u1 u2 u3 u4 u0' u1' u2' u3' u4'
      exact bodyPost_ret (v := .agg #[.int .i64 cd, .int .i64 0, .int .i64 0, .int .i64 0, .string e0]) (by simp [results, Try.results45, go_sem, g0, g1, g2, g3, g4]) rfl ⟨ret_v (by rw [HRe.out]; rfl), by rw [HRe.out]; exact HRd.out⟩
end Go.Proofs.Ytbjgflinggelpaa.Ex

namespace Go.Proofs.Ytbjgflinggelpaa.Ex
open Go.RowKit Go.Proofs.Ytbjgflinggelpaa.BM Go.Proofs.Ytbjgflinggelpaa.LM Go.Proofs.Ytbjgflinggelpaa.LeM Go.Proofs.Ytbjgflinggelpaa.EvM Go.Proofs.Ytbjgflinggelpaa.ExM
open Go.Proofs.Ytbjgflinggelpaa.VaM (V Rng e0)
open Go.Proofs.Ytbjgflinggelpaa.Va (Bx Bx2 bx2_new ret_v)
open Go.Proofs.Ytbjgflinggelpaa.Sc (Rdd grown_set grown_trans)
open Go.Proofs.Ytbjgflinggelpaa.ScM (Rs rNum rNum_le rNum_left)

set_option maxRecDepth 100000 in
set_option maxHeartbeats 8000000 in
theorem Get_any (A : Option Addr) (xs : List Int) (c : Nat) (w : World) (h : SlB w A xs c) :
    Calls Try.prog 21 #[.slice A xs.length c] w (Gots xs w) := by
  have hrd := gL_read h.1.1
  have hsm := h.2.1
  have hmx := h.2.2.2
  unfold maxLen at hmx
  have HX := Lib.hid (fun W (g : Below w.heap.size w W) => h.kept g)
  have ha0 := (Below.refl w.heap.size w).alloc (Nat.le_refl _) (.cells #[.slice A xs.length c, .bool false] 79)
  have HB1 := Lib.hid ha0
  have hr1 := bx2_new w 79 (.slice A xs.length c) (.bool false)
  obtain ⟨w1, hw1⟩ : ∃ w1, w1 = w.alloc (.cells #[.slice A xs.length c, .bool false] 79) := ⟨_, rfl⟩
  have hs1 : w1.heap.size = w.heap.size + 1 := by rw [hw1]; simp
  rw [← hw1] at HB1 hr1
  have hnum := number_own w.heap.size A xs c false 12 w1 hr1 (HX.out w1 HB1.out) (by omega)
  have hxe : rExpr xs = rParts (rNum 12 (xs, false)).1 (rNum 12 (xs, false)).2 := rfl
  have hnle := rNum_le 12 (xs, false)
  have hyx := rNum_left 12 (xs, false)
  have hyb : ∀ x ∈ (rNum 12 (xs, false)).2.1, (0 : Int) ≤ x ∧ x < 256 := rNum_bytes h.1.1
  obtain ⟨⟨n, ys, s1⟩, hr⟩ : ∃ r, r = rNum 12 (xs, false) := ⟨_, rfl⟩
  rw [← hr] at hnum hxe hnle hyb hyx
  simp only at hnum hxe hnle hyb hyx
  obtain ⟨R, hR⟩ : ∃ R : Nat → List O × Rs, R = fun j => rParts j (ys, s1) := ⟨_, rfl⟩
  have hR0 : R 0 = ([], (ys, s1)) := by rw [hR]; rfl
  have hRs : ∀ j, R (j + 1) = ((R j).1 ++ [(rPart (R j).2).1], (rPart (R j).2).2) := fun j => by rw [hR]; rfl
  have hRg : ∀ j, (R j).1.length = j ∧ (∀ x ∈ (R j).1, Fin x) ∧ (∀ x ∈ (R j).2.1, (0 : Int) ≤ x ∧ x < 256) ∧ (R j).2.1.length ≤ ys.length := fun j => by rw [hR]; exact rParts_good j hyb
  have hRe : rExpr xs = R n := by rw [hxe, hR]
  rw [hRe] at hrd
  have HNum := Lib.hid hnum
  have HRd := Lib.hid hrd
  have HR0 := Lib.hid hR0
  have HRs := Lib.hid hRs
  have HRg := Lib.hid hRg
  have HW1 := Lib.hid hw1
  have HS1 := Lib.hid hs1
  obtain ⟨xn, hxn⟩ : ∃ n, n = xs.length := ⟨_, rfl⟩
  unfold Gots
  obtain ⟨G, hG⟩ : ∃ G, G = gotL (gL xs) := ⟨_, rfl⟩
  rw [← hG] at HRd ⊢
  rw [← hxn] at HRd HW1 hsm hyx ⊢
  have HXn := Lib.hid hxn
  clear h hrd ha0 hr1 hw1 hs1 hnum hxe hr hR hR0 hRs hRg hRe hyb hG hxn
  go_enter Try.func21, Try.ntmps21
  go_wp2_with fail
  rw [← HW1.out]
  refine HNum.out.mono ?_
  rintro e w2 ⟨rfl, hg2, A2, c2, hb2, hs2⟩
  have HB2 := Lib.hid (HB1.out.grown hg2 HB1.out.size (fun k e => by injection e with e; omega))
  have HSl2 := Lib.hid hs2
  have HBx2 := Lib.hid hb2
  have HZ2 := Lib.hid (show w.heap.size + 1 ≤ w2.heap.size from by have := hg2.size; have := HS1.out; omega)
  clear hg2 hb2 hs2 HNum HW1
  go_wp2_with fail
  go_loopw [6, 10] (fun u i wr => ∃ (j : Nat) (A' : Option Addr) (c' : Nat), i = .int .i64 j ∧ j ≤ n ∧ Bx2 wr w.heap.size (.slice A' (R j).2.1.length c') (.bool (R j).2.2) ∧ (∀ W, SlB W A xs c → SlB W A' (R j).2.1 c') ∧ wr.ownsRow (w.heap.size + 1) 52 5 u j ((R j).1.flatMap encO) ∧ Below w.heap.size w wr ∧ w.heap.size + 1 ≤ wr.heap.size) (fun _ i _ => n - (intOf i).toNat)
  case atStart =>
    refine ⟨0, A2, c2, rfl, Nat.zero_le _, ?_, ?_, ?_, HB2.out, HZ2.out⟩
    · rw [HR0.out]
      exact HBx2.out
    · rw [HR0.out]
      exact HSl2.out
    · rw [HR0.out]
      exact World.ownsRow_nil _ _ _ _
  case round =>
    obtain ⟨j, A', c', rfl, hj, hbx, hsl, hown, hbel, hsz⟩ := hrel
    have HSl := Lib.hid hsl
    have HBl := Lib.hid hbel
    have HO := Lib.hid hown
    have HBx := Lib.hid hbx
    have hfn := (HRg.out j).2.2.1
    have hln := (HRg.out j).2.2.2
    clear hsl hbel hown hbx HBx2 HSl2 HB2 HZ2
    by_cases hjn : j < n
    · have hRj := HRs.out j
      have hgd := rPart_good (r := (R j).2) hfn
      have hpart := part_own w.heap.size A' (R j).2.1 c' (R j).2.2 wr HBx.out (fun W hg => HSl.out W (HX.out W (HBl.out.grown hg HBl.out.size (fun k e => by injection e with e; omega))))
      obtain ⟨⟨l, qs, sq⟩, hRd⟩ : ∃ r, r = R j := ⟨_, rfl⟩
      rw [← hRd] at hRj hpart HO hgd HSl
      simp only at hRj hpart HO hgd HSl
      obtain ⟨⟨o, q2, t2⟩, hr1⟩ : ∃ r, r = rPart (qs, sq) := ⟨_, rfl⟩
      rw [← hr1] at hpart hRj hgd
      simp only at hpart hRj hgd
      have hfo := hgd.1
      have HRj := Lib.hid hRj
      have HPt := Lib.hid hpart
      unfold agO at HPt
      clear hRj hpart hRd hr1 HBx hfn hgd hln
      go_wp2_with fail
      refine HPt.out.mono ?_
      rintro e w3 ⟨rfl, hg3, A3, c3, hb3, hs3⟩
      have hb3' : Below w.heap.size w w3 := HBl.out.grown hg3 HBl.out.size (fun k e => by injection e with e; omega)
      have ha4 := (Below.refl w3.heap.size w3).alloc (Nat.le_refl _) (.cells #[.int .i64 o.c, .int .i64 o.a, .int .i64 o.v.k, .int .i64 o.v.n, .string o.v.s] 52)
      have HN4 := Lib.hid (slO_1 w3 o hfo)
      have HO4 := Lib.hid (RegA.own_below (HO.out.kept hg3 (Or.inr (fun e => by have := (HO.out.lt _ e).1; omega))) ha4)
      have HB4 := Lib.hid (bt hb3' ha4)
      have HBx4 := Lib.hid (hb3.kept ha4)
      have HS4 := Lib.hid (fun W (h : SlB W A xs c) => hs3 W (HSl.out W h))
      have hsz4 : w.heap.size + 1 ≤ (w3.alloc (.cells #[.int .i64 o.c, .int .i64 o.a, .int .i64 o.v.k, .int .i64 o.v.n, .string o.v.s] 52)).heap.size := Nat.le_trans hsz (Nat.le_trans hg3.size ha4.size)
      have HSz := Lib.hid hsz4
      obtain ⟨oc, oa, ⟨ok, on, os⟩⟩ := o
      simp only at HN4 HO4 HB4 HBx4 HSz
      clear hg3 hb3 hs3 hb3' ha4 hfo HPt HO HSl hsz4
      go_wp2_with (at_builtin; refine wp_append_o rfl (.tmp 12) (.tmp 14) rfl (w.heap.size + 1) _ j l rfl HO4.out (some ⟨w3.heap.size, 0, none⟩) 1 1 [⟨oc, oa, ⟨ok, on, os⟩⟩] rfl rfl HN4.out (by omega) HSz.out ?_; intro u5 w5 hown5 hgrow5; refine pause ?_)
      have HBx5 := Lib.hid (HBx4.out.grown hgrow5 (fun e => by have := (HO4.out.lt _ e.symm).1; omega))
      have HB5 := Lib.hid (HB4.out.grown hgrow5 HB4.out.size (fun k hk => by have := (HO4.out.lt k hk).1; omega))
      have HO5 := Lib.hid hown5
      have HSz5 := Lib.hid (Nat.le_trans HSz.out hgrow5.size)
      clear hown5 hgrow5
      unfold Pause
      go_wp2_with fail
      go_roundw
      case rel =>
        refine ⟨j + 1, A3, c3, by go_num, by omega, ?_, ?_, ?_, HB5.out, HSz5.out⟩
        · rw [HRj.out]
          exact HBx5.out
        · rw [HRj.out]
          exact HS4.out
        · rw [HRj.out]
          exact HO5.out
      case measure => simp [intOf]; omega
    · obtain rfl : j = n := by omega
      obtain ⟨hl1, hl2, _, _⟩ := HRg.out j
      obtain ⟨⟨l, qs, sq⟩, hRd⟩ : ∃ r, r = R j := ⟨_, rfl⟩
      rw [← hRd] at HBx HO hl1 hl2 HRd hln
      simp only at HBx HO hl1 hl2 HRd hln
      obtain ⟨Al, cl, rfl, hjl, hsl, hfar⟩ := own_slO HO.out hl2
      clear hjl hfar
      have HSo := Lib.hid hsl
      have HMy := Lib.hid (may_own l Al cl wr hsl)
      rw [hl1] at HMy
      obtain ⟨m, hm⟩ : ∃ m, m = qs.length := ⟨_, rfl⟩
      rw [← hm] at HBx HRd hln
      have HL1 := Lib.hid hl1
      obtain ⟨⟨p0, p1⟩, _⟩ := HBx.out
      rw [hl1]
      clear hRd hsl hl1 hl2 hm HO HSl hfn
      cases sq
      · go_wp2_with fail
        refine HMy.out.mono ?_
        rintro e w3 ⟨rfl, hb3⟩
        have HB3 := Lib.hid (bt HBl.out hb3)
        have HBx3 := Lib.hid (HBx.out.kept hb3)
        have HSo3 := Lib.hid (HSo.out.kept hb3)
        obtain ⟨⟨p0', p1'⟩, _⟩ := HBx3.out
        clear hb3 p0 p1 HMy
        by_cases hmy : May l
        · rw [decide_eq_true hmy]
          have HGe := Lib.hid (show G = (l, xn - m, true) from by rw [HRd.out, if_pos ⟨trivial, hmy⟩])
          clear hmy HRd
          go_wp2_with fail
          go_quiet (fail)
          go_wp2_with fail
          go_ret3
          have hd := below_drewN (Below.refl w3.heap.size w3) nq
          exact ⟨Al, cl, ret_v (x := .tuple #[.slice Al j cl, .int .i64 ((xn : Int) - m), .bool true]) (by rw [HGe.out]; simp only [HL1.out]; rw [show ((xn - m : Nat) : Int) = (xn : Int) - m from by omega]), by rw [HGe.out]; exact HSo3.out.kept hd, bt HB3.out hd⟩
        · rw [decide_eq_false hmy]
          have HGe := Lib.hid (show G = ([], 0, false) from by rw [HRd.out, if_neg (fun h => hmy h.2)])
          clear hmy HRd
          go_wp2_with fail
          go_ret3
          exact ⟨none, 0, ret_v (x := .tuple #[.slice none 0 0, .int .i64 0, .bool false]) (by rw [HGe.out]; rfl), by rw [HGe.out]; exact slO_none _, HB3.out⟩
      · have HGe := Lib.hid (show G = ([], 0, false) from by rw [HRd.out, if_neg (fun h => by cases h.1)])
        go_wp2_with fail
        go_ret3
        exact ⟨none, 0, ret_v (x := .tuple #[.slice none 0 0, .int .i64 0, .bool false]) (by rw [HGe.out]; rfl), by rw [HGe.out]; exact slO_none _, HBl.out⟩
end Go.Proofs.Ytbjgflinggelpaa.Ex

namespace Go.Proofs.Ytbjgflinggelpaa.Ex
open Go.RowKit Go.Proofs.Ytbjgflinggelpaa.BM Go.Proofs.Ytbjgflinggelpaa.VaM Go.Proofs.Ytbjgflinggelpaa.Va Go.Proofs.Ytbjgflinggelpaa.ExM

theorem ops_iff {l m : List O} (h : l.length = m.length) : l = m ↔ ∀ j, j < l.length → l.getD j o0 = m.getD j o0 := by
  constructor
  · rintro rfl j _
    rfl
  · intro hh
    apply List.ext_getElem h
    intro i h1 h2
    have h3 := hh i h1
    rw [List.getD_eq_getElem?_getD, List.getD_eq_getElem?_getD, List.getElem?_eq_getElem h1, List.getElem?_eq_getElem h2] at h3
    exact h3

set_option maxRecDepth 100000 in
set_option maxHeartbeats 2000000 in
theorem equalO_any (A : Option Addr) (l : List O) (c : Nat) (B : Option Addr) (m : List O) (d : Nat) (w : World) (h : SlO w A l c) (k : SlO w B m d) :
    Calls Try.prog 49 #[.slice A l.length c, .slice B m.length d] w fun e w' => e = .returned (.bool (decide (l = m))) ∧ Below w.heap.size w w' := by
  have hl := slO_len h
  have hm := slO_len k
  have hbi := fun hh => ops_iff (l := l) (m := m) hh
  have hno : l.length ≠ m.length → ¬ l = m := fun h1 h2 => h1 (by rw [h2])
  obtain ⟨n, hn⟩ : ∃ n, n = l.length := ⟨_, rfl⟩
  obtain ⟨r, hr⟩ : ∃ r, r = m.length := ⟨_, rfl⟩
  rw [← hn, ← hr] at hbi hno ⊢
  rw [← hn] at hl
  rw [← hr] at hm
  have HN := Lib.hid hn
  have HR := Lib.hid hr
  have HS := Lib.hid h
  have HT := Lib.hid k
  have HBi := Lib.hid hbi
  have HNo := Lib.hid hno
  clear hbi hno hn hr h k
  by_cases hlt : n = r
  · subst hlt
    have HB := Lib.hid (HBi.out rfl)
    clear HBi HNo
    go_enter Try.func49, Try.ntmps49
    go_wp2_with fail
    go_loopw [13] (fun i wr => ∃ j : Nat, i = .int .i64 j ∧ j ≤ n ∧ (∀ x, x < j → l.getD x o0 = m.getD x o0) ∧ Below w.heap.size w wr) (fun i _ => n - (intOf i).toNat)
    case atStart => exact ⟨0, rfl, Nat.zero_le _, fun x hx => absurd hx (Nat.not_lt_zero x), Below.refl _ _⟩
    case round =>
      obtain ⟨j, rfl, hj, hsame, hbel⟩ := hrel
      have HSm := Lib.hid hsame
      have HBl := Lib.hid hbel
      clear hsame hbel
      by_cases hjr : j < n
      · obtain ⟨b1, q1, hix1, hc1, _⟩ := HS.out.at j (by rw [← HN.out]; omega)
        obtain ⟨b2, q2, hix2, hc2, _⟩ := HT.out.at j (by rw [← HR.out]; omega)
        obtain ⟨⟨oc1, oa1, ⟨k1, n1, s1⟩⟩, hf1⟩ : ∃ f, f = l.getD j o0 := ⟨_, rfl⟩
        obtain ⟨⟨oc2, oa2, ⟨k2, n2, s2⟩⟩, hf2⟩ : ∃ f, f = m.getD j o0 := ⟨_, rfl⟩
        rw [← hf1] at hc1
        rw [← hf2] at hc2
        obtain ⟨c0, c1, c2, c3, c4⟩ := hc2 wr HBl.out
        obtain ⟨e0, e1, e2, e3, e4⟩ := hc1 wr HBl.out
        simp only at c0 c1 c2 c3 c4 e0 e1 e2 e3 e4
        have hi1 := fun W => hix1 W n c (by omega)
        have hi2 := fun W => hix2 W n d hjr
        have hne := fun W => neq_o ⟨oc1, oa1, ⟨k1, n1, s1⟩⟩ ⟨oc2, oa2, ⟨k2, n2, s2⟩⟩ W
        unfold agO at hne
        have HF1 := Lib.hid hf1
        have HF2 := Lib.hid hf2
        clear hc1 hc2 hix1 hix2 hf1 hf2
        by_cases he : (⟨oc1, oa1, ⟨k1, n1, s1⟩⟩ : O) = ⟨oc2, oa2, ⟨k2, n2, s2⟩⟩
        · have hsucc : ∀ x, x < j + 1 → l.getD x o0 = m.getD x o0 := fun x hx => by
            by_cases e : x = j
            · rw [e, ← HF1.out, ← HF2.out, he]
            · exact HSm.out x (by omega)
          simp only [decide_eq_true he, Bool.not_true] at hne
          have HSu := Lib.hid hsucc
          clear he hsucc
          go_wp2_with fail
          go_quiet (fail)
          go_wp2_with fail
          go_roundw
          case rel => exact ⟨j + 1, by go_num, by omega, HSu.out, below_drewN HBl.out _⟩
          case measure => simp [intOf]; omega
        · simp only [decide_eq_false he, Bool.not_false] at hne
          have HNo := Lib.hid (show ¬ l = m from fun h => he (by rw [HF1.out, HF2.out]; exact HB.out.1 h j hjr))
          clear he
          go_wp2_with fail
          go_quiet (fail)
          go_wp2_with fail
          go_ret
          exact ⟨ret_v (x := .bool false) (by rw [decide_eq_false HNo.out]), below_drewN HBl.out _⟩
      · obtain rfl : j = n := by omega
        have HYes := Lib.hid (HB.out.2 HSm.out)
        go_wp2_with fail
        go_ret
        exact ⟨ret_v (x := .bool true) (by rw [decide_eq_true HYes.out]), HBl.out⟩
  · have HNo' := Lib.hid (HNo.out hlt)
    have hd1 : ((n : Int) == r) = false := by rw [beq_eq_false_iff_ne]; omega
    go_enter Try.func49, Try.ntmps49
    go_wp2_with fail
    go_ret
    exact ⟨ret_v (x := .bool false) (by rw [decide_eq_false HNo'.out]), Below.refl _ _⟩

set_option maxRecDepth 100000 in
theorem Same_any (a b : List O) (A : Option Addr) (c : Nat) (B : Option Addr) (d : Nat) (w : World) (h : SlO w A a c) (k : SlO w B b d) :
    Calls Try.prog 26 #[.slice A a.length c, .slice B b.length d] w fun e w' => e = .returned (.bool (decide (a = b))) ∧ Below w.heap.size w w' := by
  have HE := Lib.hid (equalO_any A a c B b d w h k)
  clear h k
  go_enter Try.func26, Try.ntmps26
  go_wp2_with fail
  refine HE.out.mono ?_
  rintro e w1 ⟨rfl, hb1⟩
  go_wp2_with fail
  go_ret
  exact ⟨rfl, hb1⟩
end Go.Proofs.Ytbjgflinggelpaa.Ex



namespace Go.Proofs.Ytbjgflinggelpaa.Ex
open Go.RowKit Go.Proofs.Ytbjgflinggelpaa.BM Go.Proofs.Ytbjgflinggelpaa.LM Go.Proofs.Ytbjgflinggelpaa.VaM Go.Proofs.Ytbjgflinggelpaa.Va Go.Proofs.Ytbjgflinggelpaa.ExM Go.Proofs.Ytbjgflinggelpaa.EvM
open Go.Proofs.Ytbjgflinggelpaa.Sc (SlF)

/-- The example's event, and schema. -/
def exE : Ev := ⟨⟨#[97]⟩, 0, [⟨0, 4, e0⟩]⟩
def exS : ScM.Sc := ⟨⟨#[97]⟩, 1, [⟨⟨#[120]⟩, 0⟩]⟩
theorem exE_fine : Ev.Fine exE := ⟨by unfold maxLen; decide, by decide, by decide⟩
theorem exS_fine : Sc.Fine exS := ⟨by unfold maxLen; decide, by decide, by decide⟩
theorem ex_may : ExM.May (belowL 5) := by decide
theorem ex_rngs : ExM.Rngs (belowL 5) := by
  intro x hx
  simp only [belowL, List.mem_cons, List.not_mem_nil, or_false] at hx
  rcases hx with rfl | rfl | rfl <;> exact ⟨by decide, by decide⟩
theorem ex_holds : holds exE (belowL 5) = true := by decide
theorem ex_not : holds exE (belowL 4) = false := by decide
theorem ex_kind : kind exS (belowL 5) = (1, 0) := by decide
theorem ex_got : gotL (gL (ExM.pv (belowL 5))) = (belowL 5, (ExM.pv (belowL 5)).length, true) := by
  have h : ExM.pv (belowL 5) = pL (belowL 5) := by rw [ExM.pv, if_pos ex_may]
  rw [h, gL_put (pL_bytes ex_may) ex_may ex_rngs (Nat.le_refl _) (by rw [List.take_length])]
  rfl

theorem slV_one (w : World) (x : V) (hx : x.s.size ≤ maxLen ∧ Rng x) : SlV (w.alloc (.cells #[.int .i64 x.k, .int .i64 x.n, .string x.s] 38)) (some ⟨w.heap.size, 0, none⟩) [x] 1 :=
  ⟨one_new w x, fun y hy => by rw [List.mem_singleton.1 hy]; exact hx⟩

theorem slF_one (w : World) (s : ByteArray) (k : Int) (hs : s.size ≤ maxLen) : SlF (w.alloc (.cells #[.string s, .int .i64 k] 63)) (some ⟨w.heap.size, 0, none⟩) [⟨s, k⟩] 1 := by
  obtain ⟨⟨y0, y1⟩, _⟩ := bx2_new w 63 (.string s) (.int .i64 k)
  refine ⟨fun _ => ⟨w.heap.size, 0, rfl, fun r hr => ?_⟩, Nat.le_refl _, (fun h => by cases h), by unfold maxLen; decide, fun f hf => by rw [List.mem_singleton.1 hf]; exact hs⟩
  obtain rfl : r = 0 := by simpa using hr
  exact ⟨y0, y1⟩

set_option maxRecDepth 100000 in
set_option maxHeartbeats 4000000 in
theorem awake_any (w : World) : Calls Try.prog 11 #[] w fun e w' => e = .returned (.bool true) ∧ Below w.heap.size w w' := by
  have hbl5 := fun W => Below_any 5 W (by decide) (by decide)
  have hbl4 := fun W => Below_any 4 W (by decide) (by decide)
  have hput := fun W A (h : SlO W A (belowL 5) 3) => Put_any (belowL 5) A 3 W h
  have hget := fun W A c (h : SlB W A (ExM.pv (belowL 5)) c) => Get_any A (ExM.pv (belowL 5)) c W h
  have hkind := fun W A c B (h : SlF W A exS.f c) (k : SlO W B (belowL 5) 3) => Kind_any exS (belowL 5) A c B 3 W h exS_fine k
  have hh5 := fun W A c B (h : SlV W A exE.v c) (k : SlO W B (belowL 5) 3) => Holds_any exE (belowL 5) A c B 3 W h exE_fine k
  have hh4 := fun W A c B (h : SlV W A exE.v c) (k : SlO W B (belowL 4) 3) => Holds_any exE (belowL 4) A c B 3 W h exE_fine k
  have hsame := fun W A c B (h : SlO W A (belowL 5) c) (k : SlO W B (belowL 5) 3) => Same_any (belowL 5) (belowL 5) A c B 3 W h k
  unfold Putted at hput
  unfold Gots at hget
  simp only [ex_got] at hget
  simp only [decide_eq_true ex_may] at hput
  simp only [ex_kind] at hkind
  simp only [ex_holds] at hh5
  simp only [ex_not] at hh4
  rw [decide_eq_true (rfl : belowL 5 = belowL 5)] at hsame
  have hl5 : (belowL 5).length = 3 := rfl
  have hl4 : (belowL 4).length = 3 := rfl
  have hle : exE.v.length = 1 := rfl
  have hls : exS.f.length = 1 := rfl
  simp only [hl5] at hput hget hkind hh5 hsame
  simp only [hl4] at hh4
  simp only [hle] at hh5 hh4
  simp only [hls] at hkind
  have e1 : exE.s = ⟨#[97]⟩ := rfl
  have e2 : exE.t = 0 := rfl
  have s1 : exS.s = ⟨#[97]⟩ := rfl
  have s2 : exS.v = 1 := rfl
  simp only [e1, e2] at hh5 hh4
  simp only [s1, s2] at hkind
  have hpl : (ExM.pv (belowL 5)).length ≤ 634 := ExM.pv_len ex_rngs
  obtain ⟨m, hm⟩ : ∃ m, m = (ExM.pv (belowL 5)).length := ⟨_, rfl⟩
  simp only [← hm] at hput hget
  rw [← hm] at hpl
  have HB5 := Lib.hid hbl5
  have HB4 := Lib.hid hbl4
  have HPu := Lib.hid hput
  have HGe := Lib.hid hget
  have HKi := Lib.hid hkind
  have HH5 := Lib.hid hh5
  have HH4 := Lib.hid hh4
  have HSa := Lib.hid hsame
  clear hbl5 hbl4 hput hget hkind hh5 hh4 hsame hl5 hl4 hle hls e1 e2 s1 s2 hm
  have HV1 := Lib.hid (slV_one w ⟨0, 4, e0⟩ ⟨Nat.zero_le _, ⟨by decide, by decide⟩⟩)
  have hb1 := (Below.refl w.heap.size w).alloc (Nat.le_refl _) (.cells #[.int .i64 0, .int .i64 4, .string ⟨#[]⟩] 38)
  obtain ⟨u1, hu1⟩ : ∃ u, u = w.alloc (.cells #[.int .i64 0, .int .i64 4, .string ⟨#[]⟩] 38) := ⟨_, rfl⟩
  have hs1 : u1.heap.size = w.heap.size + 1 := by rw [hu1]; simp
  have hv1 : SlV u1 (some ⟨w.heap.size, 0, none⟩) exE.v 1 := by rw [hu1]; exact HV1.out
  rw [← hu1] at hb1
  have hx2 := bx_new_t u1 27 (.string ⟨#[97]⟩) (.int .i64 0) (.slice (some ⟨w.heap.size, 0, none⟩) 1 1)
  have hb2 := (Below.refl u1.heap.size u1).alloc (Nat.le_refl _) (.cells #[.string ⟨#[97]⟩, .int .i64 0, .slice (some ⟨w.heap.size, 0, none⟩) 1 1] 27)
  have hv2 := hv1.kept hb2
  have hbb := bt hb1 hb2
  rw [hs1] at hx2
  rw [hu1] at hx2 hv2 hbb
  have HX2 := Lib.hid hx2
  have HV2 := Lib.hid hv2
  have HB2 := Lib.hid hbb
  clear HV1 hb1 hu1 hs1 hv1 hx2 hb2 hv2 hbb u1
  go_enter Try.func11, Try.ntmps11
  go_wp2_with fail
  obtain ⟨w2, hw2⟩ : ∃ w2, w2 = (w.alloc (.cells #[.int .i64 0, .int .i64 4, .string ⟨#[]⟩] 38)).alloc (.cells #[.string ⟨#[97]⟩, .int .i64 0, .slice (some ⟨w.heap.size, 0, none⟩) 1 1] 27) := ⟨_, rfl⟩
  obtain ⟨VA, hVA⟩ : ∃ a, a = (some ⟨w.heap.size, 0, none⟩ : Option Addr) := ⟨_, rfl⟩
  obtain ⟨g, hg⟩ : ∃ g, g = w.heap.size + 1 := ⟨_, rfl⟩
  rw [← hw2] at HX2 HV2 HB2 ⊢
  rw [← hVA] at HX2 HV2
  rw [← hg] at HX2 ⊢
  clear hw2 hg
  have HVg := Lib.hid hVA
  clear hVA
  rw [← HVg.out]
  refine (HB5.out w2).mono ?_
  rintro e w3 ⟨A3, rfl, hs3, hb3⟩
  have HB3' := Lib.hid (bt HB2.out hb3)
  have HX3 := Lib.hid (HX2.out.kept hb3)
  have HV3 := Lib.hid (HV2.out.kept hb3)
  have HS3 := Lib.hid hs3
  clear hb3 hs3 HB2 HX2 HV2
  go_wp2_with fail
  refine (HPu.out w3 A3 HS3.out).mono ?_
  rintro e w4 ⟨A4, c4, rfl, hs4, hb4⟩
  have HB4' := Lib.hid (bt HB3'.out hb4)
  have HX4 := Lib.hid (HX3.out.kept hb4)
  have HV4 := Lib.hid (HV3.out.kept hb4)
  have HGe4 := Lib.hid (HGe.out w4 A4 c4 hs4)
  clear hb4 hs4 HB3' HX3 HV3 HS3 HGe HPu
  go_wp2_with fail
  refine HGe4.out.mono ?_
  rintro e w5 ⟨A5, c5, rfl, hs5, hb5⟩
  have ha6 := (Below.refl w5.heap.size w5).alloc (Nat.le_refl _) (.cells #[.string ⟨#[120]⟩, .int .i64 0] 63)
  have HF6 := Lib.hid (slF_one w5 ⟨#[120]⟩ 0 (by unfold maxLen; decide))
  have HB6 := Lib.hid (bt HB4'.out (bt hb5 ha6))
  have HX6 := Lib.hid (HX4.out.kept (bt hb5 ha6))
  have HV6 := Lib.hid (HV4.out.kept (bt hb5 ha6))
  have HS6 := Lib.hid (hs5.kept ha6)
  clear hs5 hb5 ha6 HB4' HX4 HV4 HGe4
  go_wp2_with fail
  obtain ⟨w6, hw6⟩ : ∃ w6, w6 = w5.alloc (.cells #[.string ⟨#[120]⟩, .int .i64 0] 63) := ⟨_, rfl⟩
  obtain ⟨FA, hFA⟩ : ∃ a, a = (some ⟨w5.heap.size, 0, none⟩ : Option Addr) := ⟨_, rfl⟩
  rw [← hw6] at HF6 HB6 HX6 HV6 HS6 ⊢
  rw [← hFA] at HF6 ⊢
  clear hw6 hFA
  refine (HB5.out w6).mono ?_
  rintro e w7 ⟨A7, rfl, hs7, hb7⟩
  have HB7 := Lib.hid (bt HB6.out hb7)
  have HX7 := Lib.hid (HX6.out.kept hb7)
  have HV7 := Lib.hid (HV6.out.kept hb7)
  have HS7 := Lib.hid (HS6.out.kept hb7)
  have HK7 := Lib.hid (HKi.out w7 FA 1 A7 (HF6.out.kept hb7) hs7)
  clear hs7 hb7 HB6 HX6 HV6 HS6 HF6 HKi
  go_wp2_with fail
  refine HK7.out.mono ?_
  rintro e w8 ⟨rfl, hb8⟩
  have HB8 := Lib.hid (bt HB7.out hb8)
  have HX8 := Lib.hid (HX7.out.kept hb8)
  have HV8 := Lib.hid (HV7.out.kept hb8)
  have HS8 := Lib.hid (HS7.out.kept hb8)
  clear hb8 HB7 HX7 HV7 HS7 HK7
  go_wp2_with fail
  refine Reg.G_start (by kernel_rfl) (by repeat (first | exact Reg.frameless_bodyPost | refine Reg.frameless_then ?_ | refine Reg.frameless_inBlock ?_)) (fun W hW => ?_)
  obtain ⟨⟨z0, z1, z2⟩, _⟩ := HX8.out.kept hW
  have x0 := Reg.later_cell (Below.refl _ W) z0
  have x1 := Reg.later_cell (Below.refl _ W) z1
  have x2 := Reg.later_cell (Below.refl _ W) z2
  clear z0 z1 z2
  first | (refine Reg.G_step (i := 0) rfl (by kernel_rfl) (by rfl) (fun K hK => ?_); go_big_quiet_op; refine hK _ ?_; clear hK K) | (refine Reg.G_skip (i := 0) rfl (by kernel_rfl) (by rfl) ?_; simp only [Act.put, List.setIfInBounds_toArray, List.set_cons_zero, List.set_cons_succ])
  refine Reg.G_event (i := 1) rfl (by kernel_rfl) (by rfl) (fun K hK => ?_)
  go_simp
  refine (HB5.out _).mono ?_
  rintro e v0 ⟨B0, rfl, hB0, hv0⟩
  refine hK _ _ hv0 ?_
  clear hK K x0 x1 x2
  have hw0 := bt hW hv0
  obtain ⟨⟨z0, z1, z2⟩, _⟩ := HX8.out.kept hw0
  have x0 := Reg.later_cell (Below.refl _ v0) z0
  have x1 := Reg.later_cell (Below.refl _ v0) z1
  have x2 := Reg.later_cell (Below.refl _ v0) z2
  clear z0 z1 z2
  refine Reg.G_event (i := 2) rfl (by kernel_rfl) (by rfl) (fun K hK => ?_)
  go_simp
  refine (HH5.out _ VA 1 B0 (HV8.out.kept hw0) hB0).mono ?_
  rintro e v1 ⟨rfl, hv1⟩
  refine hK _ _ hv1 ?_
  clear hK K x0 x1 x2
  have hw1 := bt hw0 hv1
  obtain ⟨⟨z0, z1, z2⟩, _⟩ := HX8.out.kept hw1
  have x0 := Reg.later_cell (Below.refl _ v1) z0
  have x1 := Reg.later_cell (Below.refl _ v1) z1
  have x2 := Reg.later_cell (Below.refl _ v1) z2
  clear z0 z1 z2
  first | (refine Reg.G_step (i := 3) rfl (by kernel_rfl) (by rfl) (fun K hK => ?_); go_big_quiet_op; refine hK _ ?_; clear hK K) | (refine Reg.G_skip (i := 3) rfl (by kernel_rfl) (by rfl) ?_; simp only [Act.put, List.setIfInBounds_toArray, List.set_cons_zero, List.set_cons_succ])
  first | (refine Reg.G_step (i := 4) rfl (by kernel_rfl) (by rfl) (fun K hK => ?_); go_big_quiet_op; refine hK _ ?_; clear hK K) | (refine Reg.G_skip (i := 4) rfl (by kernel_rfl) (by rfl) ?_; simp only [Act.put, List.setIfInBounds_toArray, List.set_cons_zero, List.set_cons_succ])
  refine Reg.G_event (i := 5) rfl (by kernel_rfl) (by rfl) (fun K hK => ?_)
  go_simp
  refine (HB4.out _).mono ?_
  rintro e v2 ⟨B2, rfl, hB2, hv2⟩
  refine hK _ _ hv2 ?_
  clear hK K x0 x1 x2
  have hw2 := bt hw1 hv2
  obtain ⟨⟨z0, z1, z2⟩, _⟩ := HX8.out.kept hw2
  have x0 := Reg.later_cell (Below.refl _ v2) z0
  have x1 := Reg.later_cell (Below.refl _ v2) z1
  have x2 := Reg.later_cell (Below.refl _ v2) z2
  clear z0 z1 z2
  refine Reg.G_event (i := 6) rfl (by kernel_rfl) (by rfl) (fun K hK => ?_)
  go_simp
  refine (HH4.out _ VA 1 B2 (HV8.out.kept hw2) hB2).mono ?_
  rintro e v3 ⟨rfl, hv3⟩
  refine hK _ _ hv3 ?_
  clear hK K x0 x1 x2
  have hw3 := bt hw2 hv3
  first | (refine Reg.G_step (i := 7) rfl (by kernel_rfl) (by rfl) (fun K hK => ?_); go_big_quiet_op; refine hK _ ?_; clear hK K) | (refine Reg.G_skip (i := 7) rfl (by kernel_rfl) (by rfl) ?_; simp only [Act.put, List.setIfInBounds_toArray, List.set_cons_zero, List.set_cons_succ])
  first | (refine Reg.G_step (i := 8) rfl (by kernel_rfl) (by rfl) (fun K hK => ?_); go_big_quiet_op; refine hK _ ?_; clear hK K) | (refine Reg.G_skip (i := 8) rfl (by kernel_rfl) (by rfl) ?_; simp only [Act.put, List.setIfInBounds_toArray, List.set_cons_zero, List.set_cons_succ])
  first | (refine Reg.G_step (i := 9) rfl (by kernel_rfl) (by rfl) (fun K hK => ?_); go_big_quiet_op; refine hK _ ?_; clear hK K) | (refine Reg.G_skip (i := 9) rfl (by kernel_rfl) (by rfl) ?_; simp only [Act.put, List.setIfInBounds_toArray, List.set_cons_zero, List.set_cons_succ])
  first | (refine Reg.G_step (i := 10) rfl (by kernel_rfl) (by rfl) (fun K hK => ?_); go_big_quiet_op; refine hK _ ?_; clear hK K) | (refine Reg.G_skip (i := 10) rfl (by kernel_rfl) (by rfl) ?_; simp only [Act.put, List.setIfInBounds_toArray, List.set_cons_zero, List.set_cons_succ])
  first | (refine Reg.G_step (i := 11) rfl (by kernel_rfl) (by rfl) (fun K hK => ?_); go_big_quiet_op; refine hK _ ?_; clear hK K) | (refine Reg.G_skip (i := 11) rfl (by kernel_rfl) (by rfl) ?_; simp only [Act.put, List.setIfInBounds_toArray, List.set_cons_zero, List.set_cons_succ])
  first | (refine Reg.G_step (i := 12) rfl (by kernel_rfl) (by rfl) (fun K hK => ?_); go_big_quiet_op; refine hK _ ?_; clear hK K) | (refine Reg.G_skip (i := 12) rfl (by kernel_rfl) (by rfl) ?_; simp only [Act.put, List.setIfInBounds_toArray, List.set_cons_zero, List.set_cons_succ])
  first | (refine Reg.G_step (i := 13) rfl (by kernel_rfl) (by rfl) (fun K hK => ?_); go_big_quiet_op; refine hK _ ?_; clear hK K) | (refine Reg.G_skip (i := 13) rfl (by kernel_rfl) (by rfl) ?_; simp only [Act.put, List.setIfInBounds_toArray, List.set_cons_zero, List.set_cons_succ])
  first | (refine Reg.G_step (i := 14) rfl (by kernel_rfl) (by rfl) (fun K hK => ?_); go_big_quiet_op; refine hK _ ?_; clear hK K) | (refine Reg.G_skip (i := 14) rfl (by kernel_rfl) (by rfl) ?_; simp only [Act.put, List.setIfInBounds_toArray, List.set_cons_zero, List.set_cons_succ])
  first | (refine Reg.G_step (i := 15) rfl (by kernel_rfl) (by rfl) (fun K hK => ?_); go_big_quiet_op; refine hK _ ?_; clear hK K) | (refine Reg.G_skip (i := 15) rfl (by kernel_rfl) (by rfl) ?_; simp only [Act.put, List.setIfInBounds_toArray, List.set_cons_zero, List.set_cons_succ])
  first | (refine Reg.G_step (i := 16) rfl (by kernel_rfl) (by rfl) (fun K hK => ?_); go_big_quiet_op; refine hK _ ?_; clear hK K) | (refine Reg.G_skip (i := 16) rfl (by kernel_rfl) (by rfl) ?_; simp only [Act.put, List.setIfInBounds_toArray, List.set_cons_zero, List.set_cons_succ])
  first | (refine Reg.G_step (i := 17) rfl (by kernel_rfl) (by rfl) (fun K hK => ?_); go_big_quiet_op; refine hK _ ?_; clear hK K) | (refine Reg.G_skip (i := 17) rfl (by kernel_rfl) (by rfl) ?_; simp only [Act.put, List.setIfInBounds_toArray, List.set_cons_zero, List.set_cons_succ])
  first | (refine Reg.G_step (i := 18) rfl (by kernel_rfl) (by rfl) (fun K hK => ?_); go_big_quiet_op; refine hK _ ?_; clear hK K) | (refine Reg.G_skip (i := 18) rfl (by kernel_rfl) (by rfl) ?_; simp only [Act.put, List.setIfInBounds_toArray, List.set_cons_zero, List.set_cons_succ])
  first | (refine Reg.G_step (i := 19) rfl (by kernel_rfl) (by rfl) (fun K hK => ?_); go_big_quiet_op; refine hK _ ?_; clear hK K) | (refine Reg.G_skip (i := 19) rfl (by kernel_rfl) (by rfl) ?_; simp only [Act.put, List.setIfInBounds_toArray, List.set_cons_zero, List.set_cons_succ])
  first | (refine Reg.G_step (i := 20) rfl (by kernel_rfl) (by rfl) (fun K hK => ?_); go_big_quiet_op; refine hK _ ?_; clear hK K) | (refine Reg.G_skip (i := 20) rfl (by kernel_rfl) (by rfl) ?_; simp only [Act.put, List.setIfInBounds_toArray, List.set_cons_zero, List.set_cons_succ])
  first | (refine Reg.G_step (i := 21) rfl (by kernel_rfl) (by rfl) (fun K hK => ?_); go_big_quiet_op; refine hK _ ?_; clear hK K) | (refine Reg.G_skip (i := 21) rfl (by kernel_rfl) (by rfl) ?_; simp only [Act.put, List.setIfInBounds_toArray, List.set_cons_zero, List.set_cons_succ])
  first | (refine Reg.G_step (i := 22) rfl (by kernel_rfl) (by rfl) (fun K hK => ?_); go_big_quiet_op; refine hK _ ?_; clear hK K) | (refine Reg.G_skip (i := 22) rfl (by kernel_rfl) (by rfl) ?_; simp only [Act.put, List.setIfInBounds_toArray, List.set_cons_zero, List.set_cons_succ])
  refine Reg.G_event (i := 23) rfl (by kernel_rfl) (by rfl) (fun K hK => ?_)
  go_simp
  refine (HB5.out _).mono ?_
  rintro e v4 ⟨B4, rfl, hB4, hv4⟩
  refine hK _ _ hv4 ?_
  clear hK K
  have hw4 := bt hw3 hv4
  refine Reg.G_event (i := 24) rfl (by kernel_rfl) (by rfl) (fun K hK => ?_)
  go_simp
  refine (HSa.out _ A5 c5 B4 (HS8.out.kept hw4) hB4).mono ?_
  rintro e v5 ⟨rfl, hv5⟩
  refine hK _ _ hv5 ?_
  clear hK K
  have hw5 := bt hw4 hv5
  first | (refine Reg.G_step (i := 25) rfl (by kernel_rfl) (by rfl) (fun K hK => ?_); go_big_quiet_op; refine hK _ ?_; clear hK K) | (refine Reg.G_skip (i := 25) rfl (by kernel_rfl) (by rfl) ?_; simp only [Act.put, List.setIfInBounds_toArray, List.set_cons_zero, List.set_cons_succ])
  first | (refine Reg.G_step (i := 26) rfl (by kernel_rfl) (by rfl) (fun K hK => ?_); go_big_quiet_op; refine hK _ ?_; clear hK K) | (refine Reg.G_skip (i := 26) rfl (by kernel_rfl) (by rfl) ?_; simp only [Act.put, List.setIfInBounds_toArray, List.set_cons_zero, List.set_cons_succ])
  first | (refine Reg.G_step (i := 27) rfl (by kernel_rfl) (by rfl) (fun K hK => ?_); go_big_quiet_op; refine hK _ ?_; clear hK K) | (refine Reg.G_skip (i := 27) rfl (by kernel_rfl) (by rfl) ?_; simp only [Act.put, List.setIfInBounds_toArray, List.set_cons_zero, List.set_cons_succ])
  first | (refine Reg.G_step (i := 28) rfl (by kernel_rfl) (by rfl) (fun K hK => ?_); go_big_quiet_op; refine hK _ ?_; clear hK K) | (refine Reg.G_skip (i := 28) rfl (by kernel_rfl) (by rfl) ?_; simp only [Act.put, List.setIfInBounds_toArray, List.set_cons_zero, List.set_cons_succ])
  first | (refine Reg.G_step (i := 29) rfl (by kernel_rfl) (by rfl) (fun K hK => ?_); go_big_quiet_op; refine hK _ ?_; clear hK K) | (refine Reg.G_skip (i := 29) rfl (by kernel_rfl) (by rfl) ?_; simp only [Act.put, List.setIfInBounds_toArray, List.set_cons_zero, List.set_cons_succ])
  first | (refine Reg.G_step (i := 30) rfl (by kernel_rfl) (by rfl) (fun K hK => ?_); go_big_quiet_op; refine hK _ ?_; clear hK K) | (refine Reg.G_skip (i := 30) rfl (by kernel_rfl) (by rfl) ?_; simp only [Act.put, List.setIfInBounds_toArray, List.set_cons_zero, List.set_cons_succ])
  first | (refine Reg.G_step (i := 31) rfl (by kernel_rfl) (by rfl) (fun K hK => ?_); go_big_quiet_op; refine hK _ ?_; clear hK K) | (refine Reg.G_skip (i := 31) rfl (by kernel_rfl) (by rfl) ?_; simp only [Act.put, List.setIfInBounds_toArray, List.set_cons_zero, List.set_cons_succ])
  first | (refine Reg.G_step (i := 32) rfl (by kernel_rfl) (by rfl) (fun K hK => ?_); go_big_quiet_op; refine hK _ ?_; clear hK K) | (refine Reg.G_skip (i := 32) rfl (by kernel_rfl) (by rfl) ?_; simp only [Act.put, List.setIfInBounds_toArray, List.set_cons_zero, List.set_cons_succ])
  first | (refine Reg.G_step (i := 33) rfl (by kernel_rfl) (by rfl) (fun K hK => ?_); go_big_quiet_op; refine hK _ ?_; clear hK K) | (refine Reg.G_skip (i := 33) rfl (by kernel_rfl) (by rfl) ?_; simp only [Act.put, List.setIfInBounds_toArray, List.set_cons_zero, List.set_cons_succ])
  first | (refine Reg.G_step (i := 34) rfl (by kernel_rfl) (by rfl) (fun K hK => ?_); go_big_quiet_op; refine hK _ ?_; clear hK K) | (refine Reg.G_skip (i := 34) rfl (by kernel_rfl) (by rfl) ?_; simp only [Act.put, List.setIfInBounds_toArray, List.set_cons_zero, List.set_cons_succ])
  refine Reg.G_done (by kernel_rfl) ?_
  have HB9 := Lib.hid (bt HB8.out hw5)
  clear hw0 hw1 hw2 hw3 hw4 hw5 hv0 hv1 hv2 hv3 hv4 hv5 hW
  go_wp2_with fail
  go_ret
  exact ⟨ret_v (x := .bool true) rfl, HB9.out⟩
end Go.Proofs.Ytbjgflinggelpaa.Ex
