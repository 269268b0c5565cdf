/- QueryNames: for every input the law returns true, and each argument reads afterwards as it read before. No condition.
  The walk is the theorem Go.Proofs.Ytbmdkibmfkmjoaa.Qy.names_walk. -/
import Derived.Test.YtbmdkibmfkmjoaaChA
import Derived.Test.YtbmdkibmfkmjoaaRows
import Derived.Lib.SmallJoins
import Derived.Deep.Slices
import Derived.ShutString
import Derived.OpenShut
import Derived.Test.YtbmdkibmfkmjoaaChC
import Derived.WalkKit
import Derived.ProofKit
import Derived.ChangeOld
import Derived.Below

namespace Go.Proofs.Ytbmdkibmfkmjoaa.Sc
open Go.RowKit Go.Proofs.Ytbmdkibmfkmjoaa.BM Go.Proofs.Ytbmdkibmfkmjoaa.LeM Go.Proofs.Ytbmdkibmfkmjoaa.VaM Go.Proofs.Ytbmdkibmfkmjoaa.Va Go.Proofs.Ytbmdkibmfkmjoaa.ScM

/-- A schema of few fields. -/
def Few (s : Sc) : Prop := s.s.size ≤ 60 ∧ s.f.length ≤ 10 ∧ ∀ i, i < s.f.length → (s.f.getD i d0).s.size ≤ 60
instance (s : Sc) : Decidable (Few s) := by unfold Few; infer_instance

set_option maxRecDepth 100000 in
set_option maxHeartbeats 1000000 in
theorem Few_any (s : Sc) (A : Option Addr) (c : Nat) (w : World) (hS : SlF w A s.f c) (hz : s.s.size ≤ maxLen) :
    Calls Try.prog 22 #[.agg #[.string s.s, .int .i64 s.v, .slice A s.f.length c]] w fun e w' => e = .returned (.bool (decide (Few s))) ∧ Below w.heap.size w w' := by
  obtain ⟨nm, v, l⟩ := s
  simp only at hS hz ⊢
  unfold maxLen at hz
  have hl := slF_len hS
  have hfew : Few ⟨nm, v, l⟩ ↔ nm.size ≤ 60 ∧ l.length ≤ 10 ∧ ∀ i, i < l.length → (l.getD i d0).s.size ≤ 60 := Iff.rfl
  obtain ⟨n, hn⟩ : ∃ n, n = l.length := ⟨_, rfl⟩
  rw [← hn] at hl hfew ⊢
  have HLen := Lib.hid hn
  have HS := Lib.hid hS
  have HFew := Lib.hid hfew
  have HX0 := Lib.hid (bx_new_t w 43 (.string nm) (.int .i64 v) (.slice A n c))
  have HB0 := Lib.hid ((Below.refl w.heap.size w).alloc (Nat.le_refl _) (.cells #[.string nm, .int .i64 v, .slice A n c] 43))
  clear hn hS hfew
  obtain ⟨⟨p0, p1, p2⟩, _⟩ := HX0.out
  by_cases m1 : nm.size ≤ 60
  · have hd1 : decide ((60 : Int) < (nm.size : Int)) = false := by rw [decide_eq_false_iff_not]; omega
    by_cases m2 : n ≤ 10
    · have hd2 : decide ((10 : Int) < (n : Int)) = false := by rw [decide_eq_false_iff_not]; omega
      have HF := Lib.hid (show Few ⟨nm, v, l⟩ ↔ ∀ i, i < n → (l.getD i d0).s.size ≤ 60 from ⟨fun h => (HFew.out.1 h).2.2, fun h => HFew.out.2 ⟨m1, m2, h⟩⟩)
      clear m1 HFew
      go_enter Try.func22, Try.ntmps22
      go_wp2_with fail
      obtain ⟨w1, hw1⟩ : ∃ w1, w1 = w.alloc (.cells #[.string nm, .int .i64 v, .slice A n c] 43) := ⟨_, rfl⟩
      rw [← hw1] at HX0 HB0 ⊢
      clear hw1 p0 p1 p2
      go_loopw [3] (fun i wr => ∃ j : Nat, i = .int .i64 j ∧ j ≤ n ∧ (∀ r, r < j → (l.getD r d0).s.size ≤ 60) ∧ wr = w1) (fun i _ => n - (intOf i).toNat)
      case atStart => exact ⟨0, rfl, Nat.zero_le _, fun r hr => absurd hr (Nat.not_lt_zero r), rfl⟩
      case round =>
        obtain ⟨j, rfl, hj, hall, rfl⟩ := hrel
        have HAl := Lib.hid hall
        obtain ⟨⟨_, _, p2⟩, _⟩ := HX0.out
        clear hall
        by_cases hjn : j < n
        · obtain ⟨b, q, hix, hc, hsz⟩ := HS.out.at j (by rw [← HLen.out]; exact hjn)
          obtain ⟨⟨fs, fk⟩, hf⟩ : ∃ f, f = l.getD j d0 := ⟨_, rfl⟩
          rw [← hf] at hc hsz
          obtain ⟨c0, _⟩ := hc wr HB0.out
          simp only at c0 hsz
          unfold maxLen at hsz
          have hi := fun W => hix W n c hjn
          have HFl := Lib.hid hf
          clear hc hix hf
          by_cases h60 : fs.size ≤ 60
          · have hd3 : decide ((60 : Int) < (fs.size : Int)) = false := by rw [decide_eq_false_iff_not]; omega
            have HY := Lib.hid h60
            clear h60
            go_wp2_with fail
            go_roundw
            case rel =>
              refine ⟨j + 1, by go_num, by omega, fun r hr => ?_, by trivial⟩
              by_cases e : r = j
              · rw [e, ← HFl.out]
                exact HY.out
              · exact HAl.out r (by omega)
            case measure => simp [intOf]; omega
          · have hd3 : decide ((60 : Int) < (fs.size : Int)) = true := by rw [decide_eq_true_iff]; omega
            have HNo := Lib.hid (show ¬ Few ⟨nm, v, l⟩ from fun h => h60 (by have := HF.out.1 h j hjn; rw [← HFl.out] at this; exact this))
            clear h60
            go_wp2_with fail
            go_ret
            exact ⟨ret_v (x := .bool false) (by rw [decide_eq_false HNo.out]), HB0.out⟩
        · obtain rfl : j = n := by omega
          have HYes := Lib.hid (HF.out.2 HAl.out)
          go_wp2_with fail
          go_ret
          exact ⟨ret_v (x := .bool true) (by rw [decide_eq_true HYes.out]), HB0.out⟩
    · have hd2 : decide ((10 : Int) < (n : Int)) = true := by rw [decide_eq_true_iff]; omega
      have HNo := Lib.hid (show ¬ Few ⟨nm, v, l⟩ from fun h => m2 (HFew.out.1 h).2.1)
      clear m2 m1
      go_enter Try.func22, Try.ntmps22
      go_wp2_with fail
      go_ret
      exact ⟨ret_v (x := .bool false) (by rw [decide_eq_false HNo.out]), HB0.out⟩
  · have hd1 : decide ((60 : Int) < (nm.size : Int)) = true := by rw [decide_eq_true_iff]; omega
    have HNo := Lib.hid (show ¬ Few ⟨nm, v, l⟩ from fun h => m1 (HFew.out.1 h).1)
    clear m1
    go_enter Try.func22, Try.ntmps22
    go_wp2_with fail
    go_ret
    exact ⟨ret_v (x := .bool false) (by rw [decide_eq_false HNo.out]), HB0.out⟩
end Go.Proofs.Ytbmdkibmfkmjoaa.Sc

namespace Go.Proofs.Ytbmdkibmfkmjoaa.Rg
open Go.RowKit Go.Proofs.Ytbmdkibmfkmjoaa.BM Go.Proofs.Ytbmdkibmfkmjoaa.LeM Go.Proofs.Ytbmdkibmfkmjoaa.VaM Go.Proofs.Ytbmdkibmfkmjoaa.Va Go.Proofs.Ytbmdkibmfkmjoaa.Sc Go.Proofs.Ytbmdkibmfkmjoaa.RgM
open Go.Proofs.Ytbmdkibmfkmjoaa.ScM (Sc)

/-- Few schemas, of few fields. -/
def Few (l : List Sc) : Prop := l.length ≤ 12 ∧ ∀ i, i < l.length → Sc.Few (l.getD i s0)
instance (l : List Sc) : Decidable (Few l) := by unfold Few; infer_instance

set_option maxRecDepth 100000 in
set_option maxHeartbeats 1000000 in
theorem Few_any (l : List Sc) (A : Option Addr) (c : Nat) (w : World) (hS : SlS w A l c) :
    Calls Try.prog 12 #[.slice A l.length c] w fun e w' => e = .returned (.bool (decide (Few l))) ∧ Below w.heap.size w w' := by
  have hl := slS_len hS
  have hfew : Few l ↔ l.length ≤ 12 ∧ ∀ i, i < l.length → Sc.Few (l.getD i s0) := Iff.rfl
  obtain ⟨n, hn⟩ : ∃ n, n = l.length := ⟨_, rfl⟩
  rw [← hn] at hl hfew ⊢
  have HLen := Lib.hid hn
  have HS := Lib.hid hS
  have HFew := Lib.hid hfew
  clear hn hS hfew
  by_cases m1 : n ≤ 12
  · have hd1 : decide ((12 : Int) < (n : Int)) = false := by rw [decide_eq_false_iff_not]; omega
    have HF := Lib.hid (show Few l ↔ ∀ i, i < n → Sc.Few (l.getD i s0) from ⟨fun h => (HFew.out.1 h).2, fun h => HFew.out.2 ⟨m1, h⟩⟩)
    clear m1 HFew
    go_enter Try.func12, Try.ntmps12
    go_wp2_with fail
    go_loopw [3] (fun i wr => ∃ j : Nat, i = .int .i64 j ∧ j ≤ n ∧ (∀ r, r < j → Sc.Few (l.getD r s0)) ∧ Below w.heap.size w wr) (fun i _ => n - (intOf i).toNat)
    case atStart => exact ⟨0, rfl, Nat.zero_le _, fun r hr => absurd hr (Nat.not_lt_zero r), Below.refl _ _⟩
    case round =>
      obtain ⟨j, rfl, hj, hall, hbel⟩ := hrel
      have HAl := Lib.hid hall
      have HBl := Lib.hid hbel
      clear hall hbel
      by_cases hjn : j < n
      · obtain ⟨b, q, A1, c1, hix, hc, hfine⟩ := HS.out.at j (by rw [← HLen.out]; exact hjn)
        obtain ⟨f, hf⟩ : ∃ f, f = l.getD j s0 := ⟨_, rfl⟩
        rw [← hf] at hc hfine
        obtain ⟨⟨x0, x1, x2⟩, y0⟩ := hc wr HBl.out
        have HF5 := Lib.hid (Sc.Few_any f A1 c1 wr y0 hfine.1)
        have hi := fun W => hix W n c hjn
        have HFl := Lib.hid hf
        clear hc hix hf hfine y0
        obtain ⟨fs, fv, ff⟩ := f
        simp only at x0 x1 x2 HF5
        obtain ⟨k, hk⟩ : ∃ k, k = ff.length := ⟨_, rfl⟩
        rw [← hk] at x2 HF5
        clear hk
        go_wp2_with fail
        refine HF5.out.mono ?_
        rintro e w2 ⟨rfl, hb2⟩
        have HB2 := Lib.hid (bt HBl.out hb2)
        clear hb2 x0 x1 x2 hi
        by_cases hok : Sc.Few ⟨fs, fv, ff⟩
        · rw [decide_eq_true hok]
          have HOk := Lib.hid hok
          clear hok
          go_wp2_with fail
          go_roundw
          case rel =>
            refine ⟨j + 1, by go_num, by omega, fun r hr => ?_, HB2.out⟩
            by_cases e : r = j
            · rw [e, ← HFl.out]
              exact HOk.out
            · exact HAl.out r (by omega)
          case measure => simp [intOf]; omega
        · rw [decide_eq_false hok]
          have HNo := Lib.hid (show ¬ Few l from fun h => hok (by have := HF.out.1 h j hjn; rw [← HFl.out] at this; exact this))
          clear hok
          go_wp2_with fail
          go_ret
          exact ⟨ret_v (x := .bool false) (by rw [decide_eq_false HNo.out]), HB2.out⟩
      · obtain rfl : j = n := by omega
        have HYes := Lib.hid (HF.out.2 HAl.out)
        go_wp2_with fail
        go_ret
        exact ⟨ret_v (x := .bool true) (by rw [decide_eq_true HYes.out]), HBl.out⟩
  · have hd1 : decide ((12 : Int) < (n : Int)) = true := by rw [decide_eq_true_iff]; omega
    have HNo := Lib.hid (show ¬ Few l from fun h => m1 (HFew.out.1 h).1)
    clear m1
    go_enter Try.func12, Try.ntmps12
    go_wp2_with fail
    go_ret
    exact ⟨ret_v (x := .bool false) (by rw [decide_eq_false HNo.out]), Below.refl _ _⟩
end Go.Proofs.Ytbmdkibmfkmjoaa.Rg

namespace Go.Proofs.Ytbmdkibmfkmjoaa.Op
open Go.RowKit Go.ChangeShapes Go.WideShapes Go.Proofs.Ytbmdkibmfkmjoaa.Sc Go.Proofs.Ytbmdkibmfkmjoaa.ScM Go.Proofs.Ytbmdkibmfkmjoaa.VaM

/-- A schema that came in: its fields lie where its slice says. -/
def ArgS (W : World) (s : ByteArray) (v : Int) (a : Option Addr) (len cap : Nat) : Prop := ∃ l : List F, l.length = len ∧ SlF W a l cap ∧ Fine ⟨s, v, l⟩

set_option maxRecDepth 100000 in
theorem two {H : Type} {enc : TypeId × Value → H} {P : Program} {w : World} {base : Nat} {spare : Nat → Bool} {held : Bool} {t : TypeId} {g0 g1 : Field} {fuel : Nat} {u0 u1 : Value} {x : DataW H × List MemPlace}
    (ht : P.underlying t = some (.struct #[g0, g1])) (h : DataW.trod enc P w base spare held fuel t [u0, u1] = some x) :
    ∃ y0 y1 n, DataW.trod enc P w base spare held n g0.type (([u0, u1].drop g0.offset).take (P.cellsOf g0.type)) = some y0 ∧ DataW.trod enc P w base spare held n g1.type (([u0, u1].drop g1.offset).take (P.cellsOf g1.type)) = some y1 := by
  obtain ⟨ys, n, _, _, _, hn, hat⟩ := DataW.trod_struct ht h
  obtain ⟨a, b, rfl⟩ : ∃ a b, ys = [a, b] := by
    match ys, hn with
    | [a, b], _ => exact ⟨a, b, rfl⟩
  exact ⟨a, b, n, by simpa using hat 0 g0 rfl, by simpa using hat 1 g1 rfl⟩

set_option maxRecDepth 100000 in
theorem open_fields {H : Type} {enc : TypeId × Value → H} {W : World} {fuel : Nat} {v2 : Value} {y2 : DataW H × List MemPlace} (h2 : DataW.trod enc Try.prog W 0 (fun _ => true) true fuel 41 [v2] = some y2) :
    ∃ a len cap, v2 = .slice a len cap ∧ ∃ l : List F, l.length = len ∧ SlF W a l cap := by
  rcases Deep.open_slice Try.underlying41 h2 with ⟨hcs, _⟩ | ⟨x, l, c, m, k, D, Pl, hcs, _, hl, hm, hmm, _, hr⟩
  · simp only [List.cons.injEq, and_true] at hcs
    subst hcs
    exact ⟨none, 0, 0, rfl, [], rfl, slF_none W⟩
  · simp only [List.cons.injEq, and_true] at hcs
    subst hcs
    simp only [if_true] at hmm
    rw [hmm] at hr
    have each : ∀ i, i < l → ∃ f : F, f.s.size ≤ maxLen ∧ W.cell? (x.add (i * 2)) = some (.string f.s) ∧ W.cell? (x.add (i * 2 + 1)) = some (.int .i64 f.k) := by
      intro i hi
      obtain ⟨cs', hc, ht⟩ := hr i (by omega)
      rw [show Try.prog.cellsOf 73 = 2 from by kernel_rfl] at hc
      obtain ⟨_, hlen, hcell⟩ := World.cells?_some hc
      match cs', hlen with
      | [v0, v1], _ =>
        obtain ⟨y0, y1, k, t0, t1⟩ := two Try.underlying73 ht
        have c1 : Try.prog.cellsOf 3 = 1 := by kernel_rfl
        have c2 : Try.prog.cellsOf 9 = 1 := by kernel_rfl
        simp only [c1, c2] at t0 t1
        obtain ⟨f0, e0', _, w0⟩ := DataW.trod_string Try.underlying9 t0
        obtain ⟨f1, e1', _, _⟩ := DataW.trod_int Try.underlying3 t1
        simp only [List.drop_zero, List.drop_succ_cons, List.take_succ_cons, List.take_zero, List.cons.injEq, and_true] at e0' e1'
        subst e0' e1'
        have g0 := hcell 0 (by decide)
        have g1 := hcell 1 (by decide)
        refine ⟨⟨f0, f1⟩, w0, ?_, ?_⟩
        · rw [Deep.add_add, Nat.add_zero] at g0
          exact g0
        · rw [Deep.add_add] at g1
          exact g1
    let g : Nat → F := fun i => if h : i < l then Classical.choose (each i h) else d0
    have hg : ∀ i, i < l → (g i).s.size ≤ maxLen ∧ W.cell? (x.add (i * 2)) = some (.string (g i).s) ∧ W.cell? (x.add (i * 2 + 1)) = some (.int .i64 (g i).k) := by
      intro i hi
      have e : g i = Classical.choose (each i hi) := dif_pos hi
      rw [e]
      exact Classical.choose_spec (each i hi)
    have hgl : ((List.range l).map g).length = l := by simp
    have hgd : ∀ i, i < l → ((List.range l).map g).getD i d0 = g i := fun i hi => by simp [List.getD_eq_getElem?_getD, hi]
    refine ⟨some x, l, c, rfl, (List.range l).map g, hgl, fun h0 => ?_, by rw [hgl]; exact hl, (fun e => by cases e), hm, fun f hf => ?_⟩
    · rw [hgl] at h0
      obtain ⟨b, o, sp⟩ := x
      have hsp : sp = none := by simpa [Addr.add] using World.cell?_spot (hg 0 h0).2.1
      subst hsp
      refine ⟨b, o, rfl, fun i hi => ?_⟩
      rw [hgl] at hi
      rw [hgd i hi]
      obtain ⟨_, g1, g2⟩ := hg i hi
      rw [Addr.add_lit] at g1 g2
      exact ⟨g1, g2⟩
    · obtain ⟨i, hi, rfl⟩ := List.mem_map.1 hf
      exact (hg i (List.mem_range.1 hi)).1

set_option maxRecDepth 100000 in
theorem open_schema {H : Type} {enc : TypeId × Value → H} {W : World} {r : Reach} {b0 : Nat} {v : Value} {d : DataW H} {p : List MemPlace} (hv : Value.okWide Try.prog W r b0 43 v)
    (h : DataW.Trod enc Try.prog W 0 (fun _ => true) true 43 v d p) : ∃ s n a len cap, v = .agg #[.string s, .int .i64 n, .slice a len cap] ∧ ArgS W s n a len cap := by
  obtain ⟨v0, v1, v2, y0, y1, y2, fuel, rfl, _, _, h0, h1, h2⟩ := Joins.open_agg3 Try.underlying43 (by kernel_rfl) (by kernel_rfl) hv h
  obtain ⟨s, hs, _, ws⟩ := DataW.trod_string Try.underlying9 h0
  obtain ⟨n, hn, _, wn⟩ := DataW.trod_int Try.underlying3 h1
  simp only [List.cons.injEq, and_true] at hs hn
  subst hs hn
  have hb := bounds_i64 wn
  obtain ⟨a, len, cap, rfl, l, hl, hf⟩ := open_fields h2
  exact ⟨s, n, a, len, cap, rfl, l, hl, hf, ws, by simp only; omega, by simp only; omega⟩

set_option maxRecDepth 100000 in
theorem open_field {H : Type} {enc : TypeId × Value → H} {W : World} {r : Reach} {b0 : Nat} {v : Value} {d : DataW H} {p : List MemPlace} (hv : Value.okWide Try.prog W r b0 73 v)
    (h : DataW.Trod enc Try.prog W 0 (fun _ => true) true 73 v d p) : ∃ s n, v = .agg #[.string s, .int .i64 n] ∧ s.size ≤ maxLen := by
  obtain ⟨v0, v1, y0, y1, fuel, rfl, _, _, h0, h1⟩ := Joins.open_agg2 Try.underlying73 (by kernel_rfl) (by kernel_rfl) hv h
  obtain ⟨s, hs, _, ws⟩ := DataW.trod_string Try.underlying9 h0
  obtain ⟨n, hn, _, _⟩ := DataW.trod_int Try.underlying3 h1
  simp only [List.cons.injEq, and_true] at hs hn
  subst hs hn
  exact ⟨s, n, rfl, ws⟩
end Go.Proofs.Ytbmdkibmfkmjoaa.Op

namespace Go.Proofs.Ytbmdkibmfkmjoaa.Op
open Go.RowKit Go.ChangeShapes Go.WideShapes Go.Proofs.Ytbmdkibmfkmjoaa.Sc Go.Proofs.Ytbmdkibmfkmjoaa.ScM Go.Proofs.Ytbmdkibmfkmjoaa.VaM Go.Proofs.Ytbmdkibmfkmjoaa.RgM

/-- Schemas that came in lie where their slice says. -/
def ArgL (W : World) (a : Option Addr) (len cap : Nat) : Prop := ∃ l : List Sc, l.length = len ∧ SlS W a l cap

/-- A schema, and where its fields lie. -/
def encS (x : Sc × Option Addr × Nat) : List Value := [.string x.1.s, .int .i64 x.1.v, .slice x.2.1 x.1.f.length x.2.2]

theorem elems_s {W : World} : ∀ L : List (Sc × Option Addr × Nat), (∀ x ∈ L, SlF W x.2.1 x.1.f x.2.2 ∧ Fine x.1) → RG.Elems KS (fun _ => True) W (L.map (·.1)) (L.flatMap encS)
  | [], _ => rfl
  | x :: L, h => by
    obtain ⟨h1, h2⟩ := h x (by simp)
    exact ⟨encS x, L.flatMap encS, rfl, ⟨x.2.1, x.2.2, rfl, h1, h2, fun _ _ _ => True.intro⟩, elems_s L fun y hy => h y (by simp [hy])⟩

theorem cells_s {w : World} {b : Nat} : ∀ (L : List (Sc × Option Addr × Nat)) (o : Nat), (∀ i x, L[i]? = some x → w.cell? ⟨b, o + i * 3, none⟩ = some (.string x.1.s) ∧ w.cell? ⟨b, o + i * 3 + 1, none⟩ = some (.int .i64 x.1.v) ∧ w.cell? ⟨b, o + i * 3 + 2, none⟩ = some (.slice x.2.1 x.1.f.length x.2.2)) →
    ∀ (j : Nat) (u : Value), (L.flatMap encS)[j]? = some u → w.cell? ⟨b, o + j, none⟩ = some u
  | [], _, _, j, u, h => by simp at h
  | x :: L, o, hc, j, u, h => by
    rw [List.flatMap_cons] at h
    obtain ⟨c0, c1, c2⟩ := hc 0 x rfl
    rw [Nat.zero_mul, Nat.add_zero] at c0 c1 c2
    by_cases hj : j < 3
    · rw [List.getElem?_append_left (by simpa [encS] using hj)] at h
      have hw : j = 0 ∨ j = 1 ∨ j = 2 := by omega
      rcases hw with rfl | rfl | rfl
      · obtain rfl : _ = u := by simpa [encS] using h
        exact c0
      · obtain rfl : _ = u := by simpa [encS] using h
        exact c1
      · obtain rfl : _ = u := by simpa [encS] using h
        exact c2
    · rw [List.getElem?_append_right (by simp only [encS, List.length_cons, List.length_nil]; omega)] at h
      have h2 := cells_s L (o + 3) (fun i y hi => by
        have h3 := hc (i + 1) y (by simpa using hi)
        rw [show o + 3 + i * 3 = o + (i + 1) * 3 from by omega]
        exact h3) (j - 3) u h
      rw [show o + 3 + (j - 3) = o + j from by omega] at h2
      exact h2

set_option maxRecDepth 100000 in
theorem open_schemas {H : Type} {enc : TypeId × Value → H} {W : World} {r : Reach} {b0 : Nat} {v : Value} {d : DataW H} {p : List MemPlace} (hv : Value.okWide Try.prog W r b0 34 v)
    (h : DataW.Trod enc Try.prog W 0 (fun _ => true) true 34 v d p) : ∃ a len cap, v = .slice a len cap ∧ ArgL W a len cap := by
  obtain ⟨a, len, cap, rfl⟩ := okWide_slice Try.underlying34 hv
  refine ⟨a, len, cap, rfl, ?_⟩
  obtain ⟨fuel, hf⟩ := h
  simp only [Value.cells] at hf
  rcases Deep.open_slice Try.underlying34 hf with ⟨hcs, _⟩ | ⟨x, l, c, m, n, D, Pl, hcs, _, hl, hm, hmm, _, hr⟩
  · simp only [List.cons.injEq, Value.slice.injEq, and_true] at hcs
    obtain ⟨rfl, rfl, rfl⟩ := hcs
    exact ⟨[], rfl, slS_none W⟩
  · simp only [List.cons.injEq, Value.slice.injEq, and_true] at hcs
    obtain ⟨rfl, rfl, rfl⟩ := hcs
    simp only [if_true] at hmm
    subst hmm
    have each : ∀ i, i < len → ∃ y : Sc × Option Addr × Nat, (SlF W y.2.1 y.1.f y.2.2 ∧ Fine y.1) ∧ W.cell? (x.add (i * 3)) = some (.string y.1.s) ∧ W.cell? (x.add (i * 3 + 1)) = some (.int .i64 y.1.v) ∧ W.cell? (x.add (i * 3 + 2)) = some (.slice y.2.1 y.1.f.length y.2.2) := by
      intro i hi
      obtain ⟨cs', hc, ht⟩ := hr i (by omega)
      rw [show Try.prog.cellsOf 43 = 3 from by kernel_rfl] at hc
      obtain ⟨_, hlen, hcell⟩ := World.cells?_some hc
      match cs', hlen with
      | [v0, v1, v2], _ =>
        obtain ⟨y0, y1, y2, k, _, _, t0, t1, t2⟩ := Deep.trod_struct3 Try.underlying43 ht
        have c0 : Try.prog.cellsOf 9 = 1 := by kernel_rfl
        have c1 : Try.prog.cellsOf 3 = 1 := by kernel_rfl
        have c2 : Try.prog.cellsOf 41 = 1 := by kernel_rfl
        simp only [c0] at t0
        simp only [c1] at t1
        simp only [c2] at t2
        obtain ⟨s, e0', _, w0⟩ := DataW.trod_string Try.underlying9 t0
        obtain ⟨n1, e1', _, w1⟩ := DataW.trod_int Try.underlying3 t1
        simp only [List.drop_zero, List.drop_succ_cons, List.take_succ_cons, List.take_zero, List.cons.injEq, and_true] at e0' e1' t2
        subst e0' e1'
        obtain ⟨A1, n2, k2, rfl, l2, rfl, hs2⟩ := open_fields t2
        have g0 := hcell 0 (by decide)
        have g1 := hcell 1 (by decide)
        have g2 := hcell 2 (by decide)
        have hb := bounds_i64 w1
        refine ⟨(⟨s, n1, l2⟩, A1, k2), ⟨hs2, w0, by simp only; omega, by simp only; omega⟩, ?_, ?_, ?_⟩
        · rw [Deep.add_add, Nat.add_zero] at g0
          exact g0
        · rw [Deep.add_add] at g1
          exact g1
        · rw [Deep.add_add] at g2
          exact g2
    let g : Nat → Sc × Option Addr × Nat := fun i => if h : i < len then Classical.choose (each i h) else (s0, none, 0)
    have hg : ∀ i, i < len → (SlF W (g i).2.1 (g i).1.f (g i).2.2 ∧ Fine (g i).1) ∧ W.cell? (x.add (i * 3)) = some (.string (g i).1.s) ∧ W.cell? (x.add (i * 3 + 1)) = some (.int .i64 (g i).1.v) ∧ W.cell? (x.add (i * 3 + 2)) = some (.slice (g i).2.1 (g i).1.f.length (g i).2.2) := by
      intro i hi
      have e : g i = Classical.choose (each i hi) := dif_pos hi
      rw [e]
      exact Classical.choose_spec (each i hi)
    have hgl : (((List.range len).map g).map (·.1)).length = len := by simp
    refine ⟨((List.range len).map g).map (·.1), hgl, ⟨((List.range len).map g).flatMap encS, fun h0 => ?_, elems_s _ fun y hy => ?_⟩, by rw [hgl]; exact hl, (fun e => by cases e), hm⟩
    · have hl0 : 0 < len := by
        rcases Nat.eq_zero_or_pos len with e | e
        · subst e
          simp at h0
        · exact e
      obtain ⟨b, o, sp⟩ := x
      have hsp : sp = none := by simpa [Addr.add] using World.cell?_spot (hg 0 hl0).2.1
      subst hsp
      refine ⟨b, o, rfl, cells_s _ o fun i y hi => ?_⟩
      have hi2 : i < len := by
        have := (List.getElem?_eq_some_iff.1 hi).1
        simpa using this
      have hy : y = g i := by
        rw [List.getElem?_map, List.getElem?_range hi2] at hi
        simpa using hi.symm
      subst hy
      obtain ⟨_, g1, g2, g3⟩ := hg i hi2
      rw [Addr.add_lit] at g1 g2 g3
      exact ⟨g1, g2, g3⟩
    · obtain ⟨i, hi, rfl⟩ := List.mem_map.1 hy
      exact (hg i (List.mem_range.1 hi)).1
end Go.Proofs.Ytbmdkibmfkmjoaa.Op

namespace Go.Proofs.Ytbmdkibmfkmjoaa.Qy
open Go.RowKit Go.Proofs.Ytbmdkibmfkmjoaa.BM Go.Proofs.Ytbmdkibmfkmjoaa.LM Go.Proofs.Ytbmdkibmfkmjoaa.LeM Go.Proofs.Ytbmdkibmfkmjoaa.VaM Go.Proofs.Ytbmdkibmfkmjoaa.ExM Go.Proofs.Ytbmdkibmfkmjoaa.QyM
open Go.Proofs.Ytbmdkibmfkmjoaa.Ex (SlO slO_none)
open Go.Proofs.Ytbmdkibmfkmjoaa.Va (ret_v toList_beq)
open Go.Proofs.Ytbmdkibmfkmjoaa.Sc (SlS slS_none slS_len SlF)
open Go.Proofs.Ytbmdkibmfkmjoaa.ScM (Sc)
open Go.Proofs.Ytbmdkibmfkmjoaa.RgM (s0)

/-- By no schemas no query is right. -/
theorem check_nil (q : Q) : check [] q ≠ 0 := by
  intro h
  unfold check at h
  by_cases hm : RgM.May [] ∧ May q
  · rw [if_neg (fun k => k hm)] at h
    have hp : asksP [] q.p ≠ 0 := by
      have h1 := hm.2.1.1
      obtain ⟨x, p, hx⟩ : ∃ x p, q.p = x :: p := by
        cases hq : q.p with
        | nil => rw [hq] at h1; exact absurd h1 (by decide)
        | cons x p => exact ⟨x, p, rfl⟩
      rw [hx]
      intro e
      have h2 := asksP_zero.1 e x (List.mem_cons_self ..)
      have h3 : asks [] x.s x.f = 3 := asks_no rfl
      rw [asksS_no (by rw [h3]; intro k; exact absurd k.1 (by decide)), h3] at h2
      exact absurd h2 (by decide)
    rw [if_pos hp] at h
    exact hp h
  · rw [if_pos hm] at h
    exact absurd h (by decide)

theorem found_at {l : List Sc} {n : ByteArray} (h : (RgM.find l n).2 = true) : ∃ r, r < l.length ∧ (l.getD r s0).s = n := by
  cases ha : RgM.At l n with
  | none => rw [Rg.find_no ha] at h; cases h
  | some i =>
    obtain ⟨h1, h2, _⟩ := RgM.at_some.1 ha
    exact ⟨i, h1, h2⟩
theorem asks_found {l : List Sc} {n : ByteArray} {f : List O} (h : asks l n f = 0) : (RgM.find l n).2 = true := by
  cases hf : (RgM.find l n).2 with
  | true => rfl
  | false => rw [asks_no hf] at h; exact absurd h (by decide)

/-- Of a query that is right each step's names are there. -/
theorem check_names {l : List Sc} {q : Q} (h : check l q = 0) : (1 ≤ q.p.length ∧ q.p.length ≤ 4) ∧ ∀ j, j < q.p.length → (∃ r, r < l.length ∧ (l.getD r s0).s = (q.p.getD j t0).s) ∧ ((q.p.getD j t0).g = true → ∃ r, r < l.length ∧ (l.getD r s0).s = (q.p.getD j t0).t) := by
  by_cases hm : RgM.May l ∧ May q
  · refine ⟨hm.2.1, fun j hj => ?_⟩
    unfold check at h
    rw [if_neg (fun k => k hm)] at h
    have hp : asksP l q.p = 0 := by
      by_cases e : asksP l q.p = 0
      · exact e
      · rw [if_pos e] at h
        exact h
    have h1 := asksP_zero.1 hp _ (getD_mem hj)
    by_cases h2 : asks l (q.p.getD j t0).s (q.p.getD j t0).f = 0 ∧ (q.p.getD j t0).g = true
    · rw [asksS_yes h2.1 h2.2] at h1
      exact ⟨found_at (asks_found h2.1), fun _ => found_at (asks_found h1)⟩
    · rw [asksS_no h2] at h1
      exact ⟨found_at (asks_found h1), fun hg => absurd ⟨h1, hg⟩ h2⟩
  · rw [check_1 hm] at h
    exact absurd h (by decide)

set_option maxRecDepth 100000 in
set_option maxHeartbeats 16000000 in
theorem names_walk (la : Option Addr) (m lc : Nat) (qw qa qi qf : Int) (a : Option Addr) (n c : Nat) (w : World) (hl' : Op.ArgL w la m lc) (hq' : Op.ArgQ w qw qa qi qf a n c) :
    Calls Try.prog 4 #[.slice la m lc, .agg #[.slice a n c, .int .i64 qw, .int .i64 qa, .int .i64 qi, .int .i64 qf]] w fun e w' => e = .returned (.bool true) ∧ Below w.heap.size w w' := by
  obtain ⟨l, hlm, hS⟩ := hl'
  obtain ⟨p, hlen, hT, _⟩ := hq'
  have hml := slS_len hS
  have hnl := slSt_len hT
  have hF := fun W (hW : Below w.heap.size w W) => Few_any ⟨p, qw, qa, qi, qf⟩ a c W (hT.kept hW)
  have hG := fun W (hW : Below w.heap.size w W) => Rg.Few_any l la lc W (hS.kept hW)
  have hC0 := fun W (hW : Below w.heap.size w W) => Check_any [] ⟨p, qw, qa, qi, qf⟩ none 0 a c W (slS_none W) (hT.kept hW)
  have hCl := fun W (hW : Below w.heap.size w W) => Check_any l ⟨p, qw, qa, qi, qf⟩ la lc a c W (hS.kept hW) (hT.kept hW)
  have hn0 := check_nil ⟨p, qw, qa, qi, qf⟩
  have hnm : check l ⟨p, qw, qa, qi, qf⟩ = 0 → (1 ≤ n ∧ n ≤ 4) ∧ ∀ j, j < n → (∃ r, r < m ∧ (l.getD r s0).s = (p.getD j t0).s) ∧ ((p.getD j t0).g = true → ∃ r, r < m ∧ (l.getD r s0).s = (p.getD j t0).t) := fun h => by
    have h1 := check_names h
    simp only [hlen, hlm] at h1
    exact h1
  unfold agQ at hF hC0 hCl
  simp only [hlen, hlm, List.length_nil] at hF hG hC0 hCl
  obtain ⟨q, hq⟩ : ∃ q : Q, q = ⟨p, qw, qa, qi, qf⟩ := ⟨_, rfl⟩
  simp only [← hq] at hF hC0 hCl hn0 hnm
  obtain ⟨E0, hE0⟩ : ∃ E, E = check [] q := ⟨_, rfl⟩
  obtain ⟨El, hEl⟩ : ∃ E, E = check l q := ⟨_, rfl⟩
  rw [← hE0] at hn0
  simp only [← hE0] at hC0
  simp only [← hEl] at hCl hnm
  obtain ⟨P, hP⟩ : ∃ P, P = decide (Few q) := ⟨_, rfl⟩
  obtain ⟨Z, hZ⟩ : ∃ P, P = decide (Rg.Few l) := ⟨_, rfl⟩
  simp only [← hP] at hF
  simp only [← hZ] at hG
  rw [hlen] at hnl
  rw [hlm] at hml
  have g0 : (E0 == 0) = false := by simpa using hn0
  have HF := Lib.hid hF
  have HG := Lib.hid hG
  have HC0 := Lib.hid hC0
  have HCl := Lib.hid hCl
  have HNm := Lib.hid hnm
  have HS := Lib.hid hS
  have HT := Lib.hid hT
  have HLm := Lib.hid hlm
  have HLn := Lib.hid hlen
  have HX := Lib.hid (bxQ5_new w a n c qw qa qi qf)
  have HB := Lib.hid (below_box w a n c qw qa qi qf)
  clear hF hG hC0 hCl hnm hS hT hlm hlen hq hE0 hEl hP hZ hn0
  go_enter Try.func4, Try.ntmps4
  go_wp2_with fail
  refine (awake_any _).mono ?_
  rintro e w1 ⟨rfl, hb⟩
  have HX1 := Lib.hid (HX.out.kept hb)
  have HB1 := Lib.hid (bt HB.out hb)
  clear hb HX HB
  obtain ⟨p0, p1, p2, p3, p4⟩ := bx5 HX1.out
  go_wp2_with fail
  refine (HF.out _ HB1.out).mono ?_
  rintro e w2 ⟨rfl, hb⟩
  have HX2 := Lib.hid (HX1.out.kept hb)
  have HB2 := Lib.hid (bt HB1.out hb)
  clear hb HX1 HB1 p0 p1 p2 p3 p4 HF
  go_wp2_with fail
  refine (HG.out _ HB2.out).mono ?_
  rintro e w3 ⟨rfl, hb⟩
  have HX3 := Lib.hid (HX2.out.kept hb)
  have HB3 := Lib.hid (bt HB2.out hb)
  clear hb HX2 HB2 HG
  obtain ⟨p0, p1, p2, p3, p4⟩ := bx5 HX3.out
  cases P
  · go_wp2_with fail
    go_ret
    exact ⟨ret_bool (by first | rfl | simp), HB3.out⟩
  cases Z
  · go_wp2_with fail
    refine (HC0.out _ HB3.out).mono ?_
    rintro e w4 ⟨rfl, hb⟩
    have HB4 := Lib.hid (bt HB3.out hb)
    clear hb
    go_wp2_with fail
    go_ret
    exact ⟨ret_bool (by first | rfl | simp), HB4.out⟩
  go_wp2_with fail
  refine (HC0.out _ HB3.out).mono ?_
  rintro e w4 ⟨rfl, hb⟩
  have HX4 := Lib.hid (HX3.out.kept hb)
  have HB4 := Lib.hid (bt HB3.out hb)
  clear hb HX3 HB3 p0 p1 p2 p3 p4
  obtain ⟨p0, p1, p2, p3, p4⟩ := bx5 HX4.out
  go_wp2_with fail
  refine (HCl.out _ HB4.out).mono ?_
  rintro e w5 ⟨rfl, hb⟩
  have HX5 := Lib.hid (HX4.out.kept hb)
  have HB5 := Lib.hid (bt HB4.out hb)
  clear hb HX4 HB4 HC0 HCl p0 p1 p2 p3 p4
  by_cases hE : El = 0
  rotate_left
  · have g1 : (El != 0) = true := by simpa using hE
    clear hE
    go_wp2_with fail
    go_ret
    exact ⟨ret_bool (by first | rfl | simp), HB5.out⟩
  subst hE
  obtain ⟨h14, hnm⟩ := HNm.out rfl
  have HNs := Lib.hid hnm
  have hXk := fun W (h : Below w5.heap.size w5 W) => bx5 (HX5.out.kept h)
  have HXk := Lib.hid hXk
  have hm2 : m ≤ 9223372036854775806 ∨ m = 9223372036854775807 := by omega
  clear hnm hXk HX5 HNm hm2
  go_wp2_with fail
  go_loopw [8] (fun i wr => ∃ j : Nat, i = .int .i64 (j : Int) ∧ j ≤ n ∧ Below w5.heap.size w5 wr) (fun i _ => n - (intOf i).toNat)
  case atStart => exact ⟨0, rfl, Nat.zero_le _, Below.refl _ _⟩
  case round =>
    obtain ⟨j, rfl, hj, hbel⟩ := hrel
    have HBl := Lib.hid hbel
    obtain ⟨p0, p1, p2, p3, p4⟩ := HXk.out wr hbel
    clear hbel
    by_cases hjn : j < n
    · obtain ⟨hn1, hn2⟩ := HNs.out j hjn
      obtain ⟨b1, q1, A1, c1, C1, d1, hix, hc, _⟩ := HT.out.at j (by rw [HLn.out]; exact hjn)
      have hi := fun W => hix W n c hjn
      obtain ⟨x, hx⟩ : ∃ x, x = p.getD j t0 := ⟨_, rfl⟩
      have hcw := fun W (h : Below w5.heap.size w5 W) => (hc W (bt HB5.out h)).1
      simp only [← hx] at hcw
      rw [← hx] at hn1 hn2
      unfold CellSt at hcw
      obtain ⟨r0, hr0, hrs⟩ := hn1
      obtain ⟨xs, xf, lo, hi', xg, xt, xh⟩ := x
      simp only at hcw hrs hn2
      have HCw := Lib.hid hcw
      have HRs := Lib.hid hrs
      have HN2 := Lib.hid hn2
      obtain ⟨x0, x1, x2, x3, x4, x5, x6⟩ := hcw wr HBl.out
      clear hc hix hx hcw hrs hn2 x1 x2 x3 x6
      go_wp2_with fail
      go_loopw [9, 10, 11] (fun is nt k wr2 => ∃ (k2 : Nat) (z1 z2 : Bool), is = .bool z1 ∧ nt = .bool z2 ∧ k = .int .i64 (k2 : Int) ∧ k2 ≤ m ∧ (r0 < k2 → z1 = true) ∧ (xg = false → z2 = true) ∧ (∀ r1, (l.getD r1 s0).s = xt → r1 < k2 → z2 = true) ∧ Below w5.heap.size w5 wr2) (fun _ _ k _ => m - (intOf k).toNat)
      case atStart => exact ⟨0, false, !xg, rfl, rfl, rfl, Nat.zero_le _, (fun h => absurd h (Nat.not_lt_zero _)), (fun h => by rw [h]; rfl), (fun _ _ h => absurd h (Nat.not_lt_zero _)), HBl.out⟩
      case round =>
        obtain ⟨k2, z1, z2, rfl, rfl, rfl, hk2, hr1, hr2, hr3, hbel2⟩ := hrel
        have HBl2 := Lib.hid hbel2
        by_cases hkm : k2 < m
        · obtain ⟨bl', ql, Al, cl, hixl, hcl, _⟩ := HS.out.at k2 (by rw [HLm.out]; exact hkm)
          have hil := fun W => hixl W m lc hkm
          have hclw := fun W (h : Below w5.heap.size w5 W) => (hcl W (bt HB5.out h)).1.1
          obtain ⟨ls, hls⟩ : ∃ s, s = (l.getD k2 s0).s := ⟨_, rfl⟩
          simp only [← hls] at hclw
          obtain ⟨b1', hb1⟩ : ∃ z, (ls.toList == xs.toList) = z := ⟨_, rfl⟩
          obtain ⟨b2', hb2⟩ : ∃ z, (ls.toList == xt.toList) = z := ⟨_, rfl⟩
          have hnx : (r0 < k2 + 1 → (z1 || b1') = true) ∧ (xg = false → (z2 || b2') = true) ∧ (∀ r1, (l.getD r1 s0).s = xt → r1 < k2 + 1 → (z2 || b2') = true) := by
            refine ⟨fun h => ?_, fun h => ?_, fun r1 he h => ?_⟩
            · by_cases e : r0 = k2
              · have : b1' = true := by rw [← hb1, toList_beq, decide_eq_true_iff, hls, ← e]; exact HRs.out
                rw [this, Bool.or_true]
              · rw [hr1 (by omega), Bool.true_or]
            · rw [hr2 h, Bool.true_or]
            · by_cases e : r1 = k2
              · have : b2' = true := by rw [← hb2, toList_beq, decide_eq_true_iff, hls, ← e]; exact he
                rw [this, Bool.or_true]
              · rw [hr3 r1 he (by omega), Bool.true_or]
          have HNx := Lib.hid hnx
          have HClw := Lib.hid hclw
          clear hbel2 hr1 hr2 hr3 hixl hcl hls hnx hclw p0 p1 p2 p3 p4 x0 x4 x5
          cases z1 <;> cases z2
          all_goals
            go_wp2_with fail
            refine Reg.G_start (by kernel_rfl) (by repeat (first | with_reducible exact Reg.frameless_bodyPost | with_reducible refine Reg.frameless_then ?_ | with_reducible refine Reg.frameless_inBlock ?_ | refine Reg.frameless_then ?_ | refine Reg.frameless_inBlock ?_)) (fun W hW => ?_)
            have y0 := Reg.later_cell (Below.refl _ W) (HXk.out W (bt HBl2.out hW)).1
            have y1 := Reg.later_cell (Below.refl _ W) (HClw.out W (bt HBl2.out hW))
            have y2 := Reg.later_cell (Below.refl _ W) (HCw.out W (bt HBl2.out hW)).1
            first | (refine Reg.G_step (i := 0) rfl (by kernel_rfl) (by rfl) (fun K hK => ?_); go_big_quiet_op; refine hK _ ?_; clear hK K) | (refine Reg.G_skip (i := 0) rfl (by kernel_rfl) (by rfl) ?_; simp only [Act.put, List.setIfInBounds_toArray, List.set_cons_zero, List.set_cons_succ])
            first | (refine Reg.G_step (i := 1) rfl (by kernel_rfl) (by rfl) (fun K hK => ?_); go_big_quiet_op; refine hK _ ?_; clear hK K) | (refine Reg.G_skip (i := 1) rfl (by kernel_rfl) (by rfl) ?_; simp only [Act.put, List.setIfInBounds_toArray, List.set_cons_zero, List.set_cons_succ])
            first | (refine Reg.G_step (i := 2) rfl (by kernel_rfl) (by rfl) (fun K hK => ?_); go_big_quiet_op; refine hK _ ?_; clear hK K) | (refine Reg.G_skip (i := 2) rfl (by kernel_rfl) (by rfl) ?_; simp only [Act.put, List.setIfInBounds_toArray, List.set_cons_zero, List.set_cons_succ])
            first | (refine Reg.G_step (i := 3) rfl (by kernel_rfl) (by rfl) (fun K hK => ?_); go_big_quiet_op; refine hK _ ?_; clear hK K) | (refine Reg.G_skip (i := 3) rfl (by kernel_rfl) (by rfl) ?_; simp only [Act.put, List.setIfInBounds_toArray, List.set_cons_zero, List.set_cons_succ])
            first | (refine Reg.G_step (i := 4) rfl (by kernel_rfl) (by rfl) (fun K hK => ?_); go_big_quiet_op; refine hK _ ?_; clear hK K) | (refine Reg.G_skip (i := 4) rfl (by kernel_rfl) (by rfl) ?_; simp only [Act.put, List.setIfInBounds_toArray, List.set_cons_zero, List.set_cons_succ])
            first | (refine Reg.G_step (i := 5) rfl (by kernel_rfl) (by rfl) (fun K hK => ?_); go_big_quiet_op; refine hK _ ?_; clear hK K) | (refine Reg.G_skip (i := 5) rfl (by kernel_rfl) (by rfl) ?_; simp only [Act.put, List.setIfInBounds_toArray, List.set_cons_zero, List.set_cons_succ])
            first | (refine Reg.G_step (i := 6) rfl (by kernel_rfl) (by rfl) (fun K hK => ?_); go_big_quiet_op; refine hK _ ?_; clear hK K) | (refine Reg.G_skip (i := 6) rfl (by kernel_rfl) (by rfl) ?_; simp only [Act.put, List.setIfInBounds_toArray, List.set_cons_zero, List.set_cons_succ])
            first | (refine Reg.G_step (i := 7) rfl (by kernel_rfl) (by rfl) (fun K hK => ?_); go_big_quiet_op; refine hK _ ?_; clear hK K) | (refine Reg.G_skip (i := 7) rfl (by kernel_rfl) (by rfl) ?_; simp only [Act.put, List.setIfInBounds_toArray, List.set_cons_zero, List.set_cons_succ])
            first | (refine Reg.G_step (i := 8) rfl (by kernel_rfl) (by rfl) (fun K hK => ?_); go_big_quiet_op; refine hK _ ?_; clear hK K) | (refine Reg.G_skip (i := 8) rfl (by kernel_rfl) (by rfl) ?_; simp only [Act.put, List.setIfInBounds_toArray, List.set_cons_zero, List.set_cons_succ])
            first | (refine Reg.G_step (i := 9) rfl (by kernel_rfl) (by rfl) (fun K hK => ?_); go_big_quiet_op; refine hK _ ?_; clear hK K) | (refine Reg.G_skip (i := 9) rfl (by kernel_rfl) (by rfl) ?_; simp only [Act.put, List.setIfInBounds_toArray, List.set_cons_zero, List.set_cons_succ])
            first | (refine Reg.G_step (i := 10) rfl (by kernel_rfl) (by rfl) (fun K hK => ?_); go_big_quiet_op; refine hK _ ?_; clear hK K) | (refine Reg.G_skip (i := 10) rfl (by kernel_rfl) (by rfl) ?_; simp only [Act.put, List.setIfInBounds_toArray, List.set_cons_zero, List.set_cons_succ])
            first | (refine Reg.G_step (i := 11) rfl (by kernel_rfl) (by rfl) (fun K hK => ?_); go_big_quiet_op; refine hK _ ?_; clear hK K) | (refine Reg.G_skip (i := 11) rfl (by kernel_rfl) (by rfl) ?_; simp only [Act.put, List.setIfInBounds_toArray, List.set_cons_zero, List.set_cons_succ])
            first | (refine Reg.G_step (i := 12) rfl (by kernel_rfl) (by rfl) (fun K hK => ?_); go_big_quiet_op; refine hK _ ?_; clear hK K) | (refine Reg.G_skip (i := 12) rfl (by kernel_rfl) (by rfl) ?_; simp only [Act.put, List.setIfInBounds_toArray, List.set_cons_zero, List.set_cons_succ])
            first | (refine Reg.G_step (i := 13) rfl (by kernel_rfl) (by rfl) (fun K hK => ?_); go_big_quiet_op; refine hK _ ?_; clear hK K) | (refine Reg.G_skip (i := 13) rfl (by kernel_rfl) (by rfl) ?_; simp only [Act.put, List.setIfInBounds_toArray, List.set_cons_zero, List.set_cons_succ])
            first | (refine Reg.G_step (i := 14) rfl (by kernel_rfl) (by rfl) (fun K hK => ?_); go_big_quiet_op; refine hK _ ?_; clear hK K) | (refine Reg.G_skip (i := 14) rfl (by kernel_rfl) (by rfl) ?_; simp only [Act.put, List.setIfInBounds_toArray, List.set_cons_zero, List.set_cons_succ])
            first | (refine Reg.G_step (i := 15) rfl (by kernel_rfl) (by rfl) (fun K hK => ?_); go_big_quiet_op; refine hK _ ?_; clear hK K) | (refine Reg.G_skip (i := 15) rfl (by kernel_rfl) (by rfl) ?_; simp only [Act.put, List.setIfInBounds_toArray, List.set_cons_zero, List.set_cons_succ])
            refine Reg.G_done rfl ?_
            have HW1 := Lib.hid (bt HBl2.out hW)
            clear y0 y1 y2 hW
            go_wp2_with fail
            refine Reg.G_start (by kernel_rfl) (by repeat (first | with_reducible exact Reg.frameless_bodyPost | with_reducible refine Reg.frameless_then ?_ | with_reducible refine Reg.frameless_inBlock ?_ | refine Reg.frameless_then ?_ | refine Reg.frameless_inBlock ?_)) (fun V hV => ?_)
            have y0 := Reg.later_cell (Below.refl _ V) (HXk.out V (bt HW1.out hV)).1
            have y1 := Reg.later_cell (Below.refl _ V) (HClw.out V (bt HW1.out hV))
            have y2 := Reg.later_cell (Below.refl _ V) (HCw.out V (bt HW1.out hV)).2.2.2.2.2.1
            first | (refine Reg.G_step (i := 0) rfl (by kernel_rfl) (by rfl) (fun K hK => ?_); go_big_quiet_op; refine hK _ ?_; clear hK K) | (refine Reg.G_skip (i := 0) rfl (by kernel_rfl) (by rfl) ?_; simp only [Act.put, List.setIfInBounds_toArray, List.set_cons_zero, List.set_cons_succ])
            first | (refine Reg.G_step (i := 1) rfl (by kernel_rfl) (by rfl) (fun K hK => ?_); go_big_quiet_op; refine hK _ ?_; clear hK K) | (refine Reg.G_skip (i := 1) rfl (by kernel_rfl) (by rfl) ?_; simp only [Act.put, List.setIfInBounds_toArray, List.set_cons_zero, List.set_cons_succ])
            first | (refine Reg.G_step (i := 2) rfl (by kernel_rfl) (by rfl) (fun K hK => ?_); go_big_quiet_op; refine hK _ ?_; clear hK K) | (refine Reg.G_skip (i := 2) rfl (by kernel_rfl) (by rfl) ?_; simp only [Act.put, List.setIfInBounds_toArray, List.set_cons_zero, List.set_cons_succ])
            first | (refine Reg.G_step (i := 3) rfl (by kernel_rfl) (by rfl) (fun K hK => ?_); go_big_quiet_op; refine hK _ ?_; clear hK K) | (refine Reg.G_skip (i := 3) rfl (by kernel_rfl) (by rfl) ?_; simp only [Act.put, List.setIfInBounds_toArray, List.set_cons_zero, List.set_cons_succ])
            first | (refine Reg.G_step (i := 4) rfl (by kernel_rfl) (by rfl) (fun K hK => ?_); go_big_quiet_op; refine hK _ ?_; clear hK K) | (refine Reg.G_skip (i := 4) rfl (by kernel_rfl) (by rfl) ?_; simp only [Act.put, List.setIfInBounds_toArray, List.set_cons_zero, List.set_cons_succ])
            first | (refine Reg.G_step (i := 5) rfl (by kernel_rfl) (by rfl) (fun K hK => ?_); go_big_quiet_op; refine hK _ ?_; clear hK K) | (refine Reg.G_skip (i := 5) rfl (by kernel_rfl) (by rfl) ?_; simp only [Act.put, List.setIfInBounds_toArray, List.set_cons_zero, List.set_cons_succ])
            first | (refine Reg.G_step (i := 6) rfl (by kernel_rfl) (by rfl) (fun K hK => ?_); go_big_quiet_op; refine hK _ ?_; clear hK K) | (refine Reg.G_skip (i := 6) rfl (by kernel_rfl) (by rfl) ?_; simp only [Act.put, List.setIfInBounds_toArray, List.set_cons_zero, List.set_cons_succ])
            first | (refine Reg.G_step (i := 7) rfl (by kernel_rfl) (by rfl) (fun K hK => ?_); go_big_quiet_op; refine hK _ ?_; clear hK K) | (refine Reg.G_skip (i := 7) rfl (by kernel_rfl) (by rfl) ?_; simp only [Act.put, List.setIfInBounds_toArray, List.set_cons_zero, List.set_cons_succ])
            first | (refine Reg.G_step (i := 8) rfl (by kernel_rfl) (by rfl) (fun K hK => ?_); go_big_quiet_op; refine hK _ ?_; clear hK K) | (refine Reg.G_skip (i := 8) rfl (by kernel_rfl) (by rfl) ?_; simp only [Act.put, List.setIfInBounds_toArray, List.set_cons_zero, List.set_cons_succ])
            first | (refine Reg.G_step (i := 9) rfl (by kernel_rfl) (by rfl) (fun K hK => ?_); go_big_quiet_op; refine hK _ ?_; clear hK K) | (refine Reg.G_skip (i := 9) rfl (by kernel_rfl) (by rfl) ?_; simp only [Act.put, List.setIfInBounds_toArray, List.set_cons_zero, List.set_cons_succ])
            first | (refine Reg.G_step (i := 10) rfl (by kernel_rfl) (by rfl) (fun K hK => ?_); go_big_quiet_op; refine hK _ ?_; clear hK K) | (refine Reg.G_skip (i := 10) rfl (by kernel_rfl) (by rfl) ?_; simp only [Act.put, List.setIfInBounds_toArray, List.set_cons_zero, List.set_cons_succ])
            first | (refine Reg.G_step (i := 11) rfl (by kernel_rfl) (by rfl) (fun K hK => ?_); go_big_quiet_op; refine hK _ ?_; clear hK K) | (refine Reg.G_skip (i := 11) rfl (by kernel_rfl) (by rfl) ?_; simp only [Act.put, List.setIfInBounds_toArray, List.set_cons_zero, List.set_cons_succ])
            first | (refine Reg.G_step (i := 12) rfl (by kernel_rfl) (by rfl) (fun K hK => ?_); go_big_quiet_op; refine hK _ ?_; clear hK K) | (refine Reg.G_skip (i := 12) rfl (by kernel_rfl) (by rfl) ?_; simp only [Act.put, List.setIfInBounds_toArray, List.set_cons_zero, List.set_cons_succ])
            first | (refine Reg.G_step (i := 13) rfl (by kernel_rfl) (by rfl) (fun K hK => ?_); go_big_quiet_op; refine hK _ ?_; clear hK K) | (refine Reg.G_skip (i := 13) rfl (by kernel_rfl) (by rfl) ?_; simp only [Act.put, List.setIfInBounds_toArray, List.set_cons_zero, List.set_cons_succ])
            first | (refine Reg.G_step (i := 14) rfl (by kernel_rfl) (by rfl) (fun K hK => ?_); go_big_quiet_op; refine hK _ ?_; clear hK K) | (refine Reg.G_skip (i := 14) rfl (by kernel_rfl) (by rfl) ?_; simp only [Act.put, List.setIfInBounds_toArray, List.set_cons_zero, List.set_cons_succ])
            first | (refine Reg.G_step (i := 15) rfl (by kernel_rfl) (by rfl) (fun K hK => ?_); go_big_quiet_op; refine hK _ ?_; clear hK K) | (refine Reg.G_skip (i := 15) rfl (by kernel_rfl) (by rfl) ?_; simp only [Act.put, List.setIfInBounds_toArray, List.set_cons_zero, List.set_cons_succ])
            refine Reg.G_done rfl ?_
            have HV1 := Lib.hid (bt HW1.out hV)
            clear y0 y1 y2 hV
            go_wp2_with fail
            go_roundw
            case rel => exact ⟨k2 + 1, _, _, rfl, rfl, by go_num, by omega, HNx.out.1, HNx.out.2.1, HNx.out.2.2, HV1.out⟩
            case measure => simp [intOf]; omega
        · obtain rfl : k2 = m := by omega
          have e1 : z1 = true := hr1 hr0
          have e2 : z2 = true := by
            cases hg : xg with
            | false => exact hr2 hg
            | true =>
              obtain ⟨r1, h1, h2⟩ := HN2.out hg
              exact hr3 r1 h2 h1
          subst e1 e2
          clear hr1 hr2 hr3 hbel2
          go_wp2_with fail
          go_roundw
          case rel => exact ⟨j + 1, by go_num, by omega, HBl2.out⟩
          case measure => simp [intOf]; omega
    · obtain rfl : j = n := by omega
      have k1 : decide ((1 : Int) ≤ (j : Int)) = true := by rw [decide_eq_true_iff]; omega
      have k2 : decide ((j : Int) ≤ 4) = true := by rw [decide_eq_true_iff]; omega
      have k1' : decide (1 ≤ j) = true := by rw [decide_eq_true_iff]; omega
      have k2' : decide (j ≤ 4) = true := by rw [decide_eq_true_iff]; omega
      go_wp2_with fail
      go_ret
      exact ⟨ret_bool (by first | rfl | simp), bt HB5.out HBl.out⟩
end Go.Proofs.Ytbmdkibmfkmjoaa.Qy

namespace Go.Proofs.Ytbmdkibmfkmjoaa.queryNames
open Go.ChangeShapes Go.WideShapes Go.ChangeAt Go.RowKit

theorem own : ownKnob Try.prog.godebug = none := by kernel_rfl
theorem laidOut : laidOutB Try.prog = true := by kernel_rfl

set_option maxRecDepth 100000 in
theorem lifted (os : Os) (started : os.Started) (H : Type) (enc : TypeId × Value → H) :
    ReturnsInHanded {} Try.checked os 4 .any (Rows.queryNamesSpec.pre6 enc Try.prog Try.f4 Rows.queryNamesRow.domain false) (Rows.queryNamesSpec.post enc Try.prog Try.f4 false true false false) := by
  refine returnsInHanded_of_change (C := Try.checked) own started (by kernel_rfl) Try.func4
    (ChangeSpec.witness6 (enc := enc) (C := Try.checked) false ⟨#[], #[.slice none 0 0, .agg #[.slice none 0 0, .int .i64 0, .int .i64 0, .int .i64 0, .int .i64 0]], []⟩ 8 (by kernel_rfl) (by kernel_rfl) (by kernel_rfl) (by kernel_rfl)) ?_
  intro W base args ds gs before hval0 hW hcnd _
  have hval : ∀ (j : Nat) t v, Try.f4.params[j]? = some t → args[j]? = some v → Value.okWide Try.prog W .any base t v := hval0
  have hW' := hW
  obtain ⟨p, q, hA0, hV, rfl, hfz, hnd⟩ := hW
  have hA : DataW.TrodAll enc Try.prog W 0 (fun _ => true) true Try.f4.params.toList args.toList ds p := hA0
  rw [Try.params4] at hA hval
  obtain ⟨v0, vs0, d0, ds0, p0, q0, hargs, rfl, rfl, h0, r0⟩ := trodAll_cons hA
  obtain ⟨v1, vs1, d1, ds1, p1, q1, rfl, rfl, rfl, h1, r1⟩ := trodAll_cons r0
  obtain ⟨rfl, rfl, rfl⟩ := trodAll_nil r1
  obtain rfl : args = #[v0, v1] := by cases args; simp_all
  obtain ⟨rfl, rfl⟩ := trodVars_none hV
  have k0 := h0
  have lt0 : ∀ x ∈ p0, x.block < W.heap.size := by obtain ⟨m, hm⟩ := k0; exact DataW.trod_lt m _ _ _ hm
  obtain ⟨a0, len0, cap0, rfl, w0⟩ := Op.open_schemas (hval 0 34 v0 rfl rfl) h0
  have k1 := h1
  have lt1 : ∀ x ∈ p1, x.block < W.heap.size := by obtain ⟨m, hm⟩ := k1; exact DataW.trod_lt m _ _ _ hm
  obtain ⟨qw1, qa1, qi1, qf1, a1, len1, cap1, rfl, w1⟩ := Op.open_query (hval 1 24 v1 rfl rfl) h1
  clear hA0 hval0
  refine (Go.Proofs.Ytbmdkibmfkmjoaa.Qy.names_walk a0 len0 cap0 qw1 qa1 qi1 qf1 a1 len1 cap1 W w0 w1).mono fun e W' ⟨he, bel⟩ => ?_
  subst he
  exact ⟨_, rfl, _, _, _, [], _, [], hW', trodAll_mk1 (shut_bool Try.underlying4 _), (trodAll_cons_mk (Below.trod laidOut (by kernel_rfl) (of_decide_eq_true (by kernel_rfl)) k0 bel lt0) (trodAll_cons_mk (Below.trod laidOut (by kernel_rfl) (of_decide_eq_true (by kernel_rfl)) k1 bel lt1) trodAll_mk0)), rfl, bel.frame _, fun h => by cases h⟩

theorem over : Rows.queryNamesRow.holds Try.pinned (OpenSpec.ofChange Rows.queryNamesSpec) :=
  OpenClaim.holds_of_wide 4 Try.f4 rfl rfl rfl rfl rfl rfl rfl ⟨rfl, rfl, rfl, rfl, rfl⟩ rfl rfl rfl rfl rfl (by kernel_rfl) Try.func4 (by kernel_rfl)
    (of_decide_eq_true (by kernel_rfl)) (by unfold Func.isWrapper; first | (rw [if_pos (by decide +kernel)]; kernel_rfl) | (rw [if_neg (by decide +kernel)]; exact ⟨rfl, rfl⟩))
    (fun os started H enc _ => lifted os started H enc)

theorem proved : Rows.QueryNamesSaid := over
#print axioms proved
end Go.Proofs.Ytbmdkibmfkmjoaa.queryNames
