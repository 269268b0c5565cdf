/- QueryGrows: for every input the law returns true, and each argument reads afterwards as it read before. No condition.
  The walk is the theorem Go.Proofs.YtbmdkibmfkmjoaaGreat.Qy.grows_walk. -/
import Derived.Test.YtbmdkibmfkmjoaaGreatChA
import Derived.Test.YtbmdkibmfkmjoaaGreatChB
import Derived.Test.YtbmdkibmfkmjoaaGreatRegion
import Derived.BigQuiet
import Derived.Deep.QuietTactic
import Derived.Test.YtbmdkibmfkmjoaaGreatRows
import Derived.Lib.SmallJoins
import Derived.Deep.Slices
import Derived.ShutString
import Derived.OpenShut
import Derived.Test.YtbmdkibmfkmjoaaGreatChC
import Derived.WalkKit
import Derived.ProofKit
import Derived.ChangeOld
import Derived.Below

namespace Go.Proofs.YtbmdkibmfkmjoaaGreat.QyM
open Go.RowKit Go.Proofs.YtbmdkibmfkmjoaaGreat.BM Go.Proofs.YtbmdkibmfkmjoaaGreat.VaM Go.Proofs.YtbmdkibmfkmjoaaGreat.ExM
open Go.Proofs.YtbmdkibmfkmjoaaGreat.ScM (Sc Fit)
open Go.Proofs.YtbmdkibmfkmjoaaGreat.Qy (asksS_yes asksS_no check_1)

theorem step_more {vs ws : List V} {kinds : Bool} {o : O} {p q : List V} (h : ExM.step vs kinds o p = .ok q) : ExM.step (vs ++ ws) kinds o p = .ok q := by
  unfold ExM.step at h ⊢
  by_cases h0 : o.c = 0
  · rw [if_pos h0] at h ⊢
    exact h
  · rw [if_neg h0] at h ⊢
    by_cases h1 : o.c = 1
    · rw [if_pos h1] at h ⊢
      by_cases h2 : o.a.toNat < vs.length
      · rw [if_pos h2] at h
        rw [if_pos (by rw [List.length_append]; omega), List.getD_eq_getElem?_getD, List.getElem?_append_left h2, ← List.getD_eq_getElem?_getD]
        exact h
      · rw [if_neg h2] at h
        cases h
    · rw [if_neg h1] at h ⊢
      exact h

theorem run_more {vs ws : List V} {kinds : Bool} : ∀ {l : List O} {p q : List V}, run vs kinds l p = .ok q → run (vs ++ ws) kinds l p = .ok q
  | [], _, _, h => h
  | o :: l, p, q, h => by
    rw [run] at h ⊢
    cases hs : ExM.step vs kinds o p with
    | error e => rw [hs] at h; cases h
    | ok r =>
      rw [hs] at h
      rw [step_more hs]
      exact run_more h

theorem kind_more {o u : Sc} {f : List O} (hf : Fit o u) (h1 : (kind o f).1 = 1) : kind u f = kind o f := by
  obtain ⟨g1, g2, _, _, _, g6⟩ := hf
  by_cases hm : ScM.May o ∧ ExM.May f
  · have hk : kind o f = ((through (o.f.map fun f => kval f.k) f true).1.k, (through (o.f.map fun f => kval f.k) f true).2) := by rw [kind, if_neg (fun k => k hm)]
    have hu : kind u f = ((through (u.f.map fun f => kval f.k) f true).1.k, (through (u.f.map fun f => kval f.k) f true).2) := by rw [kind, if_neg (fun k => k ⟨g2, hm.2⟩)]
    rw [hk] at h1
    simp only at h1
    have e : u.f = o.f ++ u.f.drop o.f.length := by
      have h := List.take_append_drop o.f.length u.f
      rw [g6] at h
      exact h.symm
    have ht : through (u.f.map fun f => kval f.k) f true = through (o.f.map fun f => kval f.k) f true := by
      rw [e, List.map_append]
      unfold through at h1 ⊢
      cases hr : run (o.f.map fun f => kval f.k) true f [] with
      | error x =>
        rw [hr] at h1
        exact absurd h1 (show ¬ ((0 : Int) = 1) by decide)
      | ok r => rw [run_more hr]
    rw [hu, hk, ht]
  · rw [kind, if_pos hm] at h1
    exact absurd h1 (by decide)

theorem asks_is {l : List Sc} {n : ByteArray} {f : List O} (h : asks l n f = 0) : ∃ o, RgM.find l n = (o, true) ∧ (f = [] ∨ (kind o f).2 = 0 ∧ (kind o f).1 = 1) := by
  obtain ⟨⟨o, b⟩, hf⟩ : ∃ r, r = RgM.find l n := ⟨_, rfl⟩
  unfold asks at h
  rw [← hf] at h ⊢
  simp only at h
  cases b with
  | false =>
    rw [if_pos rfl] at h
    exact absurd h (by decide)
  | true =>
    refine ⟨o, rfl, ?_⟩
    rw [if_neg (by decide)] at h
    by_cases h1 : f = []
    · exact Or.inl h1
    · rw [if_neg h1] at h
      by_cases h2 : (kind o f).2 = 0 ∧ (kind o f).1 ≠ 1
      · rw [if_pos h2] at h
        exact absurd h (by decide)
      · rw [if_neg h2] at h
        refine Or.inr ⟨h, ?_⟩
        by_cases h3 : (kind o f).1 = 1
        · exact h3
        · exact absurd ⟨h, h3⟩ h2

theorem asks_more {l : List Sc} {s : Sc} (ha : (RgM.add l s).2 = 0) {n : ByteArray} {f : List O} (h : asks l n f = 0) : asks (RgM.add l s).1 n f = 0 := by
  obtain ⟨o, hf, hw⟩ := asks_is h
  obtain ⟨u, hu, hx⟩ := RgM.add_grows ha hf
  unfold asks
  rw [hu]
  simp only
  rw [if_neg (by decide)]
  rcases hw with h1 | ⟨h1, h2⟩
  · rw [if_pos h1]
  · have hk : kind u f = kind o f := by
      rcases hx with rfl | hx
      · rfl
      · exact kind_more hx h2
    by_cases h0 : f = []
    · rw [if_pos h0]
    · rw [if_neg h0, hk, if_neg (fun k => k.2 h2), h1]

theorem asksS_is {l : List Sc} {x : St} (h : asksS l x = 0) : asks l x.s x.f = 0 ∧ (x.g = true → asks l x.t x.h = 0) := by
  by_cases h1 : asks l x.s x.f = 0 ∧ x.g = true
  · rw [asksS_yes h1.1 h1.2] at h
    exact ⟨h1.1, fun _ => h⟩
  · rw [asksS_no h1] at h
    exact ⟨h, fun g => absurd ⟨h, g⟩ h1⟩

theorem check_more {l : List Sc} {s : Sc} (ha : (RgM.add l s).2 = 0) {q : Q} (h : check l q = 0) : check (RgM.add l s).1 q = 0 := by
  by_cases hm : RgM.May l ∧ May q
  · unfold check at h
    rw [if_neg (fun k => k hm)] at h
    by_cases hp : asksP l q.p = 0
    · rw [if_neg (fun k => k hp)] at h
      by_cases hb : aggBad l q
      · rw [if_pos hb] at h
        exact absurd h (by decide)
      · have hall := asksP_zero.1 hp
        have hp2 : asksP (RgM.add l s).1 q.p = 0 := asksP_zero.2 fun x hx => by
          obtain ⟨h1, h2⟩ := asksS_is (hall x hx)
          have h3 := asks_more ha h1
          by_cases hg : x.g = true
          · rw [asksS_yes h3 hg]
            exact asks_more ha (h2 hg)
          · rw [asksS_no (fun k => hg k.2)]
            exact h3
        have hb2 : ¬ aggBad (RgM.add l s).1 q := by
          intro hb2
          obtain ⟨_, _, _, h4, h5, _, _⟩ := hm.2
          have hi : q.i.toNat < q.p.length := by omega
          obtain ⟨o, hf, _⟩ := asks_is (asksS_is (hall _ (getD_mem hi))).1
          obtain ⟨u, hu, hx⟩ := RgM.add_grows ha hf
          refine hb ⟨hb2.1, ?_⟩
          have hno := hb2.2
          rw [hu] at hno
          rw [hf]
          simp only at hno ⊢
          intro hok
          refine hno ?_
          rcases hx with rfl | ⟨_, _, _, _, g5, g6⟩
          · exact hok
          · have hlt : q.f.toNat < o.f.length := by omega
            refine ⟨by omega, ?_⟩
            have e := hok.2
            rw [← g6, List.getD_eq_getElem?_getD, List.getElem?_take, if_pos hlt, ← List.getD_eq_getElem?_getD] at e
            exact e
        unfold check
        rw [if_neg (fun k => k ⟨(RgM.add_found ha).1, hm.2⟩), if_neg (fun k => k hp2), if_neg hb2]
    · rw [if_pos hp] at h
      exact absurd h hp
  · rw [check_1 hm] at h
    exact absurd h (by decide)
end Go.Proofs.YtbmdkibmfkmjoaaGreat.QyM

namespace Go.Proofs.YtbmdkibmfkmjoaaGreat.Sc
open Go.RowKit Go.Proofs.YtbmdkibmfkmjoaaGreat.BM Go.Proofs.YtbmdkibmfkmjoaaGreat.LeM Go.Proofs.YtbmdkibmfkmjoaaGreat.VaM Go.Proofs.YtbmdkibmfkmjoaaGreat.Va Go.Proofs.YtbmdkibmfkmjoaaGreat.ScM

/-- A schema of few fields. -/
def Few (s : Sc) : Prop := s.s.size ≤ 60 ∧ s.f.length ≤ 10 ∧ ∀ i, i < s.f.length → (s.f.getD i d0).s.size ≤ 60
instance (s : Sc) : Decidable (Few s) := by unfold Few; infer_instance

set_option maxRecDepth 100000 in
set_option maxHeartbeats 1000000 in
theorem Few_any (s : Sc) (A : Option Addr) (c : Nat) (w : World) (hS : SlF w A s.f c) (hz : s.s.size ≤ maxLen) :
    Calls Tryz.prog 17 #[.agg #[.string s.s, .int .i64 s.v, .slice A s.f.length c]] w fun e w' => e = .returned (.bool (decide (Few s))) ∧ Below w.heap.size w w' := by
  obtain ⟨nm, v, l⟩ := s
  simp only at hS hz ⊢
  unfold maxLen at hz
  have hl := slF_len hS
  have hfew : Few ⟨nm, v, l⟩ ↔ nm.size ≤ 60 ∧ l.length ≤ 10 ∧ ∀ i, i < l.length → (l.getD i d0).s.size ≤ 60 := Iff.rfl
  obtain ⟨n, hn⟩ : ∃ n, n = l.length := ⟨_, rfl⟩
  rw [← hn] at hl hfew ⊢
  have HLen := Lib.hid hn
  have HS := Lib.hid hS
  have HFew := Lib.hid hfew
  have HX0 := Lib.hid (bx_new_t w 40 (.string nm) (.int .i64 v) (.slice A n c))
  have HB0 := Lib.hid ((Below.refl w.heap.size w).alloc (Nat.le_refl _) (.cells #[.string nm, .int .i64 v, .slice A n c] 40))
  clear hn hS hfew
  obtain ⟨⟨p0, p1, p2⟩, _⟩ := HX0.out
  by_cases m1 : nm.size ≤ 60
  · have hd1 : decide ((60 : Int) < (nm.size : Int)) = false := by rw [decide_eq_false_iff_not]; omega
    by_cases m2 : n ≤ 10
    · have hd2 : decide ((10 : Int) < (n : Int)) = false := by rw [decide_eq_false_iff_not]; omega
      have HF := Lib.hid (show Few ⟨nm, v, l⟩ ↔ ∀ i, i < n → (l.getD i d0).s.size ≤ 60 from ⟨fun h => (HFew.out.1 h).2.2, fun h => HFew.out.2 ⟨m1, m2, h⟩⟩)
      clear m1 HFew
      go_enter Tryz.func17, Tryz.ntmps17
      go_wp2_with fail
      obtain ⟨w1, hw1⟩ : ∃ w1, w1 = w.alloc (.cells #[.string nm, .int .i64 v, .slice A n c] 40) := ⟨_, rfl⟩
      rw [← hw1] at HX0 HB0 ⊢
      clear hw1 p0 p1 p2
      go_loopw [3] (fun i wr => ∃ j : Nat, i = .int .i64 j ∧ j ≤ n ∧ (∀ r, r < j → (l.getD r d0).s.size ≤ 60) ∧ wr = w1) (fun i _ => n - (intOf i).toNat)
      case atStart => exact ⟨0, rfl, Nat.zero_le _, fun r hr => absurd hr (Nat.not_lt_zero r), rfl⟩
      case round =>
        obtain ⟨j, rfl, hj, hall, rfl⟩ := hrel
        have HAl := Lib.hid hall
        obtain ⟨⟨_, _, p2⟩, _⟩ := HX0.out
        clear hall
        by_cases hjn : j < n
        · obtain ⟨b, q, hix, hc, hsz⟩ := HS.out.at j (by rw [← HLen.out]; exact hjn)
          obtain ⟨⟨fs, fk⟩, hf⟩ : ∃ f, f = l.getD j d0 := ⟨_, rfl⟩
          rw [← hf] at hc hsz
          obtain ⟨c0, _⟩ := hc wr HB0.out
          simp only at c0 hsz
          unfold maxLen at hsz
          have hi := fun W => hix W n c hjn
          have HFl := Lib.hid hf
          clear hc hix hf
          by_cases h60 : fs.size ≤ 60
          · have hd3 : decide ((60 : Int) < (fs.size : Int)) = false := by rw [decide_eq_false_iff_not]; omega
            have HY := Lib.hid h60
            clear h60
            go_wp2_with fail
            go_roundw
            case rel =>
              refine ⟨j + 1, by go_num, by omega, fun r hr => ?_, by trivial⟩
              by_cases e : r = j
              · rw [e, ← HFl.out]
                exact HY.out
              · exact HAl.out r (by omega)
            case measure => simp [intOf]; omega
          · have hd3 : decide ((60 : Int) < (fs.size : Int)) = true := by rw [decide_eq_true_iff]; omega
            have HNo := Lib.hid (show ¬ Few ⟨nm, v, l⟩ from fun h => h60 (by have := HF.out.1 h j hjn; rw [← HFl.out] at this; exact this))
            clear h60
            go_wp2_with fail
            go_ret
            exact ⟨ret_v (x := .bool false) (by rw [decide_eq_false HNo.out]), HB0.out⟩
        · obtain rfl : j = n := by omega
          have HYes := Lib.hid (HF.out.2 HAl.out)
          go_wp2_with fail
          go_ret
          exact ⟨ret_v (x := .bool true) (by rw [decide_eq_true HYes.out]), HB0.out⟩
    · have hd2 : decide ((10 : Int) < (n : Int)) = true := by rw [decide_eq_true_iff]; omega
      have HNo := Lib.hid (show ¬ Few ⟨nm, v, l⟩ from fun h => m2 (HFew.out.1 h).2.1)
      clear m2 m1
      go_enter Tryz.func17, Tryz.ntmps17
      go_wp2_with fail
      go_ret
      exact ⟨ret_v (x := .bool false) (by rw [decide_eq_false HNo.out]), HB0.out⟩
  · have hd1 : decide ((60 : Int) < (nm.size : Int)) = true := by rw [decide_eq_true_iff]; omega
    have HNo := Lib.hid (show ¬ Few ⟨nm, v, l⟩ from fun h => m1 (HFew.out.1 h).1)
    clear m1
    go_enter Tryz.func17, Tryz.ntmps17
    go_wp2_with fail
    go_ret
    exact ⟨ret_v (x := .bool false) (by rw [decide_eq_false HNo.out]), HB0.out⟩
end Go.Proofs.YtbmdkibmfkmjoaaGreat.Sc

namespace Go.Proofs.YtbmdkibmfkmjoaaGreat.Rg
open Go.RowKit Go.Proofs.YtbmdkibmfkmjoaaGreat.BM Go.Proofs.YtbmdkibmfkmjoaaGreat.LeM Go.Proofs.YtbmdkibmfkmjoaaGreat.VaM Go.Proofs.YtbmdkibmfkmjoaaGreat.Va Go.Proofs.YtbmdkibmfkmjoaaGreat.Sc Go.Proofs.YtbmdkibmfkmjoaaGreat.RgM
open Go.Proofs.YtbmdkibmfkmjoaaGreat.ScM (Sc)

/-- Few schemas, of few fields. -/
def Few (l : List Sc) : Prop := l.length ≤ 12 ∧ ∀ i, i < l.length → Sc.Few (l.getD i s0)
instance (l : List Sc) : Decidable (Few l) := by unfold Few; infer_instance

set_option maxRecDepth 100000 in
set_option maxHeartbeats 1000000 in
theorem Few_any (l : List Sc) (A : Option Addr) (c : Nat) (w : World) (hS : SlS w A l c) :
    Calls Tryz.prog 8 #[.slice A l.length c] w fun e w' => e = .returned (.bool (decide (Few l))) ∧ Below w.heap.size w w' := by
  have hl := slS_len hS
  have hfew : Few l ↔ l.length ≤ 12 ∧ ∀ i, i < l.length → Sc.Few (l.getD i s0) := Iff.rfl
  obtain ⟨n, hn⟩ : ∃ n, n = l.length := ⟨_, rfl⟩
  rw [← hn] at hl hfew ⊢
  have HLen := Lib.hid hn
  have HS := Lib.hid hS
  have HFew := Lib.hid hfew
  clear hn hS hfew
  by_cases m1 : n ≤ 12
  · have hd1 : decide ((12 : Int) < (n : Int)) = false := by rw [decide_eq_false_iff_not]; omega
    have HF := Lib.hid (show Few l ↔ ∀ i, i < n → Sc.Few (l.getD i s0) from ⟨fun h => (HFew.out.1 h).2, fun h => HFew.out.2 ⟨m1, h⟩⟩)
    clear m1 HFew
    go_enter Tryz.func8, Tryz.ntmps8
    go_wp2_with fail
    go_loopw [3] (fun i wr => ∃ j : Nat, i = .int .i64 j ∧ j ≤ n ∧ (∀ r, r < j → Sc.Few (l.getD r s0)) ∧ Below w.heap.size w wr) (fun i _ => n - (intOf i).toNat)
    case atStart => exact ⟨0, rfl, Nat.zero_le _, fun r hr => absurd hr (Nat.not_lt_zero r), Below.refl _ _⟩
    case round =>
      obtain ⟨j, rfl, hj, hall, hbel⟩ := hrel
      have HAl := Lib.hid hall
      have HBl := Lib.hid hbel
      clear hall hbel
      by_cases hjn : j < n
      · obtain ⟨b, q, A1, c1, hix, hc, hfine⟩ := HS.out.at j (by rw [← HLen.out]; exact hjn)
        obtain ⟨f, hf⟩ : ∃ f, f = l.getD j s0 := ⟨_, rfl⟩
        rw [← hf] at hc hfine
        obtain ⟨⟨x0, x1, x2⟩, y0⟩ := hc wr HBl.out
        have HF5 := Lib.hid (Sc.Few_any f A1 c1 wr y0 hfine.1)
        have hi := fun W => hix W n c hjn
        have HFl := Lib.hid hf
        clear hc hix hf hfine y0
        obtain ⟨fs, fv, ff⟩ := f
        simp only at x0 x1 x2 HF5
        obtain ⟨k, hk⟩ : ∃ k, k = ff.length := ⟨_, rfl⟩
        rw [← hk] at x2 HF5
        clear hk
        go_wp2_with fail
        refine HF5.out.mono ?_
        rintro e w2 ⟨rfl, hb2⟩
        have HB2 := Lib.hid (bt HBl.out hb2)
        clear hb2 x0 x1 x2 hi
        by_cases hok : Sc.Few ⟨fs, fv, ff⟩
        · rw [decide_eq_true hok]
          have HOk := Lib.hid hok
          clear hok
          go_wp2_with fail
          go_roundw
          case rel =>
            refine ⟨j + 1, by go_num, by omega, fun r hr => ?_, HB2.out⟩
            by_cases e : r = j
            · rw [e, ← HFl.out]
              exact HOk.out
            · exact HAl.out r (by omega)
          case measure => simp [intOf]; omega
        · rw [decide_eq_false hok]
          have HNo := Lib.hid (show ¬ Few l from fun h => hok (by have := HF.out.1 h j hjn; rw [← HFl.out] at this; exact this))
          clear hok
          go_wp2_with fail
          go_ret
          exact ⟨ret_v (x := .bool false) (by rw [decide_eq_false HNo.out]), HB2.out⟩
      · obtain rfl : j = n := by omega
        have HYes := Lib.hid (HF.out.2 HAl.out)
        go_wp2_with fail
        go_ret
        exact ⟨ret_v (x := .bool true) (by rw [decide_eq_true HYes.out]), HBl.out⟩
  · have hd1 : decide ((12 : Int) < (n : Int)) = true := by rw [decide_eq_true_iff]; omega
    have HNo := Lib.hid (show ¬ Few l from fun h => m1 (HFew.out.1 h).1)
    clear m1
    go_enter Tryz.func8, Tryz.ntmps8
    go_wp2_with fail
    go_ret
    exact ⟨ret_v (x := .bool false) (by rw [decide_eq_false HNo.out]), Below.refl _ _⟩
end Go.Proofs.YtbmdkibmfkmjoaaGreat.Rg

namespace Go.Proofs.YtbmdkibmfkmjoaaGreat.Rg
open Go.RowKit Go.Proofs.YtbmdkibmfkmjoaaGreat.BM Go.Proofs.YtbmdkibmfkmjoaaGreat.LM Go.Proofs.YtbmdkibmfkmjoaaGreat.VaM Go.Proofs.YtbmdkibmfkmjoaaGreat.Va Go.Proofs.YtbmdkibmfkmjoaaGreat.Sc Go.Proofs.YtbmdkibmfkmjoaaGreat.RgM
open Go.Proofs.YtbmdkibmfkmjoaaGreat.ScM (Sc Fit)

/-- What comes of one more, as an answer. -/
def Added (l : List Sc) (s : Sc) (w : World) (e : Ending) (w' : World) : Prop :=
  ∃ A c, e = .returned (.tuple #[.slice A (add l s).1.length c, .int .i64 (add l s).2]) ∧ SlS w' A (add l s).1 c ∧ Below w.heap.size w w'

theorem added_err {l : List Sc} {s : Sc} {k : Int} {w w' : World} (h : add l s = ([], k)) (hb : Below w.heap.size w w') : Added l s w (.returned (.tuple #[.slice none 0 0, .int .i64 k])) w' := by
  refine ⟨none, 0, ?_, ?_, hb⟩
  · rw [h]
    rfl
  · rw [h]
    exact slS_none _
end Go.Proofs.YtbmdkibmfkmjoaaGreat.Rg

namespace Go.Proofs.YtbmdkibmfkmjoaaGreat.Rg
open Go.RowKit Go.Proofs.YtbmdkibmfkmjoaaGreat.BM Go.Proofs.YtbmdkibmfkmjoaaGreat.LM Go.Proofs.YtbmdkibmfkmjoaaGreat.VaM Go.Proofs.YtbmdkibmfkmjoaaGreat.Va Go.Proofs.YtbmdkibmfkmjoaaGreat.Sc Go.Proofs.YtbmdkibmfkmjoaaGreat.RgM
open Go.Proofs.YtbmdkibmfkmjoaaGreat.ScM (Sc)

set_option maxRecDepth 100000 in
set_option maxHeartbeats 4000000 in
theorem ownAll_any (l : List Sc) (A : Option Addr) (c : Nat) (w : World) (hS : SlS w A l c) (hr : RoomL l) (hlen : l.length ≤ 1000) :
    Calls Tryz.prog 71 #[.slice A l.length c] w fun e w' => ∃ u us, e = .returned u ∧ OwnL w.heap.size l us l.length u w' ∧ Below w.heap.size w w' := by
  unfold RoomL at hr
  have htk := fun j => @take_snocS l j
  have hall : l.take l.length = l := List.take_length
  obtain ⟨n, hn⟩ : ∃ n, n = l.length := ⟨_, rfl⟩
  rw [← hn] at hlen hr hall ⊢
  simp only [← hn] at htk
  have HLen := Lib.hid hn
  have HS := Lib.hid hS
  have HRm := Lib.hid hr
  have HTk := Lib.hid htk
  have HAll := Lib.hid hall
  clear hn hS hr htk hall
  obtain ⟨i0, hi, hz0, hz1, hz2⟩ := info_parts tyS.info
  obtain ⟨w1, hmk, hown1, hg1⟩ := run_make_own (P := Tryz.prog) w w.heap.size 22 40 i0 _ 3 tyS.und hi hz0 hz1 .i64 .i64 n (by rw [hz2]; omega) (by unfold maxLen; omega) (Nat.le_refl _)
  have HB1 := Lib.hid ((Below.refl w.heap.size w).grown hg1 (Nat.le_refl _) (fun _ h => by cases h))
  obtain ⟨u1, hu1⟩ : ∃ u, u = (Value.slice (some ⟨w.heap.size, 0, none⟩) 0 n) := ⟨_, rfl⟩
  rw [← hu1] at hmk hown1
  have HO1 := Lib.hid (show OwnL w.heap.size (l.take 0) [] 0 u1 w1 from ⟨hown1, rfl⟩)
  clear hi hz0 hz1 hz2 hown1 hg1 hu1
  go_enter Tryz.func71, Tryz.ntmps71
  go_wp2_with fail
  clear hmk
  go_loopw [3, 11] (fun u i wr => ∃ (j : Nat) (us : List Value), i = .int .i64 j ∧ j ≤ n ∧ OwnL w.heap.size (l.take j) us j u wr ∧ Below w.heap.size w wr) (fun _ i _ => n - (intOf i).toNat)
  case atStart => exact ⟨0, [], rfl, Nat.zero_le _, HO1.out, HB1.out⟩
  case round =>
    obtain ⟨j, us, rfl, hj, hown, hbel⟩ := hrel
    have HO := Lib.hid hown
    have HBl := Lib.hid hbel
    clear hown hbel
    by_cases hjn : j < n
    · obtain ⟨b, q, A1, c1, hix, hc, hfine⟩ := HS.out.at j (by rw [← HLen.out]; exact hjn)
      have hrm := HRm.out j hjn
      have htk := HTk.out j hjn
      obtain ⟨f, hf⟩ : ∃ f, f = l.getD j s0 := ⟨_, rfl⟩
      rw [← hf] at hc hfine hrm htk
      have HTj := Lib.hid htk
      obtain ⟨⟨x0, x1, x2⟩, _⟩ := hc wr HBl.out
      have hi := fun W => hix W n c hjn
      have HOw := Lib.hid (fun W (h : Below w.heap.size w W) => own_any f A1 c1 W (hc W h).2 hrm)
      have HRel := Lib.hid (fun (W : World) (T : Option Addr) (d H : Nat) (v : Value) (h : Own H W T f.f d) (hv : ∀ b, v.ownBlock = some b → b < H) => relS_own h hfine hv)
      clear hc hix hf hrm htk hfine
      obtain ⟨fs, fv, ff⟩ := f
      simp only at x0 x1 x2 HOw HRel
      obtain ⟨k, hk⟩ : ∃ k, k = ff.length := ⟨_, rfl⟩
      simp only [← hk] at x2 HOw HRel
      clear hk
      have ha := (Below.refl wr.heap.size wr).alloc (Nat.le_refl _) (.cells #[.string fs, .int .i64 fv, .slice A1 k c1] 40)
      have HX2 := Lib.hid (bx_new_t wr 40 (.string fs) (.int .i64 fv) (.slice A1 k c1))
      have HB2 := Lib.hid (bt HBl.out ha)
      have HO2 := Lib.hid (HO.out.kept ha)
      obtain ⟨⟨p0, p1, p2⟩, _⟩ := HX2.out
      clear ha
      go_wp2_with fail
      obtain ⟨w2, hw2⟩ : ∃ w2, w2 = wr.alloc (.cells #[.string fs, .int .i64 fv, .slice A1 k c1] 40) := ⟨_, rfl⟩
      rw [← hw2] at HB2 HO2 ⊢
      clear hw2 HX2 p0 p1 p2 x0 x1 x2 HO
      refine (HOw.out w2 HB2.out).mono ?_
      rintro e w3 ⟨A3, c3, rfl, hO3, hb3⟩
      have hlt := own_lt HO2.out.1
      have hr3 := HRel.out w3 A3 c3 w2.heap.size _ hO3 hlt
      have ha3 := (Below.refl w3.heap.size w3).alloc (Nat.le_refl _) (.cells #[.string fs, .int .i64 fv, .slice A3 k c3] 40)
      have HNew := Lib.hid (RG.elem_new w3 40 (K := KS) (⟨fs, fv, ff⟩ : Sc) _ hr3)
      have HO4 := Lib.hid (HO2.out.kept (bt hb3 ha3))
      have HB4 := Lib.hid (bt HB2.out (bt hb3 ha3))
      have hz := HB4.out.size
      clear hO3 hb3 hlt hr3 ha3 HB2 HO2 HRel HOw
      go_wp2_with (at_builtin; refine tyS.wp_append (K := KS) (fun _ => True) rfl (.tmp 15) (.tmp 18) rfl w.heap.size _ j us (l.take j) rfl HO4.out.1 HO4.out.2 (some ⟨w3.heap.size, 0, none⟩) 1 1 _ [⟨fs, fv, ff⟩] rfl rfl HNew.out.1 HNew.out.2 (fun h => by cases h) (by omega) hz ?_; intro u7 w7 hown7 hel7 hgrow7; refine pause ?_)
      have HB7 := Lib.hid (HB4.out.grown hgrow7 hz (fun q hq => own_base HO4.out.1 q hq))
      rw [← HTj.out] at hel7
      have HO7 := Lib.hid (show OwnL w.heap.size (l.take (j + 1)) _ (j + 1) u7 w7 from ⟨hown7, hel7⟩)
      clear hown7 hel7 hgrow7 HO4 HB4 HNew
      unfold Pause
      go_wp2_with fail
      go_roundw
      case rel => exact ⟨j + 1, _, by go_num, by omega, HO7.out, HB7.out⟩
      case measure => simp [intOf]; omega
    · obtain rfl : j = n := by omega
      rw [HAll.out] at HO
      go_wp2_with fail
      go_ret
      exact ⟨_, us, rfl, HO.out, HBl.out⟩
end Go.Proofs.YtbmdkibmfkmjoaaGreat.Rg

namespace Go.Proofs.YtbmdkibmfkmjoaaGreat.Rg
open Go.RowKit Go.Proofs.YtbmdkibmfkmjoaaGreat.BM Go.Proofs.YtbmdkibmfkmjoaaGreat.LM Go.Proofs.YtbmdkibmfkmjoaaGreat.VaM Go.Proofs.YtbmdkibmfkmjoaaGreat.Va Go.Proofs.YtbmdkibmfkmjoaaGreat.Sc Go.Proofs.YtbmdkibmfkmjoaaGreat.RgM
open Go.Proofs.YtbmdkibmfkmjoaaGreat.ScM (Sc Fit)

set_option maxRecDepth 100000 in
set_option maxHeartbeats 4000000 in
theorem addNew_any (l : List Sc) (s : Sc) (A : Option Addr) (c : Nat) (B : Option Addr) (d : Nat) (w : World) (hS : SlS w A l c) (hF : SlF w B s.f d) (hz : Fine s) (hm : May l ∧ ScM.May s) (hat : At l s.s = none) :
    Calls Tryz.prog 43 #[.slice A l.length c, .agg #[.string s.s, .int .i64 s.v, .slice B s.f.length d]] w (Added l s w) := by
  have hl := slS_len hS
  have hall := fun W (h : Below w.heap.size w W) => ownAll_any l A c W (hS.kept h) (roomL_may hm.1) (Nat.le_trans hm.1.2 (by decide))
  have hown := fun W (h : Below w.heap.size w W) => own_any s B d W (hF.kept h) (room_may hm.2)
  have hro := fun (W : World) (T : Option Addr) (t H : Nat) (v : Value) (h : Own H W T s.f t) (hv : ∀ b, v.ownBlock = some b → b < H) => relS_own h hz hv
  have haddn := @add_none l s hm hat
  have hn8 := hm.1.2
  have HAll := Lib.hid hall
  have HOwn := Lib.hid hown
  have HRo := Lib.hid hro
  clear hall hown hro hS hF hz hm hat
  obtain ⟨nm, v, f⟩ := s
  simp only at HOwn HRo haddn ⊢
  obtain ⟨k, hk⟩ : ∃ k, k = f.length := ⟨_, rfl⟩
  obtain ⟨n, hn⟩ : ∃ n, n = l.length := ⟨_, rfl⟩
  simp only [← hk] at HOwn HRo
  simp only [← hn] at HAll haddn hl hn8
  rw [← hk, ← hn]
  clear hk hn
  have HX4 := Lib.hid (bx_new_t w 40 (.string nm) (.int .i64 v) (.slice B k d))
  have HB4 := Lib.hid ((Below.refl w.heap.size w).alloc (Nat.le_refl _) (.cells #[.string nm, .int .i64 v, .slice B k d] 40))
  obtain ⟨⟨p0, p1, p2⟩, _⟩ := HX4.out
  by_cases hv : v = 1
  · subst hv
    rw [if_neg (fun h => h rfl)] at haddn
    by_cases h8 : 8 ≤ n
    · obtain rfl : n = 8 := by omega
      rw [if_pos h8] at haddn
      have HErr := Lib.hid haddn
      clear haddn h8 hn8
      go_enter Tryz.func43, Tryz.ntmps43
      go_wp2_with fail
      exact bodyPost_ret (v := .tuple #[.slice none 0 0, .int .i64 7]) (by simp [results, Tryz.results43, go_sem]) rfl (added_err HErr.out HB4.out)
    · have hd : ((n : Int) == 8) = false := by rw [beq_eq_false_iff_ne]; omega
      rw [if_neg h8] at haddn
      have HAdd := Lib.hid haddn
      clear haddn h8
      go_enter Tryz.func43, Tryz.ntmps43
      go_wp2_with fail
      obtain ⟨w4, hw4⟩ : ∃ w4, w4 = w.alloc (.cells #[.string nm, .int .i64 1, .slice B k d] 40) := ⟨_, rfl⟩
      rw [← hw4] at HX4 HB4 ⊢
      clear hw4 p0 p1 p2
      refine RegB.GS_start (fun x => Below w4.heap.size w4 x) (by kernel_rfl) (by repeat (first | exact Reg.frameless_bodyPost | refine Reg.frameless_then ?_ | refine Reg.frameless_inBlock ?_)) (fun W hW => hW) (fun W hW => ?_)
      have HW := Lib.hid hW
      have x0 : ∀ x : RegB.At (fun x => Below w4.heap.size w4 x), x.world.cell? ⟨w.heap.size, 0, none⟩ = some (.string nm) := fun x => (HX4.out.kept x.ok).1.1
      have x1 : ∀ x : RegB.At (fun x => Below w4.heap.size w4 x), x.world.cell? ⟨w.heap.size, 1, none⟩ = some (.int .i64 1) := fun x => (HX4.out.kept x.ok).1.2.1
      have x2 : ∀ x : RegB.At (fun x => Below w4.heap.size w4 x), x.world.cell? ⟨w.heap.size, 2, none⟩ = some (.slice B k d) := fun x => (HX4.out.kept x.ok).1.2.2
      haveI : Nonempty (RegB.At (fun x => Below w4.heap.size w4 x)) := ⟨⟨W, hW⟩⟩
      clear hW
      first | (refine RegB.GS_step (i := 0) rfl (by kernel_rfl) (by rfl) (fun K hK => ?_); go_big_quiet_op; refine hK _ ?_; clear hK K)
      first | (refine RegB.GS_step (i := 2) rfl (by kernel_rfl) (by rfl) (fun K hK => ?_); go_big_quiet_op; refine hK _ ?_; clear hK K)
      refine RegB.GS_event (i := 1) rfl (by kernel_rfl) (by rfl) (fun K hK => ?_)
      go_simp
      refine (HAll.out _ (bt HB4.out HW.out)).mono ?_
      rintro e w5 ⟨u5, us, rfl, ho5, hb5⟩
      refine hK _ _ (bt HW.out hb5) ?_
      clear hK K
      refine RegB.GS_event (i := 3) rfl (by kernel_rfl) (by rfl) (fun K hK => ?_)
      go_simp
      refine (HOwn.out _ (bt HB4.out (bt HW.out hb5))).mono ?_
      rintro e w6 ⟨A6, c6, rfl, ho6, hb6⟩
      refine hK _ _ (bt HW.out (bt hb5 hb6)) ?_
      clear hK K
      refine RegB.GS_event (i := 4) rfl (by kernel_rfl) (by rfl) (fun K hK => ?_)
      go_simp
      have ha7 := (Below.refl w6.heap.size w6).alloc (Nat.le_refl _) (.cells #[.string nm, .int .i64 1, .slice A6 k c6] 40)
      refine hK _ _ (bt HW.out (bt hb5 (bt hb6 ha7))) ?_
      clear hK K
      have hr := HRo.out w6 A6 c6 w5.heap.size u5 ho6 (own_lt ho5.1)
      have HNew := Lib.hid (RG.elem_new w6 40 (K := KS) (⟨nm, 1, f⟩ : Sc) _ hr)
      have HO := Lib.hid (ho5.kept (bt hb6 ha7))
      have HBel := Lib.hid (bt HW.out (bt hb5 (bt hb6 ha7)))
      have HH4 := Lib.hid (show w4.heap.size ≤ W.heap.size from HW.out.size)
      have hbz : W.heap.size ≤ (w6.alloc (.cells #[.string nm, .int .i64 1, .slice A6 k c6] 40)).heap.size := (bt hb5 (bt hb6 ha7)).size
      obtain ⟨base, hbase⟩ : ∃ b, b = W.heap.size := ⟨_, rfl⟩
      rw [← hbase] at HO HH4 hbz
      obtain ⟨g5, hg5⟩ : ∃ g, g = w6.heap.size := ⟨_, rfl⟩
      obtain ⟨w7, hw7⟩ : ∃ w7, w7 = w6.alloc (.cells #[.string nm, .int .i64 1, .slice A6 k c6] 40) := ⟨_, rfl⟩
      simp only [List.toArray] at HNew
      rw [← hw7] at HNew HO HBel hbz ⊢
      rw [← hg5] at HNew ⊢
      clear hr ho5 hb5 ho6 hb6 ha7 hbase hg5 hw7
      refine RegB.GS_event (i := 5) rfl (by kernel_rfl) (by rfl) (fun K hK => ?_)
      refine tyS.op_append (K := KS) (fun _ => True) (.tmp 15) (.tmp 18) rfl base u5 n us l rfl HO.out.1 HO.out.2 (some ⟨g5, 0, none⟩) 1 1 _ [⟨nm, 1, f⟩] rfl rfl HNew.out.1 HNew.out.2 (fun h => by cases h) (by omega) hbz ?_
      intro u8 w8 hown8 hel8 hgrow8
      have hb8 := HBel.out.grown hgrow8 HBel.out.size (fun q hq => by have := own_base HO.out.1 q hq; have := HH4.out; omega)
      refine hK _ _ hb8 ?_
      clear hK K
      simp only [Act.put, List.setIfInBounds_toArray, List.set_cons_zero, List.set_cons_succ]
      first | (refine RegB.GS_step (i := 6) rfl (by kernel_rfl) (by rfl) (fun K hK => ?_); go_big_quiet_op; refine hK _ ?_; clear hK K)
      first | (refine RegB.GS_step (i := 7) rfl (by kernel_rfl) (by rfl) (fun K hK => ?_); go_big_quiet_op; refine hK _ ?_; clear hK K)
      refine RegB.GS_done (by kernel_rfl) ?_
      obtain ⟨A8, c8, hu8, hq8, hs8, hz8⟩ := RG.own_slG hown8 hel8 (by decide)
      have HU8 := Lib.hid hu8
      have HS8 := Lib.hid (slS_mono hs8)
      have HB8 := Lib.hid (bt HB4.out hb8)
      clear hb8 hu8 hs8 hq8 hz8 hown8 hel8 hgrow8 x0 x1 x2
      go_wp2_with fail
      exact bodyPost_ret (v := .tuple #[u8, .int .i64 0]) (by simp [results, Tryz.results43, go_sem]) rfl ⟨A8, c8, ret_v (by rw [HAdd.out, HU8.out]), by rw [HAdd.out]; exact HS8.out, HB8.out⟩
  · have hd : (v != 1) = true := by rw [bne_iff_ne]; exact hv
    rw [if_pos hv] at haddn
    have HErr := Lib.hid haddn
    clear haddn hv
    go_enter Tryz.func43, Tryz.ntmps43
    go_wp2_with fail
    exact bodyPost_ret (v := .tuple #[.slice none 0 0, .int .i64 5]) (by simp [results, Tryz.results43, go_sem]) rfl (added_err HErr.out HB4.out)
end Go.Proofs.YtbmdkibmfkmjoaaGreat.Rg

namespace Go.Proofs.YtbmdkibmfkmjoaaGreat.Sc
open Go.RowKit Go.Proofs.YtbmdkibmfkmjoaaGreat.BM Go.Proofs.YtbmdkibmfkmjoaaGreat.VaM Go.Proofs.YtbmdkibmfkmjoaaGreat.Va Go.Proofs.YtbmdkibmfkmjoaaGreat.ScM

theorem take_iff {l m : List F} {n : Nat} (hl : n ≤ l.length) (hm : n ≤ m.length) : l.take n = m.take n ↔ ∀ j, j < n → l.getD j d0 = m.getD j d0 := by
  constructor
  · intro h j hj
    have e1 : (l.take n).getD j d0 = l.getD j d0 := by rw [List.getD_eq_getElem?_getD, List.getD_eq_getElem?_getD, List.getElem?_take, if_pos hj]
    have e2 : (m.take n).getD j d0 = m.getD j d0 := by rw [List.getD_eq_getElem?_getD, List.getD_eq_getElem?_getD, List.getElem?_take, if_pos hj]
    rw [← e1, ← e2, h]
  · intro h
    apply List.ext_getElem
    · rw [List.length_take, List.length_take]; omega
    · intro i h1 h2
      rw [List.length_take] at h1 h2
      have h3 := h i (by omega)
      rw [List.getD_eq_getElem?_getD, List.getD_eq_getElem?_getD, List.getElem?_eq_getElem (by omega), List.getElem?_eq_getElem (by omega)] at h3
      rw [List.getElem_take, List.getElem_take]
      exact h3

/-- Do fields begin by others? -/
def Beg (l by' : List F) : Prop := by'.length ≤ l.length ∧ l.take by'.length = by'
instance (l m : List F) : Decidable (Beg l m) := by unfold Beg; infer_instance

theorem beg_iff {l m : List F} (h : m.length ≤ l.length) : Beg l m ↔ ∀ j, j < m.length → l.getD j d0 = m.getD j d0 := by
  have h1 := take_iff (l := l) (m := m) h (Nat.le_refl _)
  rw [List.take_length] at h1
  unfold Beg
  rw [← h1]
  exact ⟨fun h => h.2, fun k => ⟨h, k⟩⟩

set_option maxRecDepth 100000 in
set_option maxHeartbeats 1000000 in
theorem begins_any (A : Option Addr) (l : List F) (c : Nat) (B : Option Addr) (m : List F) (d : Nat) (w : World) (h : SlF w A l c) (k : SlF w B m d) :
    Calls Tryz.prog 96 #[.slice A l.length c, .slice B m.length d] w fun e w' => e = .returned (.bool (decide (Beg l m))) ∧ Below w.heap.size w w' := by
  have hl := slF_len h
  have hm := slF_len k
  have hbi := fun hh => beg_iff (l := l) (m := m) hh
  have hno : l.length < m.length → ¬ Beg l m := fun h1 h2 => by have := h2.1; omega
  obtain ⟨n, hn⟩ : ∃ n, n = l.length := ⟨_, rfl⟩
  obtain ⟨r, hr⟩ : ∃ r, r = m.length := ⟨_, rfl⟩
  rw [← hn, ← hr] at hbi hno ⊢
  rw [← hn] at hl
  rw [← hr] at hm
  have HN := Lib.hid hn
  have HR := Lib.hid hr
  have HS := Lib.hid h
  have HT := Lib.hid k
  have HBi := Lib.hid hbi
  have HNo := Lib.hid hno
  clear hbi hno hn hr h k
  by_cases hlt : n < r
  · have HNo' := Lib.hid (HNo.out hlt)
    go_enter Tryz.func96, Tryz.ntmps96
    go_wp2_with fail
    go_ret
    exact ⟨ret_v (x := .bool false) (by rw [decide_eq_false HNo'.out]), Below.refl _ _⟩
  · have HB := Lib.hid (HBi.out (by omega))
    have hd1 : decide ((n : Int) < r) = false := by rw [decide_eq_false_iff_not]; omega
    clear HBi HNo
    go_enter Tryz.func96, Tryz.ntmps96
    go_wp2_with fail
    go_loopw [14] (fun i wr => ∃ j : Nat, i = .int .i64 j ∧ j ≤ r ∧ (∀ x, x < j → l.getD x d0 = m.getD x d0) ∧ Below w.heap.size w wr) (fun i _ => r - (intOf i).toNat)
    case atStart => exact ⟨0, rfl, Nat.zero_le _, fun x hx => absurd hx (Nat.not_lt_zero x), Below.refl _ _⟩
    case round =>
      obtain ⟨j, rfl, hj, hsame, hbel⟩ := hrel
      have HSm := Lib.hid hsame
      have HBl := Lib.hid hbel
      clear hsame hbel
      by_cases hjr : j < r
      · obtain ⟨b1, q1, hix1, hc1, _⟩ := HS.out.at j (by rw [← HN.out]; omega)
        obtain ⟨b2, q2, hix2, hc2, _⟩ := HT.out.at j (by rw [← HR.out]; omega)
        obtain ⟨⟨s1, k1⟩, hf1⟩ : ∃ f, f = l.getD j d0 := ⟨_, rfl⟩
        obtain ⟨⟨s2, k2⟩, hf2⟩ : ∃ f, f = m.getD j d0 := ⟨_, rfl⟩
        rw [← hf1] at hc1
        rw [← hf2] at hc2
        have ha := (Below.refl wr.heap.size wr).alloc (Nat.le_refl _) (.cells #[.string s2, .int .i64 k2] 72)
        have HB2 := Lib.hid (bt HBl.out ha)
        obtain ⟨c0, c1⟩ := hc2 wr HBl.out
        obtain ⟨e0, e1⟩ := hc1 _ HB2.out
        obtain ⟨⟨p0, p1⟩, _⟩ := bx2_new wr 72 (.string s2) (.int .i64 k2)
        simp only at c0 c1 e0 e1
        have hi1 := fun W => hix1 W n c (by omega)
        have hi2 := fun W => hix2 W r d hjr
        have hne := fun W => neq_f s1 s2 k1 k2 W
        have HF1 := Lib.hid hf1
        have HF2 := Lib.hid hf2
        clear hc1 hc2 hix1 hix2 hf1 hf2 ha
        by_cases he : (⟨s1, k1⟩ : F) = ⟨s2, k2⟩
        · have hsucc : ∀ x, x < j + 1 → l.getD x d0 = m.getD x d0 := fun x hx => by
            by_cases e : x = j
            · rw [e, ← HF1.out, ← HF2.out, he]
            · exact HSm.out x (by omega)
          simp only [decide_eq_true he, Bool.not_true] at hne
          have HSu := Lib.hid hsucc
          clear he hsucc
          go_wp2_with fail
          obtain ⟨w2, hw2⟩ : ∃ w2, w2 = wr.alloc (.cells #[.string s2, .int .i64 k2] 72) := ⟨_, rfl⟩
          obtain ⟨bk, hbk⟩ : ∃ bk, bk = wr.heap.size := ⟨_, rfl⟩
          rw [← hw2] at HB2 p0 p1 e0 e1 ⊢
          rw [← hbk] at p0 p1 ⊢
          clear hw2 hbk
          go_quiet (fail)
          go_wp2_with fail
          go_roundw
          case rel => exact ⟨j + 1, by go_num, by omega, HSu.out, below_drewN HB2.out _⟩
          case measure => simp [intOf]; omega
        · simp only [decide_eq_false he, Bool.not_false] at hne
          have HNo := Lib.hid (show ¬ Beg l m from fun h => he (by rw [HF1.out, HF2.out]; exact HB.out.1 h j hjr))
          clear he
          go_wp2_with fail
          obtain ⟨w2, hw2⟩ : ∃ w2, w2 = wr.alloc (.cells #[.string s2, .int .i64 k2] 72) := ⟨_, rfl⟩
          obtain ⟨bk, hbk⟩ : ∃ bk, bk = wr.heap.size := ⟨_, rfl⟩
          rw [← hw2] at HB2 p0 p1 e0 e1 ⊢
          rw [← hbk] at p0 p1 ⊢
          clear hw2 hbk
          go_quiet (fail)
          go_wp2_with fail
          go_ret
          exact ⟨ret_v (x := .bool false) (by rw [decide_eq_false HNo.out]), below_drewN HB2.out _⟩
      · obtain rfl : j = r := by omega
        have HYes := Lib.hid (HB.out.2 HSm.out)
        go_wp2_with fail
        go_ret
        exact ⟨ret_v (x := .bool true) (by rw [decide_eq_true HYes.out]), HBl.out⟩

theorem beg_same {a b : Sc} (h1 : a.s = b.s) (h2 : a.v = b.v) (h3 : a.f.length = b.f.length) : Beg a.f b.f ↔ a = b := by
  constructor
  · intro h
    have h4 := h.2
    rw [← h3, List.take_length] at h4
    exact Sc.same h1 h2 h4
  · intro h
    rw [h]
    exact ⟨Nat.le_refl _, List.take_length⟩

theorem fit_beg {a b : Sc} (h1 : May a) (h2 : May b) (h3 : a.s = b.s) (h4 : b.v = a.v + 1) : Beg b.f a.f ↔ Fit a b :=
  ⟨fun h => ⟨h1, h2, h3, h4, h.1, h.2⟩, fun h => ⟨h.2.2.2.2.1, h.2.2.2.2.2⟩⟩
end Go.Proofs.YtbmdkibmfkmjoaaGreat.Sc

namespace Go.Proofs.YtbmdkibmfkmjoaaGreat.Sc
open Go.RowKit Go.Proofs.YtbmdkibmfkmjoaaGreat.BM Go.Proofs.YtbmdkibmfkmjoaaGreat.VaM Go.Proofs.YtbmdkibmfkmjoaaGreat.Va Go.Proofs.YtbmdkibmfkmjoaaGreat.ScM

set_option maxRecDepth 100000 in
set_option maxHeartbeats 1000000 in
theorem Fits_any (a b : Sc) (A : Option Addr) (c : Nat) (B : Option Addr) (d : Nat) (w : World) (h : SlF w A a.f c) (k : SlF w B b.f d) (ha : Fine a) (hb : Fine b) :
    Calls Tryz.prog 74 #[.agg #[.string a.s, .int .i64 a.v, .slice A a.f.length c], .agg #[.string b.s, .int .i64 b.v, .slice B b.f.length d]] w fun e w' => e = .returned (.bool (decide (Fit a b))) ∧ Below w.heap.size w w' := by
  have hs1 : ¬ May a → ¬ Fit a b := fun h e => h e.1
  have hs2 : ¬ May b → ¬ Fit a b := fun h e => h e.2.1
  have hs3 : a.s ≠ b.s → ¬ Fit a b := fun h e => h e.2.2.1
  have hs4 : b.v ≠ a.v + 1 → ¬ Fit a b := fun h e => h e.2.2.2.1
  have hbs := fun h1 h2 h3 h4 => fit_beg (a := a) (b := b) h1 h2 h3 h4
  have hma : May a → 1 ≤ a.v ∧ a.v ≤ 1000 := fun h => ⟨h.2.1, h.2.2.1⟩
  have hbg := fun W (hW : Below w.heap.size w W) => begins_any B b.f d A a.f c W (k.kept hW) (h.kept hW)
  have hm1 := fun W (hW : Below w.heap.size w W) => May_any a A c W (h.kept hW) ha
  have hm2 := fun W (hW : Below w.heap.size w W) => May_any b B d W (k.kept hW) hb
  obtain ⟨E, hE⟩ : ∃ E, E = decide (Fit a b) := ⟨_, rfl⟩
  have hl := slF_len h
  have hm := slF_len k
  by_cases q1 : May a
  · by_cases q2 : May b
    · simp only [decide_eq_true q1] at hm1
      simp only [decide_eq_true q2] at hm2
      obtain ⟨hv0, hv1⟩ := hma q1
      have HBs := Lib.hid (hbs q1 q2)
      have H3 := Lib.hid hs3
      have H4 := Lib.hid hs4
      rw [← hE]
      have HE := Lib.hid hE
      clear hs1 hs2 hs3 hs4 hE h k hbs ha hb hma q1 q2
      obtain ⟨s1, v1, l1⟩ := a
      obtain ⟨s2, v2, l2⟩ := b
      simp only at HBs H3 H4 hl hm hbg hm1 hm2 hv0 hv1 ⊢
      obtain ⟨n, hn⟩ : ∃ n, n = l1.length := ⟨_, rfl⟩
      obtain ⟨r, hr⟩ : ∃ r, r = l2.length := ⟨_, rfl⟩
      rw [← hn, ← hr]
      simp only [← hn, ← hr] at hbg hm1 hm2
      rw [← hn] at hl
      rw [← hr] at hm
      have HBg := Lib.hid hbg
      have HM1 := Lib.hid hm1
      have HM2 := Lib.hid hm2
      clear hbg hn hr hm1 hm2
      have hb1 := (Below.refl w.heap.size w).alloc (Nat.le_refl _) (.cells #[.string s1, .int .i64 v1, .slice A n c] 40)
      have hk := (Below.refl (w.alloc (.cells #[.string s1, .int .i64 v1, .slice A n c] 40)).heap.size (w.alloc (.cells #[.string s1, .int .i64 v1, .slice A n c] 40))).alloc (Nat.le_refl _) (.cells #[.string s2, .int .i64 v2, .slice B r d] 40)
      have hx2 := bx_new_t (w.alloc (.cells #[.string s1, .int .i64 v1, .slice A n c] 40)) 40 (.string s2) (.int .i64 v2) (.slice B r d)
      rw [show (w.alloc (.cells #[.string s1, .int .i64 v1, .slice A n c] 40)).heap.size = w.heap.size + 1 from by simp] at hx2
      have HX1 := Lib.hid ((bx_new_t w 40 (.string s1) (.int .i64 v1) (.slice A n c)).kept hk)
      have HX2 := Lib.hid hx2
      obtain ⟨⟨p0, p1, p2⟩, _⟩ := HX1.out
      obtain ⟨⟨q0, q1, q2⟩, _⟩ := HX2.out
      have HB := Lib.hid (bt hb1 hk)
      clear hb1 hk hx2
      go_enter Tryz.func74, Tryz.ntmps74
      go_wp2_with fail
      refine (HM1.out _ HB.out).mono ?_
      rintro e w1 ⟨rfl, hb1⟩
      have HB1 := Lib.hid (bt HB.out hb1)
      have HX11 := Lib.hid (HX1.out.kept hb1)
      have HX21 := Lib.hid (HX2.out.kept hb1)
      obtain ⟨⟨p0, p1, p2⟩, _⟩ := HX11.out
      obtain ⟨⟨q0, q1, q2⟩, _⟩ := HX21.out
      clear hb1 HB HX1 HX2
      go_wp2_with fail
      refine (HM2.out _ HB1.out).mono ?_
      rintro e w2 ⟨rfl, hb2⟩
      have HB2 := Lib.hid (bt HB1.out hb2)
      clear p0 p1 p2 q0 q1 q2
      obtain ⟨⟨p0, p1, p2⟩, _⟩ := HX11.out.kept hb2
      obtain ⟨⟨q0, q1, q2⟩, _⟩ := HX21.out.kept hb2
      clear hb2 HB1 HX11 HX21
      by_cases g1 : s1 = s2
      · subst g1
        have ee : (s1.toList == s1.toList) = true := by simp
        by_cases g2 : v2 = v1 + 1
        · subst g2
          have HEq := Lib.hid (show decide (Beg l2 l1) = E from by rw [HE.out, decide_eq_decide]; exact HBs.out rfl rfl)
          go_wp2_with fail
          refine (HBg.out _ HB2.out).mono ?_
          rintro e w3 ⟨rfl, hb⟩
          rw [HEq.out]
          have HB3 := Lib.hid (bt HB2.out hb)
          clear hb p0 p1 p2 q0 q1 q2
          go_wp2_with fail
          go_ret
          exact ⟨rfl, HB3.out⟩
        · have g2' : (v2 == v1 + 1) = false := by rw [beq_eq_false_iff_ne]; exact g2
          have HEq := Lib.hid (show false = E from by rw [HE.out, decide_eq_false (H4.out g2)])
          clear g2
          go_wp2_with fail
          go_ret
          exact ⟨ret_v (x := .bool false) (by rw [HEq.out]), HB2.out⟩
      · have g1' := str_ne g1
        have HEq := Lib.hid (show false = E from by rw [HE.out, decide_eq_false (H3.out g1)])
        clear g1
        go_wp2_with fail
        go_ret
        exact ⟨ret_v (x := .bool false) (by rw [HEq.out]), HB2.out⟩
    · simp only [decide_eq_true q1] at hm1
      simp only [decide_eq_false q2] at hm2
      have HEq := Lib.hid (show false = decide (Fit a b) from by rw [decide_eq_false (hs2 q2)])
      clear hs1 hs2 hs3 hs4 hE h k hbs ha hb hma q1 q2 hbg
      obtain ⟨s1, v1, l1⟩ := a
      obtain ⟨s2, v2, l2⟩ := b
      simp only at hl hm hm1 hm2 HEq ⊢
      obtain ⟨n, hn⟩ : ∃ n, n = l1.length := ⟨_, rfl⟩
      obtain ⟨r, hr⟩ : ∃ r, r = l2.length := ⟨_, rfl⟩
      rw [← hn, ← hr]
      simp only [← hn, ← hr] at hm1 hm2
      have HM1 := Lib.hid hm1
      have HM2 := Lib.hid hm2
      clear hn hr hm1 hm2 hl hm
      have hb1 := (Below.refl w.heap.size w).alloc (Nat.le_refl _) (.cells #[.string s1, .int .i64 v1, .slice A n c] 40)
      have hk := (Below.refl (w.alloc (.cells #[.string s1, .int .i64 v1, .slice A n c] 40)).heap.size (w.alloc (.cells #[.string s1, .int .i64 v1, .slice A n c] 40))).alloc (Nat.le_refl _) (.cells #[.string s2, .int .i64 v2, .slice B r d] 40)
      have hx2 := bx_new_t (w.alloc (.cells #[.string s1, .int .i64 v1, .slice A n c] 40)) 40 (.string s2) (.int .i64 v2) (.slice B r d)
      rw [show (w.alloc (.cells #[.string s1, .int .i64 v1, .slice A n c] 40)).heap.size = w.heap.size + 1 from by simp] at hx2
      have HX1 := Lib.hid ((bx_new_t w 40 (.string s1) (.int .i64 v1) (.slice A n c)).kept hk)
      have HX2 := Lib.hid hx2
      obtain ⟨⟨p0, p1, p2⟩, _⟩ := HX1.out
      obtain ⟨⟨q0, q1, q2⟩, _⟩ := HX2.out
      have HB := Lib.hid (bt hb1 hk)
      clear hb1 hk hx2
      go_enter Tryz.func74, Tryz.ntmps74
      go_wp2_with fail
      refine (HM1.out _ HB.out).mono ?_
      rintro e w1 ⟨rfl, hb1⟩
      have HB1 := Lib.hid (bt HB.out hb1)
      have HX11 := Lib.hid (HX1.out.kept hb1)
      have HX21 := Lib.hid (HX2.out.kept hb1)
      obtain ⟨⟨p0, p1, p2⟩, _⟩ := HX11.out
      obtain ⟨⟨q0, q1, q2⟩, _⟩ := HX21.out
      clear hb1 HB HX1 HX2
      go_wp2_with fail
      refine (HM2.out _ HB1.out).mono ?_
      rintro e w2 ⟨rfl, hb2⟩
      have HB2 := Lib.hid (bt HB1.out hb2)
      clear hb2 HB1 HX11 HX21
      go_wp2_with fail
      go_ret
      exact ⟨ret_v (x := .bool false) (by rw [HEq.out]), HB2.out⟩
  · simp only [decide_eq_false q1] at hm1
    have HEq := Lib.hid (show false = decide (Fit a b) from by rw [decide_eq_false (hs1 q1)])
    clear hs1 hs2 hs3 hs4 hE h k hbs ha hb hma q1 hbg hm2
    obtain ⟨s1, v1, l1⟩ := a
    obtain ⟨s2, v2, l2⟩ := b
    simp only at hl hm hm1 HEq ⊢
    obtain ⟨n, hn⟩ : ∃ n, n = l1.length := ⟨_, rfl⟩
    obtain ⟨r, hr⟩ : ∃ r, r = l2.length := ⟨_, rfl⟩
    rw [← hn, ← hr]
    simp only [← hn] at hm1
    have HM1 := Lib.hid hm1
    clear hn hr hm1 hl hm
    have hb1 := (Below.refl w.heap.size w).alloc (Nat.le_refl _) (.cells #[.string s1, .int .i64 v1, .slice A n c] 40)
    have hk := (Below.refl (w.alloc (.cells #[.string s1, .int .i64 v1, .slice A n c] 40)).heap.size (w.alloc (.cells #[.string s1, .int .i64 v1, .slice A n c] 40))).alloc (Nat.le_refl _) (.cells #[.string s2, .int .i64 v2, .slice B r d] 40)
    obtain ⟨⟨p0, p1, p2⟩, _⟩ := (bx_new_t w 40 (.string s1) (.int .i64 v1) (.slice A n c)).kept hk
    have HB := Lib.hid (bt hb1 hk)
    clear hb1 hk
    go_enter Tryz.func74, Tryz.ntmps74
    go_wp2_with fail
    refine (HM1.out _ HB.out).mono ?_
    rintro e w1 ⟨rfl, hb1⟩
    have HB1 := Lib.hid (bt HB.out hb1)
    clear hb1 HB p0 p1 p2
    go_wp2_with fail
    go_ret
    exact ⟨ret_v (x := .bool false) (by rw [HEq.out]), HB1.out⟩
end Go.Proofs.YtbmdkibmfkmjoaaGreat.Sc

namespace Go.Proofs.YtbmdkibmfkmjoaaGreat.Sc
open Go.RowKit Go.Proofs.YtbmdkibmfkmjoaaGreat.BM Go.Proofs.YtbmdkibmfkmjoaaGreat.VaM Go.Proofs.YtbmdkibmfkmjoaaGreat.Va Go.Proofs.YtbmdkibmfkmjoaaGreat.ScM

set_option maxRecDepth 100000 in
set_option maxHeartbeats 1000000 in
theorem Same_any (a b : Sc) (A : Option Addr) (c : Nat) (B : Option Addr) (d : Nat) (w : World) (h : SlF w A a.f c) (k : SlF w B b.f d) :
    Calls Tryz.prog 73 #[.agg #[.string a.s, .int .i64 a.v, .slice A a.f.length c], .agg #[.string b.s, .int .i64 b.v, .slice B b.f.length d]] w fun e w' => e = .returned (.bool (decide (a = b))) ∧ Below w.heap.size w w' := by
  have hbs := fun h1 h2 h3 => beg_same (a := a) (b := b) h1 h2 h3
  have hs1 : a.s ≠ b.s → a ≠ b := fun h e => h (by rw [e])
  have hs2 : a.v ≠ b.v → a ≠ b := fun h e => h (by rw [e])
  have hs3 : a.f.length ≠ b.f.length → a ≠ b := fun h e => h (by rw [e])
  have hbg := fun W (hW : Below w.heap.size w W) => begins_any A a.f c B b.f d W (h.kept hW) (k.kept hW)
  obtain ⟨E, hE⟩ : ∃ E, E = decide (a = b) := ⟨_, rfl⟩
  rw [← hE]
  have hl := slF_len h
  have hm := slF_len k
  have HBs := Lib.hid hbs
  have H1 := Lib.hid hs1
  have H2 := Lib.hid hs2
  have H3 := Lib.hid hs3
  have HE := Lib.hid hE
  clear hs1 hs2 hs3 hE h k hbs
  obtain ⟨s1, v1, l1⟩ := a
  obtain ⟨s2, v2, l2⟩ := b
  simp only at HBs H1 H2 H3 hl hm hbg ⊢
  obtain ⟨n, hn⟩ : ∃ n, n = l1.length := ⟨_, rfl⟩
  obtain ⟨r, hr⟩ : ∃ r, r = l2.length := ⟨_, rfl⟩
  rw [← hn, ← hr] at HBs H3 ⊢
  simp only [← hn, ← hr] at hbg
  rw [← hn] at hl
  rw [← hr] at hm
  have HBg := Lib.hid hbg
  clear hbg hn hr
  have hb1 := (Below.refl w.heap.size w).alloc (Nat.le_refl _) (.cells #[.string s1, .int .i64 v1, .slice A n c] 40)
  have hk := (Below.refl (w.alloc (.cells #[.string s1, .int .i64 v1, .slice A n c] 40)).heap.size (w.alloc (.cells #[.string s1, .int .i64 v1, .slice A n c] 40))).alloc (Nat.le_refl _) (.cells #[.string s2, .int .i64 v2, .slice B r d] 40)
  have hx2 := bx_new_t (w.alloc (.cells #[.string s1, .int .i64 v1, .slice A n c] 40)) 40 (.string s2) (.int .i64 v2) (.slice B r d)
  rw [show (w.alloc (.cells #[.string s1, .int .i64 v1, .slice A n c] 40)).heap.size = w.heap.size + 1 from by simp] at hx2
  obtain ⟨⟨p0, p1, p2⟩, _⟩ := (bx_new_t w 40 (.string s1) (.int .i64 v1) (.slice A n c)).kept hk
  obtain ⟨⟨q0, q1, q2⟩, _⟩ := hx2
  have HB := Lib.hid (bt hb1 hk)
  clear hb1 hk
  by_cases g1 : s1 = s2
  · subst g1
    have ee : (s1.toList == s1.toList) = true := by simp
    by_cases g2 : v1 = v2
    · subst g2
      by_cases g3 : n = r
      · subst g3
        have HEq := Lib.hid (show decide (Beg l1 l2) = E from by rw [HE.out, decide_eq_decide]; exact HBs.out rfl rfl rfl)
        go_enter Tryz.func73, Tryz.ntmps73
        go_wp2_with fail
        refine (HBg.out _ HB.out).mono ?_
        rintro e w1 ⟨rfl, hb⟩
        rw [HEq.out]
        have HB1 := Lib.hid (bt HB.out hb)
        clear hb p0 p1 p2 q0 q1 q2
        go_wp2_with fail
        go_ret
        exact ⟨rfl, HB1.out⟩
      · have g3' : ((n : Int) == r) = false := by rw [beq_eq_false_iff_ne]; omega
        have HEq := Lib.hid (show false = E from by rw [HE.out, decide_eq_false (H3.out g3)])
        go_enter Tryz.func73, Tryz.ntmps73
        go_wp2_with fail
        go_ret
        exact ⟨ret_v (x := .bool false) (by rw [HEq.out]), HB.out⟩
    · have g2' : (v1 == v2) = false := by rw [beq_eq_false_iff_ne]; exact g2
      have HEq := Lib.hid (show false = E from by rw [HE.out, decide_eq_false (H2.out g2)])
      clear g2
      go_enter Tryz.func73, Tryz.ntmps73
      go_wp2_with fail
      go_ret
      exact ⟨ret_v (x := .bool false) (by rw [HEq.out]), HB.out⟩
  · have g1' := str_ne g1
    have HEq := Lib.hid (show false = E from by rw [HE.out, decide_eq_false (H1.out g1)])
    clear g1
    go_enter Tryz.func73, Tryz.ntmps73
    go_wp2_with fail
    go_ret
    exact ⟨ret_v (x := .bool false) (by rw [HEq.out]), HB.out⟩
end Go.Proofs.YtbmdkibmfkmjoaaGreat.Sc

namespace Go.Proofs.YtbmdkibmfkmjoaaGreat.Rg
open Go.RowKit Go.Proofs.YtbmdkibmfkmjoaaGreat.BM Go.Proofs.YtbmdkibmfkmjoaaGreat.LM Go.Proofs.YtbmdkibmfkmjoaaGreat.VaM Go.Proofs.YtbmdkibmfkmjoaaGreat.Va Go.Proofs.YtbmdkibmfkmjoaaGreat.Sc Go.Proofs.YtbmdkibmfkmjoaaGreat.RgM
open Go.Proofs.YtbmdkibmfkmjoaaGreat.ScM (Sc Fit)

set_option maxRecDepth 100000 in
set_option maxHeartbeats 4000000 in
theorem addNext_any (l : List Sc) (i : Nat) (s : Sc) (A : Option Addr) (c : Nat) (B : Option Addr) (d : Nat) (w : World) (hS : SlS w A l c) (hF : SlF w B s.f d) (hz : Fine s) (hm : May l ∧ ScM.May s) (hat : At l s.s = some i) :
    Calls Tryz.prog 44 #[.slice A l.length c, .int .i64 (i : Int), .agg #[.string s.s, .int .i64 s.v, .slice B s.f.length d]] w (Added l s w) := by
  have hl := slS_len hS
  have hall := fun W (h : Below w.heap.size w W) => ownAll_any l A c W (hS.kept h) (roomL_may hm.1) (Nat.le_trans hm.1.2 (by decide))
  have hown := fun W (h : Below w.heap.size w W) => own_any s B d W (hF.kept h) (room_may hm.2)
  have hro := fun (W : World) (T : Option Addr) (t H : Nat) (v : Value) (h : Own H W T s.f t) (hv : ∀ b, v.ownBlock = some b → b < H) => relS_own h hz hv
  have hsm := fun W (h : Below w.heap.size w W) (t : Sc) T k (ht : SlF W T t.f k) => Go.Proofs.YtbmdkibmfkmjoaaGreat.Sc.Same_any t s T k B d W ht (hF.kept h)
  have hft := fun W (h : Below w.heap.size w W) (t : Sc) T k (ht : SlF W T t.f k) (htz : Fine t) => Go.Proofs.YtbmdkibmfkmjoaaGreat.Sc.Fits_any t s T k B d W ht (hF.kept h) htz hz
  have hadd := @add_some l s i hm hat
  have hlt := (at_some.1 hat).1
  obtain ⟨b, q, A1, c1, hix, hc, hfine⟩ := hS.at i hlt
  have HAll := Lib.hid hall
  have HOwn := Lib.hid hown
  have HRo := Lib.hid hro
  clear hall hown hro hS hF hz hm hat
  obtain ⟨nm, v, f⟩ := s
  simp only at HOwn HRo hsm hft hadd ⊢
  obtain ⟨t, ht⟩ : ∃ t, t = l.getD i s0 := ⟨_, rfl⟩
  rw [← ht] at hc hfine hadd
  have hsm5 := fun W (h : Below w.heap.size w W) => hsm W h t A1 c1 (hc W h).2
  have hft5 := fun W (h : Below w.heap.size w W) => hft W h t A1 c1 (hc W h).2 hfine
  have hcc := fun W (h : Below w.heap.size w W) => (hc W h).1
  clear hc ht hfine hsm hft
  obtain ⟨tn, tv, tf⟩ := t
  unfold CellS at hcc
  simp only at hsm5 hft5 hcc hadd
  obtain ⟨m, hm⟩ : ∃ m, m = tf.length := ⟨_, rfl⟩
  obtain ⟨k, hk⟩ : ∃ k, k = f.length := ⟨_, rfl⟩
  obtain ⟨n, hn⟩ : ∃ n, n = l.length := ⟨_, rfl⟩
  simp only [← hm] at hsm5 hft5 hcc
  simp only [← hk] at HOwn HRo hsm5 hft5
  simp only [← hn] at HAll hl hlt
  rw [← hk, ← hn]
  have HLen := Lib.hid hn
  have HSm5 := Lib.hid hsm5
  have HFt5 := Lib.hid hft5
  have HC := Lib.hid hcc
  have HAdd := Lib.hid hadd
  have hi' := fun W => hix W n c hlt
  clear hk hn hm hsm5 hft5 hcc hix hadd
  have HX4 := Lib.hid (bx_new_t w 40 (.string nm) (.int .i64 v) (.slice B k d))
  have HB4 := Lib.hid ((Below.refl w.heap.size w).alloc (Nat.le_refl _) (.cells #[.string nm, .int .i64 v, .slice B k d] 40))
  go_enter Tryz.func44, Tryz.ntmps44
  go_wp2_with fail
  obtain ⟨w4, hw4⟩ : ∃ w4, w4 = w.alloc (.cells #[.string nm, .int .i64 v, .slice B k d] 40) := ⟨_, rfl⟩
  rw [← hw4] at HX4 HB4 ⊢
  clear hw4
  refine Reg.G_start (by kernel_rfl) (by repeat (first | exact Reg.frameless_bodyPost | refine Reg.frameless_then ?_ | refine Reg.frameless_inBlock ?_)) (fun W hW => ?_)
  have hBW := bt HB4.out hW
  obtain ⟨y0, y1, y2⟩ := HC.out W hBW
  obtain ⟨⟨z0, z1, z2⟩, _⟩ := HX4.out.kept hW
  have x0 := Reg.later_cell (Below.refl _ W) y0
  have x1 := Reg.later_cell (Below.refl _ W) y1
  have x2 := Reg.later_cell (Below.refl _ W) y2
  have x3 := Reg.later_cell (Below.refl _ W) z0
  have x4 := Reg.later_cell (Below.refl _ W) z1
  have x5 := Reg.later_cell (Below.refl _ W) z2
  clear y0 y1 y2 z0 z1 z2
  first | (refine Reg.G_step (i := 0) rfl (by kernel_rfl) (by rfl) (fun K hK => ?_); go_big_quiet_op; refine hK _ ?_; clear hK K) | (refine Reg.G_skip (i := 0) rfl (by kernel_rfl) (by rfl) ?_; simp only [Act.put, List.setIfInBounds_toArray, List.set_cons_zero, List.set_cons_succ])
  first | (refine Reg.G_step (i := 1) rfl (by kernel_rfl) (by rfl) (fun K hK => ?_); go_big_quiet_op; refine hK _ ?_; clear hK K) | (refine Reg.G_skip (i := 1) rfl (by kernel_rfl) (by rfl) ?_; simp only [Act.put, List.setIfInBounds_toArray, List.set_cons_zero, List.set_cons_succ])
  first | (refine Reg.G_step (i := 2) rfl (by kernel_rfl) (by rfl) (fun K hK => ?_); go_big_quiet_op; refine hK _ ?_; clear hK K) | (refine Reg.G_skip (i := 2) rfl (by kernel_rfl) (by rfl) ?_; simp only [Act.put, List.setIfInBounds_toArray, List.set_cons_zero, List.set_cons_succ])
  first | (refine Reg.G_step (i := 3) rfl (by kernel_rfl) (by rfl) (fun K hK => ?_); go_big_quiet_op; refine hK _ ?_; clear hK K) | (refine Reg.G_skip (i := 3) rfl (by kernel_rfl) (by rfl) ?_; simp only [Act.put, List.setIfInBounds_toArray, List.set_cons_zero, List.set_cons_succ])
  first | (refine Reg.G_step (i := 4) rfl (by kernel_rfl) (by rfl) (fun K hK => ?_); go_big_quiet_op; refine hK _ ?_; clear hK K) | (refine Reg.G_skip (i := 4) rfl (by kernel_rfl) (by rfl) ?_; simp only [Act.put, List.setIfInBounds_toArray, List.set_cons_zero, List.set_cons_succ])
  refine Reg.G_event (i := 5) rfl (by kernel_rfl) (by rfl) (fun K hK => ?_)
  go_simp
  refine (HSm5.out _ hBW).mono ?_
  rintro e v0 ⟨rfl, hv0⟩
  refine hK _ _ hv0 ?_
  clear hK K x0 x1 x2 x3 x4 x5
  have hw0 := bt hW hv0
  first | (refine Reg.G_step (i := 6) rfl (by kernel_rfl) (by rfl) (fun K hK => ?_); go_big_quiet_op; refine hK _ ?_; clear hK K) | (refine Reg.G_skip (i := 6) rfl (by kernel_rfl) (by rfl) ?_; simp only [Act.put, List.setIfInBounds_toArray, List.set_cons_zero, List.set_cons_succ])
  refine Reg.G_done (by kernel_rfl) ?_
  have HW6 := Lib.hid hw0
  obtain ⟨w6, hw6⟩ : ∃ w6, w6 = v0 := ⟨_, rfl⟩
  rw [← hw6] at HW6 ⊢
  clear hw0 hv0 hBW hW hw6
  by_cases hsame : (⟨tn, tv, tf⟩ : Sc) = ⟨nm, v, f⟩
  · rw [decide_eq_true hsame]
    have HErr := Lib.hid (show add l ⟨nm, v, f⟩ = ([], 4) from by rw [HAdd.out, if_pos hsame])
    clear hsame
    go_wp2_with fail
    exact bodyPost_ret (v := .tuple #[.slice none 0 0, .int .i64 4]) (by simp [results, Tryz.results44, go_sem]) rfl (added_err HErr.out (bt HB4.out HW6.out))
  · rw [decide_eq_false hsame]
    have HAdd2 := Lib.hid (show add l ⟨nm, v, f⟩ = if Fit ⟨tn, tv, tf⟩ ⟨nm, v, f⟩ then (l.set i ⟨nm, v, f⟩, 0) else ([], 5) from by rw [HAdd.out, if_neg hsame])
    clear hsame
    go_wp2_with fail
    refine Reg.G_start (by kernel_rfl) (by repeat (first | exact Reg.frameless_bodyPost | refine Reg.frameless_then ?_ | refine Reg.frameless_inBlock ?_)) (fun W hW => ?_)
    have hBW := bt HB4.out (bt HW6.out hW)
    obtain ⟨y0, y1, y2⟩ := HC.out W hBW
    obtain ⟨⟨z0, z1, z2⟩, _⟩ := HX4.out.kept (bt HW6.out hW)
    have x0 := Reg.later_cell (Below.refl _ W) y0
    have x1 := Reg.later_cell (Below.refl _ W) y1
    have x2 := Reg.later_cell (Below.refl _ W) y2
    have x3 := Reg.later_cell (Below.refl _ W) z0
    have x4 := Reg.later_cell (Below.refl _ W) z1
    have x5 := Reg.later_cell (Below.refl _ W) z2
    clear y0 y1 y2 z0 z1 z2
    first | (refine Reg.G_step (i := 0) rfl (by kernel_rfl) (by rfl) (fun K hK => ?_); go_big_quiet_op; refine hK _ ?_; clear hK K) | (refine Reg.G_skip (i := 0) rfl (by kernel_rfl) (by rfl) ?_; simp only [Act.put, List.setIfInBounds_toArray, List.set_cons_zero, List.set_cons_succ])
    first | (refine Reg.G_step (i := 1) rfl (by kernel_rfl) (by rfl) (fun K hK => ?_); go_big_quiet_op; refine hK _ ?_; clear hK K) | (refine Reg.G_skip (i := 1) rfl (by kernel_rfl) (by rfl) ?_; simp only [Act.put, List.setIfInBounds_toArray, List.set_cons_zero, List.set_cons_succ])
    first | (refine Reg.G_step (i := 2) rfl (by kernel_rfl) (by rfl) (fun K hK => ?_); go_big_quiet_op; refine hK _ ?_; clear hK K) | (refine Reg.G_skip (i := 2) rfl (by kernel_rfl) (by rfl) ?_; simp only [Act.put, List.setIfInBounds_toArray, List.set_cons_zero, List.set_cons_succ])
    first | (refine Reg.G_step (i := 3) rfl (by kernel_rfl) (by rfl) (fun K hK => ?_); go_big_quiet_op; refine hK _ ?_; clear hK K) | (refine Reg.G_skip (i := 3) rfl (by kernel_rfl) (by rfl) ?_; simp only [Act.put, List.setIfInBounds_toArray, List.set_cons_zero, List.set_cons_succ])
    first | (refine Reg.G_step (i := 4) rfl (by kernel_rfl) (by rfl) (fun K hK => ?_); go_big_quiet_op; refine hK _ ?_; clear hK K) | (refine Reg.G_skip (i := 4) rfl (by kernel_rfl) (by rfl) ?_; simp only [Act.put, List.setIfInBounds_toArray, List.set_cons_zero, List.set_cons_succ])
    refine Reg.G_event (i := 5) rfl (by kernel_rfl) (by rfl) (fun K hK => ?_)
    go_simp
    refine (HFt5.out _ hBW).mono ?_
    rintro e v1 ⟨rfl, hv1⟩
    refine hK _ _ hv1 ?_
    clear hK K x0 x1 x2 x3 x4 x5
    have hw1 := bt HW6.out (bt hW hv1)
    first | (refine Reg.G_step (i := 6) rfl (by kernel_rfl) (by rfl) (fun K hK => ?_); go_big_quiet_op; refine hK _ ?_; clear hK K) | (refine Reg.G_skip (i := 6) rfl (by kernel_rfl) (by rfl) ?_; simp only [Act.put, List.setIfInBounds_toArray, List.set_cons_zero, List.set_cons_succ])
    first | (refine Reg.G_step (i := 7) rfl (by kernel_rfl) (by rfl) (fun K hK => ?_); go_big_quiet_op; refine hK _ ?_; clear hK K) | (refine Reg.G_skip (i := 7) rfl (by kernel_rfl) (by rfl) ?_; simp only [Act.put, List.setIfInBounds_toArray, List.set_cons_zero, List.set_cons_succ])
    refine Reg.G_done (by kernel_rfl) ?_
    have HW7 := Lib.hid hw1
    obtain ⟨w7, hw7⟩ : ∃ w7, w7 = v1 := ⟨_, rfl⟩
    rw [← hw7] at HW7 ⊢
    clear hw1 hv1 hBW hW hw7
    by_cases hfit : Fit ⟨tn, tv, tf⟩ ⟨nm, v, f⟩
    · rw [decide_eq_true hfit]
      have HYes := Lib.hid (show add l ⟨nm, v, f⟩ = (l.set i ⟨nm, v, f⟩, 0) from by rw [HAdd2.out, if_pos hfit])
      clear hfit
      have HX7 := Lib.hid (HX4.out.kept HW7.out)
      have HB7 := Lib.hid (bt HB4.out HW7.out)
      clear HX4 HW7
      go_wp2_with fail
      refine (HAll.out w7 HB7.out).mono ?_
      rintro e w8 ⟨u4, us, rfl, ho8, hb8⟩
      have HH := Lib.hid (show w.heap.size ≤ w7.heap.size from HB7.out.size)
      have HO8 := Lib.hid ho8
      have HX8 := Lib.hid (HX7.out.kept hb8)
      have HB8 := Lib.hid (bt HB7.out hb8)
      clear ho8 hb8 HX7 HB7
      obtain ⟨⟨p0, p1, p2⟩, _⟩ := HX8.out
      go_wp2_with fail
      refine (HOwn.out w8 HB8.out).mono ?_
      rintro e w9 ⟨A9, c9, rfl, ho9, hb9⟩
      have hrel9 := HRo.out w9 A9 c9 w8.heap.size u4 ho9 (own_lt HO8.out.1)
      have hO9 := HO8.out.kept hb9
      have HB9 := Lib.hid (bt HB8.out hb9)
      clear ho9 hb9 HO8 HX8 HB8 p0 p1 p2
      obtain ⟨g, c7, r, hu7, hr, hg, hix7, ⟨o0, o1, o2, k0, k1, k2⟩, f0, f1, f2⟩ := own_at hO9.1 hO9.2 i (by rw [← HLen.out]; exact hlt)
      subst hu7
      obtain ⟨hown, hgrow⟩ := own_set3 hO9.1 r (.string nm) (.int .i64 v) (.slice A9 k c9)
      have hb10 := HB9.out.grown hgrow HB9.out.size (fun q hq => by injection hq with hq; have := HH.out; omega)
      have hel := elems_set (KS.grown hrel9 hgrow fun b hb => hb.2) (fun _ _ e => KS.grown e hgrow fun _ hb => hb.2) l us i (by rw [← HLen.out]; exact hlt) hO9.2
      rw [← hr] at hel
      obtain ⟨A10, c10, hu10, hq10, hs10, hz10⟩ := RG.own_slG hown hel (by decide)
      have HU := Lib.hid hu10
      have HS := Lib.hid (slS_mono hs10)
      have HB := Lib.hid hb10
      obtain ⟨G, hG⟩ : ∃ G, G = (some ⟨g, 0, none⟩ : Option Addr) := ⟨_, rfl⟩
      rw [← hG] at hix7 HU ⊢
      clear hown hgrow hrel9 hO9 hb10 hel hu10 hs10 hq10 hz10 hr hg hG
      go_wp2_with fail
      exact bodyPost_ret (v := .tuple #[.slice G n c7, .int .i64 0]) (by simp [results, Tryz.results44, go_sem]) rfl ⟨A10, c10, ret_v (by rw [HYes.out, HU.out]), by rw [HYes.out]; exact HS.out, HB.out⟩
    · rw [decide_eq_false hfit]
      have HErr := Lib.hid (show add l ⟨nm, v, f⟩ = ([], 5) from by rw [HAdd2.out, if_neg hfit])
      clear hfit
      go_wp2_with fail
      exact bodyPost_ret (v := .tuple #[.slice none 0 0, .int .i64 5]) (by simp [results, Tryz.results44, go_sem]) rfl (added_err HErr.out (bt HB4.out HW7.out))
end Go.Proofs.YtbmdkibmfkmjoaaGreat.Rg

namespace Go.Proofs.YtbmdkibmfkmjoaaGreat.Rg
open Go.RowKit Go.Proofs.YtbmdkibmfkmjoaaGreat.BM Go.Proofs.YtbmdkibmfkmjoaaGreat.LM Go.Proofs.YtbmdkibmfkmjoaaGreat.VaM Go.Proofs.YtbmdkibmfkmjoaaGreat.Va Go.Proofs.YtbmdkibmfkmjoaaGreat.Sc Go.Proofs.YtbmdkibmfkmjoaaGreat.RgM
open Go.Proofs.YtbmdkibmfkmjoaaGreat.ScM (Sc)

set_option maxRecDepth 100000 in
set_option maxHeartbeats 4000000 in
theorem Add_any (l : List Sc) (s : Sc) (A : Option Addr) (c : Nat) (B : Option Addr) (d : Nat) (w : World) (hS : SlS w A l c) (hF : SlF w B s.f d) (hz : Fine s) :
    Calls Tryz.prog 18 #[.slice A l.length c, .agg #[.string s.s, .int .i64 s.v, .slice B s.f.length d]] w (Added l s w) := by
  have hmay := fun W (h : Below w.heap.size w W) => May_any l A c W (hS.kept h)
  have hm5 := fun W (h : Below w.heap.size w W) => Go.Proofs.YtbmdkibmfkmjoaaGreat.Sc.May_any s B d W (hF.kept h) hz
  have hpl := fun W (h : Below w.heap.size w W) => place_any l s.s A c W (hS.kept h)
  have hnew := fun (g : May l ∧ ScM.May s) (k : At l s.s = none) W (h : Below w.heap.size w W) => addNew_any l s A c B d W (hS.kept h) (hF.kept h) hz g k
  have hnxt := fun (g : May l ∧ ScM.May s) i (k : At l s.s = some i) W (h : Below w.heap.size w W) => addNext_any l i s A c B d W (hS.kept h) (hF.kept h) hz g k
  have hadd1 := @add_1 l s
  unfold Added at hnew hnxt
  have HMay := Lib.hid hmay
  have HM5 := Lib.hid hm5
  have HPl := Lib.hid hpl
  have HNew := Lib.hid hnew
  have HNxt := Lib.hid hnxt
  have HA1 := Lib.hid hadd1
  clear hmay hm5 hpl hnew hnxt hadd1 hS hF hz
  obtain ⟨nm, v, f⟩ := s
  simp only at HM5 HPl HNew HNxt HA1 ⊢
  obtain ⟨k, hk⟩ : ∃ k, k = f.length := ⟨_, rfl⟩
  obtain ⟨n, hn⟩ : ∃ n, n = l.length := ⟨_, rfl⟩
  simp only [← hk] at HM5 HNew HNxt
  simp only [← hn] at HMay HPl HNew HNxt
  rw [← hk, ← hn]
  clear hk hn
  have HX1 := Lib.hid (bx_new_t w 40 (.string nm) (.int .i64 v) (.slice B k d))
  have HB1 := Lib.hid ((Below.refl w.heap.size w).alloc (Nat.le_refl _) (.cells #[.string nm, .int .i64 v, .slice B k d] 40))
  go_enter Tryz.func18, Tryz.ntmps18
  go_wp2_with fail
  obtain ⟨w1, hw1⟩ : ∃ w1, w1 = w.alloc (.cells #[.string nm, .int .i64 v, .slice B k d] 40) := ⟨_, rfl⟩
  rw [← hw1] at HX1 HB1 ⊢
  clear hw1
  refine (HMay.out w1 HB1.out).mono ?_
  rintro e w2 ⟨rfl, hb2⟩
  have HB2 := Lib.hid (bt HB1.out hb2)
  have HX2 := Lib.hid (HX1.out.kept hb2)
  clear hb2 HB1 HX1
  obtain ⟨⟨p0, p1, p2⟩, _⟩ := HX2.out
  by_cases hml : May l
  · rw [decide_eq_true hml]
    have HMl := Lib.hid hml
    clear hml
    go_wp2_with fail
    refine (HM5.out w2 HB2.out).mono ?_
    rintro e w3 ⟨rfl, hb3⟩
    have HB3 := Lib.hid (bt HB2.out hb3)
    have HX3 := Lib.hid (HX2.out.kept hb3)
    clear hb3 HB2 HX2 p0 p1 p2
    by_cases hm5 : ScM.May ⟨nm, v, f⟩
    · rw [decide_eq_true hm5]
      have hnew := HNew.out ⟨HMl.out, hm5⟩
      have hnxt := HNxt.out ⟨HMl.out, hm5⟩
      obtain ⟨x, hx⟩ : ∃ x, x = (add l ⟨nm, v, f⟩).1 := ⟨_, rfl⟩
      obtain ⟨E, hE⟩ : ∃ E, E = (add l ⟨nm, v, f⟩).2 := ⟨_, rfl⟩
      simp only [← hx, ← hE] at hnew hnxt
      have HXx := Lib.hid hx
      have HEe := Lib.hid hE
      have HNew2 := Lib.hid hnew
      have HNxt2 := Lib.hid hnxt
      clear hm5 hnew hnxt hx hE HNew HNxt
      obtain ⟨⟨p0, p1, p2⟩, _⟩ := HX3.out
      go_wp2_with fail
      refine (HPl.out w3 HB3.out).mono ?_
      rintro e w4 ⟨rfl, hb4⟩
      have HB4 := Lib.hid (bt HB3.out hb4)
      have HX4 := Lib.hid (HX3.out.kept hb4)
      clear hb4 HB3 HX3 p0 p1 p2
      obtain ⟨⟨p0, p1, p2⟩, _⟩ := HX4.out
      cases hat : At l nm with
      | none =>
        have hi : atI l nm = -1 := by unfold atI; rw [hat]
        have HN := Lib.hid (HNew2.out hat w4 HB4.out)
        rw [hi]
        clear hi hat HNew2 HNxt2
        go_wp2_with fail
        refine HN.out.mono ?_
        rintro e w5 ⟨A5, c5, rfl, hs5, hb5⟩
        have HS5 := Lib.hid hs5
        have HB5 := Lib.hid (bt HB4.out hb5)
        obtain ⟨r, hr⟩ : ∃ r, r = x.length := ⟨_, rfl⟩
        rw [← hr]
        have HR := Lib.hid hr
        clear hs5 hb5 hr HN p0 p1 p2
        go_wp2_with fail
        exact bodyPost_ret (v := .tuple #[.slice A5 r c5, .int .i64 E]) (by simp [results, Tryz.results18, go_sem]) rfl ⟨A5, c5, ret_v (by rw [← HXx.out, ← HEe.out, HR.out]), by rw [← HXx.out]; exact HS5.out, HB5.out⟩
      | some i =>
        have hi : atI l nm = (i : Int) := by unfold atI; rw [hat]
        have hd : decide ((i : Int) < 0) = false := by rw [decide_eq_false_iff_not]; omega
        have HN := Lib.hid (HNxt2.out i hat w4 HB4.out)
        rw [hi]
        clear hi hat HNew2 HNxt2
        go_wp2_with fail
        refine HN.out.mono ?_
        rintro e w5 ⟨A5, c5, rfl, hs5, hb5⟩
        have HS5 := Lib.hid hs5
        have HB5 := Lib.hid (bt HB4.out hb5)
        obtain ⟨r, hr⟩ : ∃ r, r = x.length := ⟨_, rfl⟩
        rw [← hr]
        have HR := Lib.hid hr
        clear hs5 hb5 hr HN p0 p1 p2
        go_wp2_with fail
        exact bodyPost_ret (v := .tuple #[.slice A5 r c5, .int .i64 E]) (by simp [results, Tryz.results18, go_sem]) rfl ⟨A5, c5, ret_v (by rw [← HXx.out, ← HEe.out, HR.out]), by rw [← HXx.out]; exact HS5.out, HB5.out⟩
    · rw [decide_eq_false hm5]
      have HErr := Lib.hid (HA1.out (fun h => hm5 h.2))
      clear hm5
      go_wp2_with fail
      exact bodyPost_ret (v := .tuple #[.slice none 0 0, .int .i64 1]) (by simp [results, Tryz.results18, go_sem]) rfl (added_err HErr.out HB3.out)
  · rw [decide_eq_false hml]
    have HErr := Lib.hid (HA1.out (fun h => hml h.1))
    clear hml
    go_wp2_with fail
    exact bodyPost_ret (v := .tuple #[.slice none 0 0, .int .i64 1]) (by simp [results, Tryz.results18, go_sem]) rfl (added_err HErr.out HB2.out)
end Go.Proofs.YtbmdkibmfkmjoaaGreat.Rg

namespace Go.Proofs.YtbmdkibmfkmjoaaGreat.Op
open Go.RowKit Go.ChangeShapes Go.WideShapes Go.Proofs.YtbmdkibmfkmjoaaGreat.Sc Go.Proofs.YtbmdkibmfkmjoaaGreat.ScM Go.Proofs.YtbmdkibmfkmjoaaGreat.VaM

/-- A schema that came in: its fields lie where its slice says. -/
def ArgS (W : World) (s : ByteArray) (v : Int) (a : Option Addr) (len cap : Nat) : Prop := ∃ l : List F, l.length = len ∧ SlF W a l cap ∧ Fine ⟨s, v, l⟩

set_option maxRecDepth 100000 in
theorem two {H : Type} {enc : TypeId × Value → H} {P : Program} {w : World} {base : Nat} {spare : Nat → Bool} {held : Bool} {t : TypeId} {g0 g1 : Field} {fuel : Nat} {u0 u1 : Value} {x : DataW H × List MemPlace}
    (ht : P.underlying t = some (.struct #[g0, g1])) (h : DataW.trod enc P w base spare held fuel t [u0, u1] = some x) :
    ∃ y0 y1 n, DataW.trod enc P w base spare held n g0.type (([u0, u1].drop g0.offset).take (P.cellsOf g0.type)) = some y0 ∧ DataW.trod enc P w base spare held n g1.type (([u0, u1].drop g1.offset).take (P.cellsOf g1.type)) = some y1 := by
  obtain ⟨ys, n, _, _, _, hn, hat⟩ := DataW.trod_struct ht h
  obtain ⟨a, b, rfl⟩ : ∃ a b, ys = [a, b] := by
    match ys, hn with
    | [a, b], _ => exact ⟨a, b, rfl⟩
  exact ⟨a, b, n, by simpa using hat 0 g0 rfl, by simpa using hat 1 g1 rfl⟩

set_option maxRecDepth 100000 in
theorem open_fields {H : Type} {enc : TypeId × Value → H} {W : World} {fuel : Nat} {v2 : Value} {y2 : DataW H × List MemPlace} (h2 : DataW.trod enc Tryz.prog W 0 (fun _ => true) true fuel 38 [v2] = some y2) :
    ∃ a len cap, v2 = .slice a len cap ∧ ∃ l : List F, l.length = len ∧ SlF W a l cap := by
  rcases Deep.open_slice Tryz.underlying38 h2 with ⟨hcs, _⟩ | ⟨x, l, c, m, k, D, Pl, hcs, _, hl, hm, hmm, _, hr⟩
  · simp only [List.cons.injEq, and_true] at hcs
    subst hcs
    exact ⟨none, 0, 0, rfl, [], rfl, slF_none W⟩
  · simp only [List.cons.injEq, and_true] at hcs
    subst hcs
    simp only [if_true] at hmm
    rw [hmm] at hr
    have each : ∀ i, i < l → ∃ f : F, f.s.size ≤ maxLen ∧ W.cell? (x.add (i * 2)) = some (.string f.s) ∧ W.cell? (x.add (i * 2 + 1)) = some (.int .i64 f.k) := by
      intro i hi
      obtain ⟨cs', hc, ht⟩ := hr i (by omega)
      rw [show Tryz.prog.cellsOf 72 = 2 from by kernel_rfl] at hc
      obtain ⟨_, hlen, hcell⟩ := World.cells?_some hc
      match cs', hlen with
      | [v0, v1], _ =>
        obtain ⟨y0, y1, k, t0, t1⟩ := two Tryz.underlying72 ht
        have c1 : Tryz.prog.cellsOf 3 = 1 := by kernel_rfl
        have c2 : Tryz.prog.cellsOf 9 = 1 := by kernel_rfl
        simp only [c1, c2] at t0 t1
        obtain ⟨f0, e0', _, w0⟩ := DataW.trod_string Tryz.underlying9 t0
        obtain ⟨f1, e1', _, _⟩ := DataW.trod_int Tryz.underlying3 t1
        simp only [List.drop_zero, List.drop_succ_cons, List.take_succ_cons, List.take_zero, List.cons.injEq, and_true] at e0' e1'
        subst e0' e1'
        have g0 := hcell 0 (by decide)
        have g1 := hcell 1 (by decide)
        refine ⟨⟨f0, f1⟩, w0, ?_, ?_⟩
        · rw [Deep.add_add, Nat.add_zero] at g0
          exact g0
        · rw [Deep.add_add] at g1
          exact g1
    let g : Nat → F := fun i => if h : i < l then Classical.choose (each i h) else d0
    have hg : ∀ i, i < l → (g i).s.size ≤ maxLen ∧ W.cell? (x.add (i * 2)) = some (.string (g i).s) ∧ W.cell? (x.add (i * 2 + 1)) = some (.int .i64 (g i).k) := by
      intro i hi
      have e : g i = Classical.choose (each i hi) := dif_pos hi
      rw [e]
      exact Classical.choose_spec (each i hi)
    have hgl : ((List.range l).map g).length = l := by simp
    have hgd : ∀ i, i < l → ((List.range l).map g).getD i d0 = g i := fun i hi => by simp [List.getD_eq_getElem?_getD, hi]
    refine ⟨some x, l, c, rfl, (List.range l).map g, hgl, fun h0 => ?_, by rw [hgl]; exact hl, (fun e => by cases e), hm, fun f hf => ?_⟩
    · rw [hgl] at h0
      obtain ⟨b, o, sp⟩ := x
      have hsp : sp = none := by simpa [Addr.add] using World.cell?_spot (hg 0 h0).2.1
      subst hsp
      refine ⟨b, o, rfl, fun i hi => ?_⟩
      rw [hgl] at hi
      rw [hgd i hi]
      obtain ⟨_, g1, g2⟩ := hg i hi
      rw [Addr.add_lit] at g1 g2
      exact ⟨g1, g2⟩
    · obtain ⟨i, hi, rfl⟩ := List.mem_map.1 hf
      exact (hg i (List.mem_range.1 hi)).1

set_option maxRecDepth 100000 in
theorem open_schema {H : Type} {enc : TypeId × Value → H} {W : World} {r : Reach} {b0 : Nat} {v : Value} {d : DataW H} {p : List MemPlace} (hv : Value.okWide Tryz.prog W r b0 40 v)
    (h : DataW.Trod enc Tryz.prog W 0 (fun _ => true) true 40 v d p) : ∃ s n a len cap, v = .agg #[.string s, .int .i64 n, .slice a len cap] ∧ ArgS W s n a len cap := by
  obtain ⟨v0, v1, v2, y0, y1, y2, fuel, rfl, _, _, h0, h1, h2⟩ := Joins.open_agg3 Tryz.underlying40 (by kernel_rfl) (by kernel_rfl) hv h
  obtain ⟨s, hs, _, ws⟩ := DataW.trod_string Tryz.underlying9 h0
  obtain ⟨n, hn, _, wn⟩ := DataW.trod_int Tryz.underlying3 h1
  simp only [List.cons.injEq, and_true] at hs hn
  subst hs hn
  have hb := bounds_i64 wn
  obtain ⟨a, len, cap, rfl, l, hl, hf⟩ := open_fields h2
  exact ⟨s, n, a, len, cap, rfl, l, hl, hf, ws, by simp only; omega, by simp only; omega⟩

set_option maxRecDepth 100000 in
theorem open_field {H : Type} {enc : TypeId × Value → H} {W : World} {r : Reach} {b0 : Nat} {v : Value} {d : DataW H} {p : List MemPlace} (hv : Value.okWide Tryz.prog W r b0 72 v)
    (h : DataW.Trod enc Tryz.prog W 0 (fun _ => true) true 72 v d p) : ∃ s n, v = .agg #[.string s, .int .i64 n] ∧ s.size ≤ maxLen := by
  obtain ⟨v0, v1, y0, y1, fuel, rfl, _, _, h0, h1⟩ := Joins.open_agg2 Tryz.underlying72 (by kernel_rfl) (by kernel_rfl) hv h
  obtain ⟨s, hs, _, ws⟩ := DataW.trod_string Tryz.underlying9 h0
  obtain ⟨n, hn, _, _⟩ := DataW.trod_int Tryz.underlying3 h1
  simp only [List.cons.injEq, and_true] at hs hn
  subst hs hn
  exact ⟨s, n, rfl, ws⟩
end Go.Proofs.YtbmdkibmfkmjoaaGreat.Op

namespace Go.Proofs.YtbmdkibmfkmjoaaGreat.Op
open Go.RowKit Go.ChangeShapes Go.WideShapes Go.Proofs.YtbmdkibmfkmjoaaGreat.Sc Go.Proofs.YtbmdkibmfkmjoaaGreat.ScM Go.Proofs.YtbmdkibmfkmjoaaGreat.VaM Go.Proofs.YtbmdkibmfkmjoaaGreat.RgM

/-- Schemas that came in lie where their slice says. -/
def ArgL (W : World) (a : Option Addr) (len cap : Nat) : Prop := ∃ l : List Sc, l.length = len ∧ SlS W a l cap

/-- A schema, and where its fields lie. -/
def encS (x : Sc × Option Addr × Nat) : List Value := [.string x.1.s, .int .i64 x.1.v, .slice x.2.1 x.1.f.length x.2.2]

theorem elems_s {W : World} : ∀ L : List (Sc × Option Addr × Nat), (∀ x ∈ L, SlF W x.2.1 x.1.f x.2.2 ∧ Fine x.1) → RG.Elems KS (fun _ => True) W (L.map (·.1)) (L.flatMap encS)
  | [], _ => rfl
  | x :: L, h => by
    obtain ⟨h1, h2⟩ := h x (by simp)
    exact ⟨encS x, L.flatMap encS, rfl, ⟨x.2.1, x.2.2, rfl, h1, h2, fun _ _ _ => True.intro⟩, elems_s L fun y hy => h y (by simp [hy])⟩

theorem cells_s {w : World} {b : Nat} : ∀ (L : List (Sc × Option Addr × Nat)) (o : Nat), (∀ i x, L[i]? = some x → w.cell? ⟨b, o + i * 3, none⟩ = some (.string x.1.s) ∧ w.cell? ⟨b, o + i * 3 + 1, none⟩ = some (.int .i64 x.1.v) ∧ w.cell? ⟨b, o + i * 3 + 2, none⟩ = some (.slice x.2.1 x.1.f.length x.2.2)) →
    ∀ (j : Nat) (u : Value), (L.flatMap encS)[j]? = some u → w.cell? ⟨b, o + j, none⟩ = some u
  | [], _, _, j, u, h => by simp at h
  | x :: L, o, hc, j, u, h => by
    rw [List.flatMap_cons] at h
    obtain ⟨c0, c1, c2⟩ := hc 0 x rfl
    rw [Nat.zero_mul, Nat.add_zero] at c0 c1 c2
    by_cases hj : j < 3
    · rw [List.getElem?_append_left (by simpa [encS] using hj)] at h
      have hw : j = 0 ∨ j = 1 ∨ j = 2 := by omega
      rcases hw with rfl | rfl | rfl
      · obtain rfl : _ = u := by simpa [encS] using h
        exact c0
      · obtain rfl : _ = u := by simpa [encS] using h
        exact c1
      · obtain rfl : _ = u := by simpa [encS] using h
        exact c2
    · rw [List.getElem?_append_right (by simp only [encS, List.length_cons, List.length_nil]; omega)] at h
      have h2 := cells_s L (o + 3) (fun i y hi => by
        have h3 := hc (i + 1) y (by simpa using hi)
        rw [show o + 3 + i * 3 = o + (i + 1) * 3 from by omega]
        exact h3) (j - 3) u h
      rw [show o + 3 + (j - 3) = o + j from by omega] at h2
      exact h2

set_option maxRecDepth 100000 in
theorem open_schemas {H : Type} {enc : TypeId × Value → H} {W : World} {r : Reach} {b0 : Nat} {v : Value} {d : DataW H} {p : List MemPlace} (hv : Value.okWide Tryz.prog W r b0 22 v)
    (h : DataW.Trod enc Tryz.prog W 0 (fun _ => true) true 22 v d p) : ∃ a len cap, v = .slice a len cap ∧ ArgL W a len cap := by
  obtain ⟨a, len, cap, rfl⟩ := okWide_slice Tryz.underlying22 hv
  refine ⟨a, len, cap, rfl, ?_⟩
  obtain ⟨fuel, hf⟩ := h
  simp only [Value.cells] at hf
  rcases Deep.open_slice Tryz.underlying22 hf with ⟨hcs, _⟩ | ⟨x, l, c, m, n, D, Pl, hcs, _, hl, hm, hmm, _, hr⟩
  · simp only [List.cons.injEq, Value.slice.injEq, and_true] at hcs
    obtain ⟨rfl, rfl, rfl⟩ := hcs
    exact ⟨[], rfl, slS_none W⟩
  · simp only [List.cons.injEq, Value.slice.injEq, and_true] at hcs
    obtain ⟨rfl, rfl, rfl⟩ := hcs
    simp only [if_true] at hmm
    subst hmm
    have each : ∀ i, i < len → ∃ y : Sc × Option Addr × Nat, (SlF W y.2.1 y.1.f y.2.2 ∧ Fine y.1) ∧ W.cell? (x.add (i * 3)) = some (.string y.1.s) ∧ W.cell? (x.add (i * 3 + 1)) = some (.int .i64 y.1.v) ∧ W.cell? (x.add (i * 3 + 2)) = some (.slice y.2.1 y.1.f.length y.2.2) := by
      intro i hi
      obtain ⟨cs', hc, ht⟩ := hr i (by omega)
      rw [show Tryz.prog.cellsOf 40 = 3 from by kernel_rfl] at hc
      obtain ⟨_, hlen, hcell⟩ := World.cells?_some hc
      match cs', hlen with
      | [v0, v1, v2], _ =>
        obtain ⟨y0, y1, y2, k, _, _, t0, t1, t2⟩ := Deep.trod_struct3 Tryz.underlying40 ht
        have c0 : Tryz.prog.cellsOf 9 = 1 := by kernel_rfl
        have c1 : Tryz.prog.cellsOf 3 = 1 := by kernel_rfl
        have c2 : Tryz.prog.cellsOf 38 = 1 := by kernel_rfl
        simp only [c0] at t0
        simp only [c1] at t1
        simp only [c2] at t2
        obtain ⟨s, e0', _, w0⟩ := DataW.trod_string Tryz.underlying9 t0
        obtain ⟨n1, e1', _, w1⟩ := DataW.trod_int Tryz.underlying3 t1
        simp only [List.drop_zero, List.drop_succ_cons, List.take_succ_cons, List.take_zero, List.cons.injEq, and_true] at e0' e1' t2
        subst e0' e1'
        obtain ⟨A1, n2, k2, rfl, l2, rfl, hs2⟩ := open_fields t2
        have g0 := hcell 0 (by decide)
        have g1 := hcell 1 (by decide)
        have g2 := hcell 2 (by decide)
        have hb := bounds_i64 w1
        refine ⟨(⟨s, n1, l2⟩, A1, k2), ⟨hs2, w0, by simp only; omega, by simp only; omega⟩, ?_, ?_, ?_⟩
        · rw [Deep.add_add, Nat.add_zero] at g0
          exact g0
        · rw [Deep.add_add] at g1
          exact g1
        · rw [Deep.add_add] at g2
          exact g2
    let g : Nat → Sc × Option Addr × Nat := fun i => if h : i < len then Classical.choose (each i h) else (s0, none, 0)
    have hg : ∀ i, i < len → (SlF W (g i).2.1 (g i).1.f (g i).2.2 ∧ Fine (g i).1) ∧ W.cell? (x.add (i * 3)) = some (.string (g i).1.s) ∧ W.cell? (x.add (i * 3 + 1)) = some (.int .i64 (g i).1.v) ∧ W.cell? (x.add (i * 3 + 2)) = some (.slice (g i).2.1 (g i).1.f.length (g i).2.2) := by
      intro i hi
      have e : g i = Classical.choose (each i hi) := dif_pos hi
      rw [e]
      exact Classical.choose_spec (each i hi)
    have hgl : (((List.range len).map g).map (·.1)).length = len := by simp
    refine ⟨((List.range len).map g).map (·.1), hgl, ⟨((List.range len).map g).flatMap encS, fun h0 => ?_, elems_s _ fun y hy => ?_⟩, by rw [hgl]; exact hl, (fun e => by cases e), hm⟩
    · have hl0 : 0 < len := by
        rcases Nat.eq_zero_or_pos len with e | e
        · subst e
          simp at h0
        · exact e
      obtain ⟨b, o, sp⟩ := x
      have hsp : sp = none := by simpa [Addr.add] using World.cell?_spot (hg 0 hl0).2.1
      subst hsp
      refine ⟨b, o, rfl, cells_s _ o fun i y hi => ?_⟩
      have hi2 : i < len := by
        have := (List.getElem?_eq_some_iff.1 hi).1
        simpa using this
      have hy : y = g i := by
        rw [List.getElem?_map, List.getElem?_range hi2] at hi
        simpa using hi.symm
      subst hy
      obtain ⟨_, g1, g2, g3⟩ := hg i hi2
      rw [Addr.add_lit] at g1 g2 g3
      exact ⟨g1, g2, g3⟩
    · obtain ⟨i, hi, rfl⟩ := List.mem_map.1 hy
      exact (hg i (List.mem_range.1 hi)).1
end Go.Proofs.YtbmdkibmfkmjoaaGreat.Op

namespace Go.Proofs.YtbmdkibmfkmjoaaGreat.Qy
open Go.RowKit Go.Proofs.YtbmdkibmfkmjoaaGreat.BM Go.Proofs.YtbmdkibmfkmjoaaGreat.LM Go.Proofs.YtbmdkibmfkmjoaaGreat.LeM Go.Proofs.YtbmdkibmfkmjoaaGreat.VaM Go.Proofs.YtbmdkibmfkmjoaaGreat.ExM Go.Proofs.YtbmdkibmfkmjoaaGreat.QyM
open Go.Proofs.YtbmdkibmfkmjoaaGreat.Ex (SlO slO_none)
open Go.Proofs.YtbmdkibmfkmjoaaGreat.Va (Bx bx_new_t ret_v)
open Go.Proofs.YtbmdkibmfkmjoaaGreat.Sc (SlS SlF)
open Go.Proofs.YtbmdkibmfkmjoaaGreat.ScM (Sc)

set_option maxRecDepth 100000 in
set_option maxHeartbeats 16000000 in
theorem grows_walk (la : Option Addr) (m lc : Nat) (sn : ByteArray) (v : Int) (b : Option Addr) (k d : Nat) (qw qa qi qf : Int) (a : Option Addr) (n c : Nat) (w : World) (hl' : Op.ArgL w la m lc) (hs' : Op.ArgS w sn v b k d) (hq' : Op.ArgQ w qw qa qi qf a n c) :
    Calls Tryz.prog 4 #[.slice la m lc, .agg #[.string sn, .int .i64 v, .slice b k d], .agg #[.slice a n c, .int .i64 qw, .int .i64 qa, .int .i64 qi, .int .i64 qf]] w fun e w' => e = .returned (.bool true) ∧ Below w.heap.size w w' := by
  obtain ⟨l, hlm, hS⟩ := hl'
  obtain ⟨f, hfk, hU, hfz⟩ := hs'
  obtain ⟨p, hlen, hT, _⟩ := hq'
  have hF := fun W (hW : Below w.heap.size w W) => Few_any ⟨p, qw, qa, qi, qf⟩ a c W (hT.kept hW)
  have hG := fun W (hW : Below w.heap.size w W) => Rg.Few_any l la lc W (hS.kept hW)
  have hH := fun W (hW : Below w.heap.size w W) => Sc.Few_any ⟨sn, v, f⟩ b d W (hU.kept hW) hfz.1
  have hC := fun W (hW : Below w.heap.size w W) => Check_any l ⟨p, qw, qa, qi, qf⟩ la lc a c W (hS.kept hW) (hT.kept hW)
  have hA := fun W (hW : Below w.heap.size w W) => Rg.Add_any l ⟨sn, v, f⟩ la lc b d W (hS.kept hW) (hU.kept hW) hfz
  have hmore := fun h => @check_more l ⟨sn, v, f⟩ h ⟨p, qw, qa, qi, qf⟩
  have hC2 := fun x A r W (h : SlS W A x r) (hW : Below w.heap.size w W) => Check_any x ⟨p, qw, qa, qi, qf⟩ A r a c W h (hT.kept hW)
  unfold Rg.Added at hA
  unfold agQ at hF hC hC2
  simp only [hlen, hlm, hfk] at hF hG hH hC hA hC2
  obtain ⟨X, hX⟩ : ∃ q : Q, q = ⟨p, qw, qa, qi, qf⟩ := ⟨_, rfl⟩
  simp only [← hX] at hF hC hC2 hmore
  obtain ⟨x, hx⟩ : ∃ x, x = (RgM.add l ⟨sn, v, f⟩).1 := ⟨_, rfl⟩
  obtain ⟨E, hE⟩ : ∃ E, E = (RgM.add l ⟨sn, v, f⟩).2 := ⟨_, rfl⟩
  obtain ⟨D, hD⟩ : ∃ E, E = check l X := ⟨_, rfl⟩
  simp only [← hx, ← hE] at hA hmore
  simp only [← hD] at hC hmore
  obtain ⟨xl, hxl⟩ : ∃ n, n = x.length := ⟨_, rfl⟩
  simp only [← hxl] at hA
  have hC2' := hC2 x
  simp only [← hxl] at hC2'
  obtain ⟨P, hP⟩ : ∃ P, P = decide (Few X) := ⟨_, rfl⟩
  obtain ⟨Z, hZ⟩ : ∃ P, P = decide (Rg.Few l) := ⟨_, rfl⟩
  obtain ⟨Y, hY⟩ : ∃ P, P = decide (Sc.Few ⟨sn, v, f⟩) := ⟨_, rfl⟩
  simp only [← hP] at hF
  simp only [← hZ] at hG
  simp only [← hY] at hH
  have HF := Lib.hid hF
  have HG := Lib.hid hG
  have HH := Lib.hid hH
  have HC := Lib.hid hC
  have HA := Lib.hid hA
  have HC2 := Lib.hid hC2'
  have HMore := Lib.hid hmore
  obtain ⟨u1, hu1⟩ : ∃ u, u = w.alloc (.cells #[.string sn, .int .i64 v, .slice b k d] 40) := ⟨_, rfl⟩
  have hs1 : u1.heap.size = w.heap.size + 1 := by rw [hu1]; simp
  have hb1 := (Below.refl w.heap.size w).alloc (Nat.le_refl _) (.cells #[.string sn, .int .i64 v, .slice b k d] 40)
  have hx1 := bx_new_t w 40 (.string sn) (.int .i64 v) (.slice b k d)
  rw [← hu1] at hb1 hx1
  have hb2 := below_box u1 a n c qw qa qi qf
  have hx2 := bxQ5_new u1 a n c qw qa qi qf
  rw [hs1] at hx2
  have hk1 := hx1.kept hb2
  have hbb := bt hb1 hb2
  rw [hu1] at hx2 hk1 hbb
  have HX := Lib.hid hk1
  have HY := Lib.hid hx2
  have HB := Lib.hid hbb
  clear hb1 hx1 hb2 hx2 hk1 hbb hs1 hu1 u1 hF hG hH hC hA hC2 hC2' hmore hxl hX hx hE hD hP hZ hY hS hU hT hlen hlm hfk hfz
  go_enter Tryz.func4, Tryz.ntmps4
  go_wp2_with fail
  refine (awake_any _).mono ?_
  rintro e w1 ⟨rfl, hb⟩
  have HB1 := Lib.hid (bt HB.out hb)
  have HX1 := Lib.hid (HX.out.kept hb)
  have HY1 := Lib.hid (HY.out.kept hb)
  clear hb HB HX HY
  obtain ⟨p0, p1, p2, p3, p4⟩ := bx5 HY1.out
  go_wp2_with fail
  refine (HF.out _ HB1.out).mono ?_
  rintro e w2 ⟨rfl, hb⟩
  have HB2 := Lib.hid (bt HB1.out hb)
  have HX2 := Lib.hid (HX1.out.kept hb)
  have HY2 := Lib.hid (HY1.out.kept hb)
  clear hb HB1 HX1 HY1 HF p0 p1 p2 p3 p4
  go_wp2_with fail
  refine (HG.out _ HB2.out).mono ?_
  rintro e w3 ⟨rfl, hb⟩
  have HB3 := Lib.hid (bt HB2.out hb)
  have HX3 := Lib.hid (HX2.out.kept hb)
  have HY3 := Lib.hid (HY2.out.kept hb)
  clear hb HB2 HX2 HY2 HG
  obtain ⟨⟨r0, r1, r2⟩, _⟩ := HX3.out
  go_wp2_with fail
  refine (HH.out _ HB3.out).mono ?_
  rintro e w4 ⟨rfl, hb⟩
  have HB4 := Lib.hid (bt HB3.out hb)
  have HX4 := Lib.hid (HX3.out.kept hb)
  have HY4 := Lib.hid (HY3.out.kept hb)
  clear hb HB3 HX3 HY3 HH r0 r1 r2
  by_cases hpq : P = true ∧ Z = true ∧ Y = true
  rotate_left
  · have hw : P = false ∨ (P = true ∧ Z = false) ∨ (P = true ∧ Z = true ∧ Y = false) := by
      revert hpq
      cases P <;> cases Z <;> cases Y <;> simp
    clear hpq
    rcases hw with rfl | ⟨rfl, rfl⟩ | ⟨rfl, rfl, rfl⟩
    all_goals
      go_wp2_with fail
      go_ret
      exact ⟨ret_v (x := .bool true) rfl, HB4.out⟩
  obtain ⟨rfl, rfl, rfl⟩ := hpq
  obtain ⟨p0, p1, p2, p3, p4⟩ := bx5 HY4.out
  go_wp2_with fail
  refine (HC.out _ HB4.out).mono ?_
  rintro e w5 ⟨rfl, hb⟩
  have HB5 := Lib.hid (bt HB4.out hb)
  have HX5 := Lib.hid (HX4.out.kept hb)
  have HY5 := Lib.hid (HY4.out.kept hb)
  clear hb HB4 HX4 HY4 HC p0 p1 p2 p3 p4
  by_cases hD : D = 0
  rotate_left
  · have hd : (D != 0) = true := by rw [bne_iff_ne]; exact hD
    clear hD
    go_wp2_with fail
    go_ret
    exact ⟨ret_v (x := .bool true) rfl, HB5.out⟩
  subst hD
  obtain ⟨⟨r0, r1, r2⟩, _⟩ := HX5.out
  go_wp2_with fail
  refine (HA.out _ HB5.out).mono ?_
  rintro e w6 ⟨A6, c6, rfl, hs6, hb⟩
  have HB6 := Lib.hid (bt HB5.out hb)
  have HY6 := Lib.hid (HY5.out.kept hb)
  have HC6 := Lib.hid (HC2.out A6 c6 _ hs6 HB6.out)
  clear hb hs6 HB5 HX5 HY5 HA HC2 r0 r1 r2
  obtain ⟨p0, p1, p2, p3, p4⟩ := bx5 HY6.out
  by_cases hE : E = 0
  rotate_left
  · have hd : (E != 0) = true := by rw [bne_iff_ne]; exact hE
    clear hE
    go_wp2_with fail
    go_ret
    exact ⟨ret_v (x := .bool true) rfl, HB6.out⟩
  subst hE
  have HC7 := Lib.hid HC6.out
  rw [HMore.out (by trivial) (by trivial)] at HC7
  clear HMore HC6
  go_wp2_with fail
  refine HC7.out.mono ?_
  rintro e w7 ⟨rfl, hb⟩
  have HB7 := Lib.hid (bt HB6.out hb)
  clear hb HC7
  go_wp2_with fail
  go_ret
  exact ⟨ret_v (x := .bool true) (by first | rfl | simp), HB7.out⟩
end Go.Proofs.YtbmdkibmfkmjoaaGreat.Qy

namespace Go.Proofs.YtbmdkibmfkmjoaaGreat.queryGrows
open Go.ChangeShapes Go.WideShapes Go.ChangeAt Go.RowKit

theorem own : ownKnob Tryz.prog.godebug = none := by kernel_rfl
theorem laidOut : laidOutB Tryz.prog = true := by kernel_rfl

set_option maxRecDepth 100000 in
theorem lifted (os : Os) (started : os.Started) (H : Type) (enc : TypeId × Value → H) :
    ReturnsInHanded {} Tryz.checked os 4 .any (Rows.queryGrowsSpec.pre6 enc Tryz.prog Tryz.f4 Rows.queryGrowsRow.domain false) (Rows.queryGrowsSpec.post enc Tryz.prog Tryz.f4 false true false false) := by
  refine returnsInHanded_of_change (C := Tryz.checked) own started (by kernel_rfl) Tryz.func4
    (ChangeSpec.witness6 (enc := enc) (C := Tryz.checked) false ⟨#[], #[.slice none 0 0, .agg #[.string ⟨#[]⟩, .int .i64 0, .slice none 0 0], .agg #[.slice none 0 0, .int .i64 0, .int .i64 0, .int .i64 0, .int .i64 0]], []⟩ 8 (by kernel_rfl) (by kernel_rfl) (by kernel_rfl) (by kernel_rfl)) ?_
  intro W base args ds gs before hval0 hW hcnd _
  have hval : ∀ (j : Nat) t v, Tryz.f4.params[j]? = some t → args[j]? = some v → Value.okWide Tryz.prog W .any base t v := hval0
  have hW' := hW
  obtain ⟨p, q, hA0, hV, rfl, hfz, hnd⟩ := hW
  have hA : DataW.TrodAll enc Tryz.prog W 0 (fun _ => true) true Tryz.f4.params.toList args.toList ds p := hA0
  rw [Tryz.params4] at hA hval
  obtain ⟨v0, vs0, d0, ds0, p0, q0, hargs, rfl, rfl, h0, r0⟩ := trodAll_cons hA
  obtain ⟨v1, vs1, d1, ds1, p1, q1, rfl, rfl, rfl, h1, r1⟩ := trodAll_cons r0
  obtain ⟨v2, vs2, d2, ds2, p2, q2, rfl, rfl, rfl, h2, r2⟩ := trodAll_cons r1
  obtain ⟨rfl, rfl, rfl⟩ := trodAll_nil r2
  obtain rfl : args = #[v0, v1, v2] := by cases args; simp_all
  obtain ⟨rfl, rfl⟩ := trodVars_none hV
  have k0 := h0
  have lt0 : ∀ x ∈ p0, x.block < W.heap.size := by obtain ⟨m, hm⟩ := k0; exact DataW.trod_lt m _ _ _ hm
  obtain ⟨a0, len0, cap0, rfl, w0⟩ := Op.open_schemas (hval 0 22 v0 rfl rfl) h0
  have k1 := h1
  have lt1 : ∀ x ∈ p1, x.block < W.heap.size := by obtain ⟨m, hm⟩ := k1; exact DataW.trod_lt m _ _ _ hm
  obtain ⟨ss1, nn1, a1, len1, cap1, rfl, w1⟩ := Op.open_schema (hval 1 40 v1 rfl rfl) h1
  have k2 := h2
  have lt2 : ∀ x ∈ p2, x.block < W.heap.size := by obtain ⟨m, hm⟩ := k2; exact DataW.trod_lt m _ _ _ hm
  obtain ⟨qw2, qa2, qi2, qf2, a2, len2, cap2, rfl, w2⟩ := Op.open_query (hval 2 25 v2 rfl rfl) h2
  clear hA0 hval0
  refine (Go.Proofs.YtbmdkibmfkmjoaaGreat.Qy.grows_walk a0 len0 cap0 ss1 nn1 a1 len1 cap1 qw2 qa2 qi2 qf2 a2 len2 cap2 W w0 w1 w2).mono fun e W' ⟨he, bel⟩ => ?_
  subst he
  exact ⟨_, rfl, _, _, _, [], _, [], hW', trodAll_mk1 (shut_bool Tryz.underlying4 _), (trodAll_cons_mk (Below.trod laidOut (by kernel_rfl) (of_decide_eq_true (by kernel_rfl)) k0 bel lt0) (trodAll_cons_mk (Below.trod laidOut (by kernel_rfl) (of_decide_eq_true (by kernel_rfl)) k1 bel lt1) (trodAll_cons_mk (Below.trod laidOut (by kernel_rfl) (of_decide_eq_true (by kernel_rfl)) k2 bel lt2) trodAll_mk0))), rfl, bel.frame _, fun h => by cases h⟩

theorem over : Rows.queryGrowsRow.holds Tryz.pinned (OpenSpec.ofChange Rows.queryGrowsSpec) :=
  OpenClaim.holds_of_wide 4 Tryz.f4 rfl rfl rfl rfl rfl rfl rfl ⟨rfl, rfl, rfl, rfl, rfl⟩ rfl rfl rfl rfl rfl (by kernel_rfl) Tryz.func4 (by kernel_rfl)
    (of_decide_eq_true (by kernel_rfl)) (by unfold Func.isWrapper; first | (rw [if_pos (by decide +kernel)]; kernel_rfl) | (rw [if_neg (by decide +kernel)]; exact ⟨rfl, rfl⟩))
    (fun os started H enc _ => lifted os started H enc)

theorem proved : Rows.QueryGrowsSaid := over
#print axioms proved
end Go.Proofs.YtbmdkibmfkmjoaaGreat.queryGrows
