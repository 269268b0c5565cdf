/- The chapter's example holds, and whether a schema has few fields; asked: the fields lie where the slice says. -/
import Derived.Test.YtjbpacciaeifaaaSchemaGet
import Derived.Test.YtjbpacciaeifaaaSchemaPut
namespace Go.Proofs.Ytjbpacciaeifaaa.Sc
open Go.RowKit Go.Proofs.Ytjbpacciaeifaaa.BM Go.Proofs.Ytjbpacciaeifaaa.LM Go.Proofs.Ytjbpacciaeifaaa.LeM Go.Proofs.Ytjbpacciaeifaaa.VaM Go.Proofs.Ytjbpacciaeifaaa.Va Go.Proofs.Ytjbpacciaeifaaa.ScM

/-- A schema of few fields. -/
def Few (s : Sc) : Prop := s.s.size ≤ 60 ∧ s.f.length ≤ 10 ∧ ∀ i, i < s.f.length → (s.f.getD i d0).s.size ≤ 60
instance (s : Sc) : Decidable (Few s) := by unfold Few; infer_instance

set_option maxRecDepth 100000 in
set_option maxHeartbeats 1000000 in
theorem Few_any (s : Sc) (A : Option Addr) (c : Nat) (w : World) (hS : SlF w A s.f c) (hz : s.s.size ≤ maxLen) :
    Calls Try.prog 11 #[.agg #[.string s.s, .int .i64 s.v, .slice A s.f.length c]] w fun e w' => e = .returned (.bool (decide (Few s))) ∧ Below w.heap.size w w' := by
  obtain ⟨nm, v, l⟩ := s
  simp only at hS hz ⊢
  unfold maxLen at hz
  have hl := slF_len hS
  have hfew : Few ⟨nm, v, l⟩ ↔ nm.size ≤ 60 ∧ l.length ≤ 10 ∧ ∀ i, i < l.length → (l.getD i d0).s.size ≤ 60 := Iff.rfl
  obtain ⟨n, hn⟩ : ∃ n, n = l.length := ⟨_, rfl⟩
  rw [← hn] at hl hfew ⊢
  have HLen := Lib.hid hn
  have HS := Lib.hid hS
  have HFew := Lib.hid hfew
  have HX0 := Lib.hid (bx_new_t w 24 (.string nm) (.int .i64 v) (.slice A n c))
  have HB0 := Lib.hid ((Below.refl w.heap.size w).alloc (Nat.le_refl _) (.cells #[.string nm, .int .i64 v, .slice A n c] 24))
  clear hn hS hfew
  obtain ⟨⟨p0, p1, p2⟩, _⟩ := HX0.out
  by_cases m1 : nm.size ≤ 60
  · have hd1 : decide ((60 : Int) < (nm.size : Int)) = false := by rw [decide_eq_false_iff_not]; omega
    by_cases m2 : n ≤ 10
    · have hd2 : decide ((10 : Int) < (n : Int)) = false := by rw [decide_eq_false_iff_not]; omega
      have HF := Lib.hid (show Few ⟨nm, v, l⟩ ↔ ∀ i, i < n → (l.getD i d0).s.size ≤ 60 from ⟨fun h => (HFew.out.1 h).2.2, fun h => HFew.out.2 ⟨m1, m2, h⟩⟩)
      clear m1 HFew
      go_enter Try.func11, Try.ntmps11
      go_wp2_with fail
      obtain ⟨w1, hw1⟩ : ∃ w1, w1 = w.alloc (.cells #[.string nm, .int .i64 v, .slice A n c] 24) := ⟨_, rfl⟩
      rw [← hw1] at HX0 HB0 ⊢
      clear hw1 p0 p1 p2
      go_loopw [3] (fun i wr => ∃ j : Nat, i = .int .i64 j ∧ j ≤ n ∧ (∀ r, r < j → (l.getD r d0).s.size ≤ 60) ∧ wr = w1) (fun i _ => n - (intOf i).toNat)
      case atStart => exact ⟨0, rfl, Nat.zero_le _, fun r hr => absurd hr (Nat.not_lt_zero r), rfl⟩
      case round =>
        obtain ⟨j, rfl, hj, hall, rfl⟩ := hrel
        have HAl := Lib.hid hall
        obtain ⟨⟨_, _, p2⟩, _⟩ := HX0.out
        clear hall
        by_cases hjn : j < n
        · obtain ⟨b, q, hix, hc, hsz⟩ := HS.out.at j (by rw [← HLen.out]; exact hjn)
          obtain ⟨⟨fs, fk⟩, hf⟩ : ∃ f, f = l.getD j d0 := ⟨_, rfl⟩
          rw [← hf] at hc hsz
          obtain ⟨c0, _⟩ := hc wr HB0.out
          simp only at c0 hsz
          unfold maxLen at hsz
          have hi := fun W => hix W n c hjn
          have HFl := Lib.hid hf
          clear hc hix hf
          by_cases h60 : fs.size ≤ 60
          · have hd3 : decide ((60 : Int) < (fs.size : Int)) = false := by rw [decide_eq_false_iff_not]; omega
            have HY := Lib.hid h60
            clear h60
            go_wp2_with fail
            go_roundw
            case rel =>
              refine ⟨j + 1, by go_num, by omega, fun r hr => ?_, by trivial⟩
              by_cases e : r = j
              · rw [e, ← HFl.out]
                exact HY.out
              · exact HAl.out r (by omega)
            case measure => simp [intOf]; omega
          · have hd3 : decide ((60 : Int) < (fs.size : Int)) = true := by rw [decide_eq_true_iff]; omega
            have HNo := Lib.hid (show ¬ Few ⟨nm, v, l⟩ from fun h => h60 (by have := HF.out.1 h j hjn; rw [← HFl.out] at this; exact this))
            clear h60
            go_wp2_with fail
            go_ret
            exact ⟨ret_v (x := .bool false) (by rw [decide_eq_false HNo.out]), HB0.out⟩
        · obtain rfl : j = n := by omega
          have HYes := Lib.hid (HF.out.2 HAl.out)
          go_wp2_with fail
          go_ret
          exact ⟨ret_v (x := .bool true) (by rw [decide_eq_true HYes.out]), HB0.out⟩
    · have hd2 : decide ((10 : Int) < (n : Int)) = true := by rw [decide_eq_true_iff]; omega
      have HNo := Lib.hid (show ¬ Few ⟨nm, v, l⟩ from fun h => m2 (HFew.out.1 h).2.1)
      clear m2 m1
      go_enter Try.func11, Try.ntmps11
      go_wp2_with fail
      go_ret
      exact ⟨ret_v (x := .bool false) (by rw [decide_eq_false HNo.out]), HB0.out⟩
  · have hd1 : decide ((60 : Int) < (nm.size : Int)) = true := by rw [decide_eq_true_iff]; omega
    have HNo := Lib.hid (show ¬ Few ⟨nm, v, l⟩ from fun h => m1 (HFew.out.1 h).1)
    clear m1
    go_enter Try.func11, Try.ntmps11
    go_wp2_with fail
    go_ret
    exact ⟨ret_v (x := .bool false) (by rw [decide_eq_false HNo.out]), HB0.out⟩

/-- The chapter's example. -/
def ex : Sc := ⟨⟨#[97]⟩, 1, []⟩
theorem ex_may : May ex := by decide
theorem ex_pv : pv ex = [1, 97, 1, 0] := by
  rw [pv, if_pos ex_may]
  show (putL 1 ++ [97] ++ (putL 1 ++ putL 0)) ++ [] = _
  rw [putL_lt (by decide), putL_lt (by decide)]
  rfl
theorem ex_get : gotS (gS [1, 97, 1, 0]) = (ex, 4, true) := by
  have h := gS_app ex_may (ys := []) (by simp)
  rw [List.append_nil] at h
  have e : pS ex = [1, 97, 1, 0] := by
    rw [← ex_pv, pv, if_pos ex_may]
  rw [e] at h
  rw [h]
  rfl

set_option maxRecDepth 100000 in
set_option maxHeartbeats 2000000 in
theorem awake_any (w : World) : Calls Try.prog 10 #[] w fun e w' => e = .returned (.bool true) ∧ Below w.heap.size w w' := by
  have hfine : Fine ex := ⟨by unfold maxLen; decide, by decide, by decide⟩
  have hput := fun W => Put_any ex none 0 W (slF_none W) hfine
  have hmy := fun (W : World) (A : Option Addr) (c : Nat) (h : SlF W A ex.f c) => May_any ex A c W h hfine
  have hn1 := fun W => Name_any ⟨#[97, 95, 49]⟩ W (by unfold maxLen; decide)
  have hn2 := fun W => Name_any ⟨#[49, 97]⟩ W (by unfold maxLen; decide)
  rw [show decide (Nm ⟨#[97, 95, 49]⟩) = true from by decide] at hn1
  rw [show decide (Nm ⟨#[49, 97]⟩) = false from by decide] at hn2
  rw [show decide (May ex) = true from decide_eq_true ex_may] at hmy
  have hee : ((ByteArray.mk #[97]).toList == (ByteArray.mk #[97]).toList) = true := by simp
  have HPut := Lib.hid hput
  have HMy := Lib.hid hmy
  have HN1 := Lib.hid hn1
  have HN2 := Lib.hid hn2
  clear hput hmy hn1 hn2 hfine
  go_enter Try.func10, Try.ntmps10
  go_wp2_with fail
  refine (HPut.out _).mono ?_
  rintro e w1 ⟨A, c, rfl, hs1, _, hb1⟩
  rw [ex_pv] at hs1 ⊢
  rw [decide_eq_true ex_may]
  have hget := Get_any A [1, 97, 1, 0] c w1 hs1
  obtain ⟨b, o, rfl, hcell⟩ := hs1.1.2 (by decide)
  have HCell := Lib.hid hcell
  have HGet := Lib.hid hget
  have HB1 := Lib.hid hb1
  have hlen : ([1, 97, 1, 0] : List Int).length = 4 := rfl
  rw [hlen] at HGet ⊢
  clear hs1 hb1 hcell hget hlen
  go_wp2_with fail
  refine HGet.out.mono ?_
  rintro e w2 ⟨A2, c2, rfl, hs2, _, hb2⟩
  rw [ex_get] at hs2 ⊢
  simp only [got3, ex] at hs2 ⊢
  have ha3 := (Below.refl w2.heap.size w2).alloc (Nat.le_refl _) (.cells #[.string ⟨#[97]⟩, .int .i64 1, .slice A2 0 c2] 24)
  have HB3 := Lib.hid (bt HB1.out (bt hb2 ha3))
  have hat : ∀ j, j < 4 → (w2.alloc (.cells #[.string ⟨#[97]⟩, .int .i64 1, .slice A2 0 c2] 24)).cell? ⟨b, o + j, none⟩ = some (.int .u8 (([1, 97, 1, 0] : List Int).getD j 0)) := fun j hj => by
    have h1 := HCell.out j hj
    rw [(bt hb2 ha3).cell (p := ⟨b, o + j, none⟩) (World.block_lt_of_cell? w1 _ h1)]
    exact h1
  have c0 := hat 0 (by decide)
  have c1 := hat 1 (by decide)
  have c2' := hat 2 (by decide)
  have c3 := hat 3 (by decide)
  rw [Nat.add_zero] at c0
  simp only [List.getD_cons_zero, List.getD_cons_succ] at c0 c1 c2' c3
  have HX3 := Lib.hid (bx_new_t w2 24 (.string ⟨#[97]⟩) (.int .i64 1) (.slice A2 0 c2))
  have HS3 := Lib.hid (hs2.kept ha3)
  obtain ⟨⟨x0, x1, x2⟩, _⟩ := HX3.out
  clear hb2 ha3 hat hs2 HGet HCell
  go_wp2_with fail
  refine (HN1.out _).mono ?_
  rintro e w4 ⟨rfl, hb4⟩
  have HB4 := Lib.hid (bt HB3.out hb4)
  have HX4 := Lib.hid (HX3.out.kept hb4)
  have HS4 := Lib.hid (HS3.out.kept hb4)
  clear hb4 HB3 HX3 HS3 x0 x1 x2 c0 c1 c2' c3
  go_wp2_with fail
  refine (HN2.out _).mono ?_
  rintro e w5 ⟨rfl, hb5⟩
  have HB5 := Lib.hid (bt HB4.out hb5)
  have HX5 := Lib.hid (HX4.out.kept hb5)
  have HMy2 := Lib.hid (HMy.out w5 A2 c2 (HS4.out.kept hb5))
  simp only [ex, List.length_nil] at HMy2
  obtain ⟨⟨x0, x1, x2⟩, _⟩ := HX5.out
  clear hb5 HB4 HX4 HS4
  go_wp2_with fail
  refine HMy2.out.mono ?_
  rintro e w6 ⟨rfl, hb6⟩
  have HB6 := Lib.hid (bt HB5.out hb6)
  clear hb6 x0 x1 x2
  go_wp2_with fail
  go_ret
  exact ⟨ret_v (x := .bool true) rfl, HB6.out⟩
end Go.Proofs.Ytjbpacciaeifaaa.Sc
