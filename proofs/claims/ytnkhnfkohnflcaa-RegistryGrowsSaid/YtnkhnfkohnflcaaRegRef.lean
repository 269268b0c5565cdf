/- at and May of the document's answers; asked: the schemas lie where the slice says. -/
import Derived.Test.YtnkhnfkohnflcaaSchemaList
import Derived.Test.YtnkhnfkohnflcaaSchemaRefMay
namespace Go.Proofs.Ytnkhnfkohnflcaa.Rg
open Go.RowKit Go.Proofs.Ytnkhnfkohnflcaa.BM Go.Proofs.Ytnkhnfkohnflcaa.VaM Go.Proofs.Ytnkhnfkohnflcaa.Va Go.Proofs.Ytnkhnfkohnflcaa.Sc Go.Proofs.Ytnkhnfkohnflcaa.RgM
open Go.Proofs.Ytnkhnfkohnflcaa.ScM (Sc)

theorem atI_some {l : List Sc} {n : ByteArray} {j : Nat} (hj : j < l.length) (h : (l.getD j s0).s = n) (hne : ∀ x, x < j → (l.getD x s0).s ≠ n) : atI l n = (j : Int) := by
  unfold atI
  rw [at_some.2 ⟨hj, h, hne⟩]

theorem atI_none {l : List Sc} {n : ByteArray} (hne : ∀ x, x < l.length → (l.getD x s0).s ≠ n) : atI l n = -1 := by
  unfold atI
  rw [at_none.2 hne]

set_option maxRecDepth 100000 in
set_option maxHeartbeats 1000000 in
theorem refAt_any (l : List Sc) (nm : ByteArray) (A : Option Addr) (c : Nat) (w : World) (hS : SlS w A l c) :
    Calls Try.prog 26 #[.slice A l.length c, .string nm] w fun e w' => e = .returned (.int .i64 (atI l nm)) ∧ w = w' := by
  have hl := slS_len hS
  have hyes := fun j => @atI_some l nm j
  have hno := @atI_none l nm
  obtain ⟨R, hR⟩ : ∃ R, R = atI l nm := ⟨_, rfl⟩
  rw [← hR] at hno ⊢
  simp only [← hR] at hyes
  obtain ⟨n, hn⟩ : ∃ n, n = l.length := ⟨_, rfl⟩
  rw [← hn] at hl hno ⊢
  simp only [← hn] at hyes
  have HLen := Lib.hid hn
  have HS := Lib.hid hS
  have HYes := Lib.hid hyes
  have HNo := Lib.hid hno
  clear hn hS hyes hno hR
  go_enter Try.func26, Try.ntmps26
  go_wp2_with fail
  go_loopw [5] (fun i wr => ∃ j : Nat, i = .int .i64 j ∧ j ≤ n ∧ (∀ r, r < j → (l.getD r s0).s ≠ nm) ∧ wr = w) (fun i _ => n - (intOf i).toNat)
  case atStart => exact ⟨0, rfl, Nat.zero_le _, fun r hr => absurd hr (Nat.not_lt_zero r), rfl⟩
  case round =>
    obtain ⟨j, rfl, hj, hne, rfl⟩ := hrel
    have HNe := Lib.hid hne
    clear hne
    by_cases hjn : j < n
    · obtain ⟨b, q, A1, c1, hix, hc, _⟩ := HS.out.at j (by rw [← HLen.out]; exact hjn)
      obtain ⟨fs, hf⟩ : ∃ f, f = (l.getD j s0).s := ⟨_, rfl⟩
      obtain ⟨⟨x0, _⟩, _⟩ := hc wr (Below.refl _ _)
      rw [← hf] at x0
      have hi := fun W => hix W n c hjn
      have HF := Lib.hid hf
      clear hc hix hf
      by_cases he : fs = nm
      · have hee : (fs.toList == nm.toList) = true := by rw [he]; simp
        have HR := Lib.hid (show (j : Int) = R from (HYes.out j hjn (by rw [← HF.out]; exact he) HNe.out).symm)
        clear he
        go_wp2_with fail
        go_ret
        exact ⟨ret_v (x := .int .i64 (j : Int)) (by rw [HR.out]), rfl⟩
      · have hee := str_ne he
        have HE := Lib.hid he
        clear he
        go_wp2_with fail
        go_roundw
        case rel =>
          refine ⟨j + 1, by go_num, by omega, fun r hr => ?_, by trivial⟩
          by_cases e : r = j
          · rw [e, ← HF.out]
            exact HE.out
          · exact HNe.out r (by omega)
        case measure => simp [intOf]; omega
    · obtain rfl : j = n := by omega
      have HR := Lib.hid (show (-1 : Int) = R from (HNo.out HNe.out).symm)
      go_wp2_with fail
      go_ret
      exact ⟨ret_v (x := .int .i64 (-1)) (by rw [HR.out]), rfl⟩

set_option maxRecDepth 100000 in
set_option maxHeartbeats 2000000 in
theorem refMay_any (l : List Sc) (A : Option Addr) (c : Nat) (w : World) (hS : SlS w A l c) :
    Calls Try.prog 17 #[.slice A l.length c] w fun e w' => e = .returned (.bool (decide (May l))) ∧ Below w.heap.size w w' := by
  have hl := slS_len hS
  have hmay : May l ↔ LGd l l.length ∧ l.length ≤ 8 := Iff.rfl
  have hat := fun W (h : Below w.heap.size w W) nm => refAt_any l nm A c W (hS.kept h)
  have hself := fun j => @at_self l j
  obtain ⟨n, hn⟩ : ∃ n, n = l.length := ⟨_, rfl⟩
  rw [← hn] at hl hmay ⊢
  simp only [← hn] at hat hself
  have HLen := Lib.hid hn
  have HS := Lib.hid hS
  have HMay := Lib.hid hmay
  have HAt := Lib.hid hat
  have HSelf := Lib.hid hself
  clear hn hS hmay hat hself
  go_enter Try.func17, Try.ntmps17
  go_wp2_with fail
  go_loopw [3] (fun i wr => ∃ j : Nat, i = .int .i64 j ∧ j ≤ n ∧ LGd l j ∧ Below w.heap.size w wr) (fun i _ => n - (intOf i).toNat)
  case atStart => exact ⟨0, rfl, Nat.zero_le _, fun r hr => absurd hr (Nat.not_lt_zero r), Below.refl _ _⟩
  case round =>
    obtain ⟨j, rfl, hj, hgood, hbel⟩ := hrel
    have HG := Lib.hid hgood
    have HBl := Lib.hid hbel
    clear hgood hbel
    by_cases hjn : j < n
    · obtain ⟨b, q, A1, c1, hix, hc, hfine⟩ := HS.out.at j (by rw [← HLen.out]; exact hjn)
      obtain ⟨i0, hi0, hs0⟩ := HSelf.out j hjn
      have hiff : (ScM.May (l.getD j s0) ∧ At l (l.getD j s0).s = some j) ↔ ScM.May (l.getD j s0) ∧ i0 = j := by rw [hs0]; simp
      have hats : atI l (l.getD j s0).s = (i0 : Int) := by unfold atI; rw [hs0]
      obtain ⟨f, hf⟩ : ∃ f, f = l.getD j s0 := ⟨_, rfl⟩
      rw [← hf] at hc hfine hiff hats
      obtain ⟨⟨x0, x1, x2⟩, y0⟩ := hc wr HBl.out
      have HC := Lib.hid hc
      have HM5 := Lib.hid (fun W (h : Below w.heap.size w W) => Go.Proofs.Ytnkhnfkohnflcaa.Sc.refMay_any f A1 c1 W (hc W h).2 hfine)
      have hi := fun W => hix W n c hjn
      have HF := Lib.hid hf
      have HIff := Lib.hid hiff
      have HAts := Lib.hid hats
      clear hc hix hf hs0 y0 hfine hiff hats
      obtain ⟨fs, fv, ff⟩ := f
      simp only at x0 x1 x2 HM5 HAts HC
      obtain ⟨k, hk⟩ : ∃ k, k = ff.length := ⟨_, rfl⟩
      simp only [← hk] at x0 x1 x2 HM5
      clear hk
      go_wp2_with fail
      refine (HM5.out wr HBl.out).mono ?_
      rintro e w2 ⟨rfl, hb2⟩
      have HB2 := Lib.hid (bt HBl.out hb2)
      clear hb2 x0 x1 x2
      by_cases hm5 : ScM.May ⟨fs, fv, ff⟩
      · rw [decide_eq_true hm5]
        have HM := Lib.hid hm5
        clear hm5
        obtain ⟨⟨x0, x1, x2⟩, _⟩ := HC.out w2 HB2.out
        simp only at x0 x1 x2
        have HAt2 := Lib.hid (HAt.out w2 HB2.out fs)
        rw [HAts.out] at HAt2
        go_wp2_with fail
        refine HAt2.out.mono ?_
        rintro e w3 ⟨rfl, rfl⟩
        by_cases hlt : i0 < j
        · have hd : decide (i0 < j) = true := decide_eq_true hlt
          have HNo := Lib.hid (show ¬ May l from fun h => by
            have h1 := (HMay.out.1 h).1 j hjn
            rw [← HF.out] at h1
            have := (HIff.out.1 h1).2
            omega)
          clear hlt
          go_wp2_with fail
          go_ret
          exact ⟨ret_v (x := .bool false) (by rw [decide_eq_false HNo.out]), HB2.out⟩
        · have hd : decide (i0 < j) = false := decide_eq_false hlt
          have HGo := Lib.hid (HG.out.succ (by rw [← HF.out]; exact HIff.out.2 ⟨HM.out, by omega⟩))
          clear hlt
          go_wp2_with fail
          go_roundw
          case rel => exact ⟨j + 1, by go_num, by omega, HGo.out, HB2.out⟩
          case measure => simp [intOf]; omega
      · rw [decide_eq_false hm5]
        have HNo := Lib.hid (show ¬ May l from fun h => hm5 (by
          have h1 := (HMay.out.1 h).1 j hjn
          rw [← HF.out] at h1
          exact (HIff.out.1 h1).1))
        clear hm5
        go_wp2_with fail
        go_ret
        exact ⟨ret_v (x := .bool false) (by rw [decide_eq_false HNo.out]), HB2.out⟩
    · obtain rfl : j = n := by omega
      have HYes := Lib.hid (show May l ↔ j ≤ 8 from ⟨fun h => (HMay.out.1 h).2, fun h => HMay.out.2 ⟨HG.out, h⟩⟩)
      by_cases h8 : j ≤ 8
      · have hd : decide ((j : Int) ≤ 8) = true := by rw [decide_eq_true_iff]; omega
        have HY := Lib.hid (HYes.out.2 h8)
        clear h8
        go_wp2_with fail
        go_ret
        exact ⟨ret_v (x := .bool true) (by rw [decide_eq_true HY.out]), HBl.out⟩
      · have hd : decide ((j : Int) ≤ 8) = false := by rw [decide_eq_false_iff_not]; omega
        have HY := Lib.hid (fun h => h8 (HYes.out.1 h))
        clear h8
        go_wp2_with fail
        go_ret
        exact ⟨ret_v (x := .bool false) (by rw [decide_eq_false HY.out]), HBl.out⟩
end Go.Proofs.Ytnkhnfkohnflcaa.Rg
