/- Several texts in one: what this layer has; what each asks is said at each theorem. -/
import Derived.Test.YtbmdkibmfkmjoaaGreatTcC
import Derived.Test.YtbmdkibmfkmjoaaGreatExprMath
import Derived.Test.YtbmdkibmfkmjoaaGreatSchemaMath
import Derived.Test.YtbmdkibmfkmjoaaGreatExprThing
import Derived.Test.YtbmdkibmfkmjoaaGreatTcA
import Derived.Test.YtbmdkibmfkmjoaaGreatExprAs
import Derived.Test.YtbmdkibmfkmjoaaGreatExprAlike
import Derived.Test.YtbmdkibmfkmjoaaGreatExprLessOwn
import Derived.Test.YtbmdkibmfkmjoaaGreatExprJudge
import Derived.Test.YtbmdkibmfkmjoaaGreatOpRow
import Derived.Test.YtbmdkibmfkmjoaaGreatExprGoes
import Derived.Test.YtbmdkibmfkmjoaaGreatValueEq
import Derived.Test.YtbmdkibmfkmjoaaGreatValueApp
import Derived.Test.YtbmdkibmfkmjoaaGreatTcB
import Derived.Test.YtbmdkibmfkmjoaaGreatRegion
import Derived.Test.YtbmdkibmfkmjoaaGreatRows
import Derived.Lib.SmallJoins
import Derived.Deep.Slices
import Derived.ShutString
import Derived.OpenShut
import Derived.Test.YtbmdkibmfkmjoaaGreatValueRefMay

namespace Go.Proofs.YtbmdkibmfkmjoaaGreat.Rg
open Go.RowKit Go.Proofs.YtbmdkibmfkmjoaaGreat.BM Go.Proofs.YtbmdkibmfkmjoaaGreat.VaM Go.Proofs.YtbmdkibmfkmjoaaGreat.Va Go.Proofs.YtbmdkibmfkmjoaaGreat.Sc Go.Proofs.YtbmdkibmfkmjoaaGreat.RgM
open Go.Proofs.YtbmdkibmfkmjoaaGreat.ScM (Sc)

/-- A name in a block of its own. -/
def Kept (w : World) (g : Nat) (nm : ByteArray) : Prop := w.cell? ⟨g, 0, none⟩ = some (.string nm)
theorem Kept.kept {w w' : World} {g : Nat} {nm : ByteArray} (h : Kept w g nm) (hb : Below w.heap.size w w') : Kept w' g nm := (hb.cell (p := ⟨g, 0, none⟩) (World.block_lt_of_cell? w _ h)).trans h

set_option maxRecDepth 100000 in
set_option maxHeartbeats 1000000 in
theorem named_any (s nm : ByteArray) (v : Int) (A : Option Addr) (k c g : Nat) (w : World) (hK : Kept w g nm) :
    Calls Tryz.prog 70 #[.agg #[.string s, .int .i64 v, .slice A k c], .pointer (some ⟨g, 0, none⟩)] w fun e w' => e = .returned (.bool (decide (s = nm))) ∧ Below w.heap.size w w' := by
  have HB := Lib.hid ((Below.refl w.heap.size w).alloc (Nat.le_refl _) (.cells #[.string s, .int .i64 v, .slice A k c] 40))
  have hk1 := hK.kept HB.out
  unfold Kept at hk1
  obtain ⟨⟨p0, p1, p2⟩, _⟩ := bx_new_t w 40 (.string s) (.int .i64 v) (.slice A k c)
  have he : (s.toList == nm.toList) = decide (s = nm) := toList_beq s nm
  obtain ⟨x, hx⟩ : ∃ x, x = decide (s = nm) := ⟨_, rfl⟩
  rw [← hx] at he ⊢
  clear hx hK
  go_enter Tryz.func70, Tryz.ntmps70
  go_wp2_with fail
  go_ret
  exact ⟨rfl, HB.out⟩

set_option maxRecDepth 100000 in
set_option maxHeartbeats 2000000 in
theorem IndexFunc_any (l : List Sc) (nm : ByteArray) (A : Option Addr) (c g : Nat) (w : World) (hS : SlS w A l c) (hK : Kept w g nm) :
    Calls Tryz.prog 69 #[.slice A l.length c, .func (.func 70) #[] #[.pointer (some ⟨g, 0, none⟩)]] w fun e w' => e = .returned (.int .i64 (atI l nm)) ∧ Below w.heap.size w w' := by
  have hl := slS_len hS
  have hyes := fun j => @atI_some l nm j
  have hno := @atI_none l nm
  obtain ⟨R, hR⟩ : ∃ R, R = atI l nm := ⟨_, rfl⟩
  rw [← hR] at hno ⊢
  simp only [← hR] at hyes
  obtain ⟨n, hn⟩ : ∃ n, n = l.length := ⟨_, rfl⟩
  rw [← hn] at hl hno ⊢
  simp only [← hn] at hyes
  have HLen := Lib.hid hn
  have HS := Lib.hid hS
  have HYes := Lib.hid hyes
  have HNo := Lib.hid hno
  have HK := Lib.hid hK
  clear hn hS hyes hno hR hK
  go_enter Tryz.func69, Tryz.ntmps69
  go_wp2_with fail
  go_loopw [8] (fun i wr => ∃ j : Nat, i = .int .i64 j ∧ j ≤ n ∧ (∀ r, r < j → (l.getD r s0).s ≠ nm) ∧ Below w.heap.size w wr) (fun i _ => n - (intOf i).toNat)
  case atStart => exact ⟨0, rfl, Nat.zero_le _, fun r hr => absurd hr (Nat.not_lt_zero r), Below.refl _ _⟩
  case round =>
    obtain ⟨j, rfl, hj, hne, hbel⟩ := hrel
    have HNe := Lib.hid hne
    have HBl := Lib.hid hbel
    clear hne hbel
    by_cases hjn : j < n
    · obtain ⟨b, q, A1, c1, hix, hc, _⟩ := HS.out.at j (by rw [← HLen.out]; exact hjn)
      obtain ⟨f, hf⟩ : ∃ f, f = l.getD j s0 := ⟨_, rfl⟩
      obtain ⟨⟨x0, x1, x2⟩, _⟩ := hc wr HBl.out
      rw [← hf] at x0 x1 x2
      have hi := fun W => hix W n c hjn
      have HF := Lib.hid hf
      clear hc hix hf
      obtain ⟨fs, fv, ff⟩ := f
      simp only at x0 x1 x2
      obtain ⟨k, hk⟩ : ∃ k, k = ff.length := ⟨_, rfl⟩
      rw [← hk] at x2
      clear hk
      have HN := Lib.hid (named_any fs nm fv A1 k c1 g wr (HK.out.kept HBl.out))
      go_wp2_with fail
      refine HN.out.mono ?_
      rintro e w2 ⟨rfl, hb2⟩
      have HB2 := Lib.hid (bt HBl.out hb2)
      clear hb2 HN x0 x1 x2
      by_cases he : fs = nm
      · rw [decide_eq_true he]
        have HR := Lib.hid (show (j : Int) = R from (HYes.out j hjn (by rw [← HF.out]; exact he) HNe.out).symm)
        clear he
        go_wp2_with fail
        go_ret
        exact ⟨ret_v (x := .int .i64 (j : Int)) (by rw [HR.out]), HB2.out⟩
      · rw [decide_eq_false he]
        have HE := Lib.hid he
        clear he
        go_wp2_with fail
        go_roundw
        case rel =>
          refine ⟨j + 1, by go_num, by omega, fun r hr => ?_, HB2.out⟩
          by_cases e : r = j
          · rw [e, ← HF.out]
            exact HE.out
          · exact HNe.out r (by omega)
        case measure => simp [intOf]; omega
    · obtain rfl : j = n := by omega
      have HR := Lib.hid (show (-1 : Int) = R from (HNo.out HNe.out).symm)
      go_wp2_with fail
      go_ret
      exact ⟨ret_v (x := .int .i64 (-1)) (by rw [HR.out]), HBl.out⟩

set_option maxRecDepth 100000 in
set_option maxHeartbeats 1000000 in
theorem place_any (l : List Sc) (nm : ByteArray) (A : Option Addr) (c : Nat) (w : World) (hS : SlS w A l c) :
    Calls Tryz.prog 42 #[.slice A l.length c, .string nm] w fun e w' => e = .returned (.int .i64 (atI l nm)) ∧ Below w.heap.size w w' := by
  have hmf : ∀ (fn : Fn) (first cap : Array Value) (w : World), (Instr.makeFunc fn first cap).run Tryz.prog w = .ok (.func fn first cap) w := fun _ _ _ _ => rfl
  have hb1 := (Below.refl w.heap.size w).alloc (Nat.le_refl _) (.cells #[.string nm] 9)
  have HI := Lib.hid (IndexFunc_any l nm A c w.heap.size _ (hS.kept hb1) (show Kept (w.alloc (.cells #[.string nm] 9)) w.heap.size nm from by unfold Kept; rw [World.cell?_alloc_at (hn := rfl)]; rfl))
  have HB1 := Lib.hid hb1
  obtain ⟨R, hR⟩ : ∃ R, R = atI l nm := ⟨_, rfl⟩
  rw [← hR] at HI ⊢
  obtain ⟨n, hn⟩ : ∃ n, n = l.length := ⟨_, rfl⟩
  rw [← hn] at HI ⊢
  clear hn hR hS hb1
  go_enter Tryz.func42, Tryz.ntmps42
  go_wp2_with fail
  refine HI.out.mono ?_
  rintro e w2 ⟨rfl, hb2⟩
  have HB2 := Lib.hid (bt HB1.out hb2)
  clear hb2 HI
  go_wp2_with fail
  go_ret
  exact ⟨rfl, HB2.out⟩
end Go.Proofs.YtbmdkibmfkmjoaaGreat.Rg

namespace Go.Proofs.YtbmdkibmfkmjoaaGreat.Rg
open Go.RowKit Go.Proofs.YtbmdkibmfkmjoaaGreat.BM Go.Proofs.YtbmdkibmfkmjoaaGreat.VaM Go.Proofs.YtbmdkibmfkmjoaaGreat.Va Go.Proofs.YtbmdkibmfkmjoaaGreat.Sc Go.Proofs.YtbmdkibmfkmjoaaGreat.RgM
open Go.Proofs.YtbmdkibmfkmjoaaGreat.ScM (Sc)

theorem getD_take {l : List Sc} {j r : Nat} (h : r < j) : (l.take j).getD r s0 = l.getD r s0 := by
  rw [List.getD_eq_getElem?_getD, List.getD_eq_getElem?_getD, List.getElem?_take, if_pos h]

/-- Of the name of the j-th one there is none ahead of it just if it is the first one of its name. -/
theorem at_take {l : List Sc} {j : Nat} (hj : j < l.length) : At (l.take j) (l.getD j s0).s = none ↔ At l (l.getD j s0).s = some j := by
  rw [at_none, at_some, List.length_take, Nat.min_eq_left (Nat.le_of_lt hj)]
  constructor
  · intro h
    exact ⟨hj, rfl, fun r hr => by rw [← getD_take hr]; exact h r hr⟩
  · rintro ⟨_, _, h⟩ r hr
    rw [getD_take hr]
    exact h r hr

theorem atI_neg {l : List Sc} {n : ByteArray} : atI l n < 0 ↔ At l n = none := by
  unfold atI
  cases At l n with
  | none => simp
  | some i => simp only [reduceCtorEq, iff_false]; omega

set_option maxRecDepth 100000 in
set_option maxHeartbeats 2000000 in
theorem May_any (l : List Sc) (A : Option Addr) (c : Nat) (w : World) (hS : SlS w A l c) :
    Calls Tryz.prog 34 #[.slice A l.length c] w fun e w' => e = .returned (.bool (decide (May l))) ∧ Below w.heap.size w w' := by
  have hl := slS_len hS
  have hcap := hS.2.1
  have hmay : May l ↔ LGd l l.length ∧ l.length ≤ 8 := Iff.rfl
  have hpl := fun W (h : Below w.heap.size w W) nm j => place_any (l.take j) nm A c W ((hS.kept h).take j)
  have htk := fun j => @at_take l j
  have hcut := fun W (k : Nat) (hk : k ≤ c) => tyS.cut W A l.length c k hk
  obtain ⟨n, hn⟩ : ∃ n, n = l.length := ⟨_, rfl⟩
  rw [← hn] at hl hmay hcap ⊢
  simp only [← hn] at htk hcut
  simp only [List.length_take, ← hn] at hpl
  have HLen := Lib.hid hn
  have HS := Lib.hid hS
  have HMay := Lib.hid hmay
  have HPl := Lib.hid hpl
  have HTk := Lib.hid htk
  have HCut := Lib.hid hcut
  clear hn hS hmay hpl htk hcut
  by_cases h8 : n ≤ 8
  · have hd8 : decide ((8 : Int) < (n : Int)) = false := by rw [decide_eq_false_iff_not]; omega
    have HM := Lib.hid (show May l ↔ LGd l n from ⟨fun h => (HMay.out.1 h).1, fun h => HMay.out.2 ⟨h, h8⟩⟩)
    clear HMay h8
    go_enter Tryz.func34, Tryz.ntmps34
    go_wp2_with fail
    go_loopw [10] (fun i wr => ∃ j : Nat, i = .int .i64 j ∧ j ≤ n ∧ LGd l j ∧ Below w.heap.size w wr) (fun i _ => n - (intOf i).toNat)
    case atStart => exact ⟨0, rfl, Nat.zero_le _, fun r hr => absurd hr (Nat.not_lt_zero r), Below.refl _ _⟩
    case round =>
      obtain ⟨j, rfl, hj, hgood, hbel⟩ := hrel
      have HG := Lib.hid hgood
      have HBl := Lib.hid hbel
      clear hgood hbel
      by_cases hjn : j < n
      · obtain ⟨b, q, A1, c1, hix, hc, hfine⟩ := HS.out.at j (by rw [← HLen.out]; exact hjn)
        have hiff : (ScM.May (l.getD j s0) ∧ At l (l.getD j s0).s = some j) ↔ ScM.May (l.getD j s0) ∧ atI (l.take j) (l.getD j s0).s < 0 := by rw [atI_neg, HTk.out j hjn]
        have hpl := fun W (h : Below w.heap.size w W) => HPl.out W h (l.getD j s0).s j
        rw [Nat.min_eq_left hj] at hpl
        have hs := fun W => HCut.out W j (by omega)
        obtain ⟨f, hf⟩ : ∃ f, f = l.getD j s0 := ⟨_, rfl⟩
        rw [← hf] at hc hfine hiff
        simp only [← hf] at hpl
        obtain ⟨R, hR⟩ : ∃ R, R = atI (l.take j) f.s := ⟨_, rfl⟩
        rw [← hR] at hiff
        simp only [← hR] at hpl
        have hi := fun W => hix W n c hjn
        obtain ⟨⟨x0, x1, x2⟩, _⟩ := hc wr HBl.out
        have hm5 := fun W (h : Below w.heap.size w W) => Go.Proofs.YtbmdkibmfkmjoaaGreat.Sc.May_any f A1 c1 W (hc W h).2 hfine
        have HF := Lib.hid hf
        have HIff := Lib.hid hiff
        clear hc hix hf hR hfine hiff
        obtain ⟨fs, fv, ff⟩ := f
        simp only at x0 x1 x2 hm5 hpl
        obtain ⟨k, hk⟩ : ∃ k, k = ff.length := ⟨_, rfl⟩
        simp only [← hk] at x2 hm5
        clear hk
        have HPj := Lib.hid hpl
        have HM5 := Lib.hid hm5
        clear hpl hm5
        have ha := (Below.refl wr.heap.size wr).alloc (Nat.le_refl _) (.cells #[.string fs, .int .i64 fv, .slice A1 k c1] 40)
        have HX2 := Lib.hid (bx_new_t wr 40 (.string fs) (.int .i64 fv) (.slice A1 k c1))
        have HB2 := Lib.hid (bt HBl.out ha)
        clear ha
        go_wp2_with fail
        obtain ⟨w2, hw2⟩ : ∃ w2, w2 = wr.alloc (.cells #[.string fs, .int .i64 fv, .slice A1 k c1] 40) := ⟨_, rfl⟩
        obtain ⟨b2, hb2⟩ : ∃ b2, b2 = wr.heap.size := ⟨_, rfl⟩
        rw [← hw2] at HX2 HB2 ⊢
        rw [← hb2] at HX2 ⊢
        clear hw2 hb2 x0 x1 x2
        by_cases hm : ScM.May ⟨fs, fv, ff⟩
        · have hm5 := HM5.out
          simp only [decide_eq_true hm] at hm5
          have HM6 := Lib.hid hm5
          have HMf := Lib.hid hm
          clear hm5 hm HM5
          refine Reg.G_start (by kernel_rfl) (by repeat (first | exact Reg.frameless_bodyPost | refine Reg.frameless_then ?_ | refine Reg.frameless_inBlock ?_)) (fun W hW => ?_)
          have hBW := bt HB2.out hW
          obtain ⟨⟨z0, z1, z2⟩, _⟩ := HX2.out.kept hW
          have x0 := Reg.later_cell (Below.refl _ W) z0
          have x1 := Reg.later_cell (Below.refl _ W) z1
          have x2 := Reg.later_cell (Below.refl _ W) z2
          clear z0 z1 z2
          first | (refine Reg.G_step (i := 0) rfl (by kernel_rfl) (by rfl) (fun K hK => ?_); go_big_quiet_op; refine hK _ ?_; clear hK K) | (refine Reg.G_skip (i := 0) rfl (by kernel_rfl) (by rfl) ?_; simp only [Act.put, List.setIfInBounds_toArray, List.set_cons_zero, List.set_cons_succ])
          refine Reg.G_event (i := 1) rfl (by kernel_rfl) (by rfl) (fun K hK => ?_)
          go_simp
          refine (HM6.out _ hBW).mono ?_
          rintro e v0 ⟨rfl, hv0⟩
          refine hK _ _ hv0 ?_
          clear hK K x0 x1 x2
          have hw0 := bt hBW hv0
          obtain ⟨⟨z0, z1, z2⟩, _⟩ := HX2.out.kept (bt hW hv0)
          have x0 := Reg.later_cell (Below.refl _ v0) z0
          have x1 := Reg.later_cell (Below.refl _ v0) z1
          have x2 := Reg.later_cell (Below.refl _ v0) z2
          clear z0 z1 z2
          first | (refine Reg.G_step (i := 2) rfl (by kernel_rfl) (by rfl) (fun K hK => ?_); go_big_quiet_op; refine hK _ ?_; clear hK K) | (refine Reg.G_skip (i := 2) rfl (by kernel_rfl) (by rfl) ?_; simp only [Act.put, List.setIfInBounds_toArray, List.set_cons_zero, List.set_cons_succ])
          first | (refine Reg.G_step (i := 3) rfl (by kernel_rfl) (by rfl) (fun K hK => ?_); go_big_quiet_op; refine hK _ ?_; clear hK K) | (refine Reg.G_skip (i := 3) rfl (by kernel_rfl) (by rfl) ?_; simp only [Act.put, List.setIfInBounds_toArray, List.set_cons_zero, List.set_cons_succ])
          first | (refine Reg.G_step (i := 4) rfl (by kernel_rfl) (by rfl) (fun K hK => ?_); go_big_quiet_op; refine hK _ ?_; clear hK K) | (refine Reg.G_skip (i := 4) rfl (by kernel_rfl) (by rfl) ?_; simp only [Act.put, List.setIfInBounds_toArray, List.set_cons_zero, List.set_cons_succ])
          first | (refine Reg.G_step (i := 5) rfl (by kernel_rfl) (by rfl) (fun K hK => ?_); go_big_quiet_op; refine hK _ ?_; clear hK K) | (refine Reg.G_skip (i := 5) rfl (by kernel_rfl) (by rfl) ?_; simp only [Act.put, List.setIfInBounds_toArray, List.set_cons_zero, List.set_cons_succ])
          first | (refine Reg.G_step (i := 6) rfl (by kernel_rfl) (by rfl) (fun K hK => ?_); go_big_quiet_op; refine hK _ ?_; clear hK K) | (refine Reg.G_skip (i := 6) rfl (by kernel_rfl) (by rfl) ?_; simp only [Act.put, List.setIfInBounds_toArray, List.set_cons_zero, List.set_cons_succ])
          first | (refine Reg.G_step (i := 7) rfl (by kernel_rfl) (by rfl) (fun K hK => ?_); go_big_quiet_op; refine hK _ ?_; clear hK K) | (refine Reg.G_skip (i := 7) rfl (by kernel_rfl) (by rfl) ?_; simp only [Act.put, List.setIfInBounds_toArray, List.set_cons_zero, List.set_cons_succ])
          first | (refine Reg.G_step (i := 8) rfl (by kernel_rfl) (by rfl) (fun K hK => ?_); go_big_quiet_op; refine hK _ ?_; clear hK K) | (refine Reg.G_skip (i := 8) rfl (by kernel_rfl) (by rfl) ?_; simp only [Act.put, List.setIfInBounds_toArray, List.set_cons_zero, List.set_cons_succ])
          refine Reg.G_event (i := 9) rfl (by kernel_rfl) (by rfl) (fun K hK => ?_)
          go_simp
          refine (HPj.out _ hw0).mono ?_
          rintro e v1 ⟨rfl, hv1⟩
          refine hK _ _ hv1 ?_
          clear hK K x0 x1 x2
          have hw1 := bt hw0 hv1
          first | (refine Reg.G_step (i := 10) rfl (by kernel_rfl) (by rfl) (fun K hK => ?_); go_big_quiet_op; refine hK _ ?_; clear hK K) | (refine Reg.G_skip (i := 10) rfl (by kernel_rfl) (by rfl) ?_; simp only [Act.put, List.setIfInBounds_toArray, List.set_cons_zero, List.set_cons_succ])
          first | (refine Reg.G_step (i := 11) rfl (by kernel_rfl) (by rfl) (fun K hK => ?_); go_big_quiet_op; refine hK _ ?_; clear hK K) | (refine Reg.G_skip (i := 11) rfl (by kernel_rfl) (by rfl) ?_; simp only [Act.put, List.setIfInBounds_toArray, List.set_cons_zero, List.set_cons_succ])
          refine Reg.G_done (by kernel_rfl) ?_
          have HB3 := Lib.hid hw1
          clear hw0 hw1 hv0 hv1 hBW hW
          by_cases hR : R < 0
          · have hd : decide ((0 : Int) ≤ R) = false := by rw [decide_eq_false_iff_not]; omega
            rw [hd]
            have HGo := Lib.hid (HG.out.succ (by rw [← HF.out]; exact HIff.out.2 ⟨HMf.out, hR⟩))
            clear hR hd
            go_wp2_with fail
            go_roundw
            case rel => exact ⟨j + 1, by go_num, by omega, HGo.out, HB3.out⟩
            case measure => simp [intOf]; omega
          · have hd : decide ((0 : Int) ≤ R) = true := by rw [decide_eq_true_iff]; omega
            rw [hd]
            have HNo := Lib.hid (show ¬ May l from fun h => hR (by
              have h1 := HM.out.1 h j hjn
              rw [← HF.out] at h1
              exact (HIff.out.1 h1).2))
            clear hR hd
            go_wp2_with fail
            go_ret
            exact ⟨ret_v (x := .bool false) (by rw [decide_eq_false HNo.out]), HB3.out⟩
        · have hm5 := HM5.out
          simp only [decide_eq_false hm] at hm5
          have HM6 := Lib.hid hm5
          have HNo := Lib.hid (show ¬ May l from fun h => hm (by
            have h1 := HM.out.1 h j hjn
            rw [← HF.out] at h1
            exact (HIff.out.1 h1).1))
          clear hm5 hm HM5 HPj HIff
          refine Reg.G_start (by kernel_rfl) (by repeat (first | exact Reg.frameless_bodyPost | refine Reg.frameless_then ?_ | refine Reg.frameless_inBlock ?_)) (fun W hW => ?_)
          have hBW := bt HB2.out hW
          obtain ⟨⟨z0, z1, z2⟩, _⟩ := HX2.out.kept hW
          have x0 := Reg.later_cell (Below.refl _ W) z0
          have x1 := Reg.later_cell (Below.refl _ W) z1
          have x2 := Reg.later_cell (Below.refl _ W) z2
          clear z0 z1 z2
          first | (refine Reg.G_step (i := 0) rfl (by kernel_rfl) (by rfl) (fun K hK => ?_); go_big_quiet_op; refine hK _ ?_; clear hK K) | (refine Reg.G_skip (i := 0) rfl (by kernel_rfl) (by rfl) ?_; simp only [Act.put, List.setIfInBounds_toArray, List.set_cons_zero, List.set_cons_succ])
          refine Reg.G_event (i := 1) rfl (by kernel_rfl) (by rfl) (fun K hK => ?_)
          go_simp
          refine (HM6.out _ hBW).mono ?_
          rintro e v0 ⟨rfl, hv0⟩
          refine hK _ _ hv0 ?_
          clear hK K x0 x1 x2
          have hw0 := bt hBW hv0
          first | (refine Reg.G_step (i := 2) rfl (by kernel_rfl) (by rfl) (fun K hK => ?_); go_big_quiet_op; refine hK _ ?_; clear hK K) | (refine Reg.G_skip (i := 2) rfl (by kernel_rfl) (by rfl) ?_; simp only [Act.put, List.setIfInBounds_toArray, List.set_cons_zero, List.set_cons_succ])
          first | (refine Reg.G_step (i := 3) rfl (by kernel_rfl) (by rfl) (fun K hK => ?_); go_big_quiet_op; refine hK _ ?_; clear hK K) | (refine Reg.G_skip (i := 3) rfl (by kernel_rfl) (by rfl) ?_; simp only [Act.put, List.setIfInBounds_toArray, List.set_cons_zero, List.set_cons_succ])
          first | (refine Reg.G_step (i := 4) rfl (by kernel_rfl) (by rfl) (fun K hK => ?_); go_big_quiet_op; refine hK _ ?_; clear hK K) | (refine Reg.G_skip (i := 4) rfl (by kernel_rfl) (by rfl) ?_; simp only [Act.put, List.setIfInBounds_toArray, List.set_cons_zero, List.set_cons_succ])
          first | (refine Reg.G_step (i := 5) rfl (by kernel_rfl) (by rfl) (fun K hK => ?_); go_big_quiet_op; refine hK _ ?_; clear hK K) | (refine Reg.G_skip (i := 5) rfl (by kernel_rfl) (by rfl) ?_; simp only [Act.put, List.setIfInBounds_toArray, List.set_cons_zero, List.set_cons_succ])
          first | (refine Reg.G_step (i := 6) rfl (by kernel_rfl) (by rfl) (fun K hK => ?_); go_big_quiet_op; refine hK _ ?_; clear hK K) | (refine Reg.G_skip (i := 6) rfl (by kernel_rfl) (by rfl) ?_; simp only [Act.put, List.setIfInBounds_toArray, List.set_cons_zero, List.set_cons_succ])
          first | (refine Reg.G_step (i := 7) rfl (by kernel_rfl) (by rfl) (fun K hK => ?_); go_big_quiet_op; refine hK _ ?_; clear hK K) | (refine Reg.G_skip (i := 7) rfl (by kernel_rfl) (by rfl) ?_; simp only [Act.put, List.setIfInBounds_toArray, List.set_cons_zero, List.set_cons_succ])
          first | (refine Reg.G_step (i := 8) rfl (by kernel_rfl) (by rfl) (fun K hK => ?_); go_big_quiet_op; refine hK _ ?_; clear hK K) | (refine Reg.G_skip (i := 8) rfl (by kernel_rfl) (by rfl) ?_; simp only [Act.put, List.setIfInBounds_toArray, List.set_cons_zero, List.set_cons_succ])
          refine Reg.G_skip (i := 9) rfl (by kernel_rfl) (by rfl) ?_
          simp only [Act.put, List.setIfInBounds_toArray, List.set_cons_zero, List.set_cons_succ]
          first | (refine Reg.G_step (i := 10) rfl (by kernel_rfl) (by rfl) (fun K hK => ?_); go_big_quiet_op; refine hK _ ?_; clear hK K) | (refine Reg.G_skip (i := 10) rfl (by kernel_rfl) (by rfl) ?_; simp only [Act.put, List.setIfInBounds_toArray, List.set_cons_zero, List.set_cons_succ])
          first | (refine Reg.G_step (i := 11) rfl (by kernel_rfl) (by rfl) (fun K hK => ?_); go_big_quiet_op; refine hK _ ?_; clear hK K) | (refine Reg.G_skip (i := 11) rfl (by kernel_rfl) (by rfl) ?_; simp only [Act.put, List.setIfInBounds_toArray, List.set_cons_zero, List.set_cons_succ])
          refine Reg.G_done (by kernel_rfl) ?_
          have HB3 := Lib.hid hw0
          clear hw0 hv0 hBW hW
          go_wp2_with fail
          go_ret
          exact ⟨ret_v (x := .bool false) (by rw [decide_eq_false HNo.out]), HB3.out⟩
      · obtain rfl : j = n := by omega
        have HYes := Lib.hid (HM.out.2 HG.out)
        go_wp2_with fail
        go_ret
        exact ⟨ret_v (x := .bool true) (by rw [decide_eq_true HYes.out]), HBl.out⟩
  · have hd8 : decide ((8 : Int) < (n : Int)) = true := by rw [decide_eq_true_iff]; omega
    have HNo := Lib.hid (show ¬ May l from fun h => h8 (HMay.out.1 h).2)
    clear h8
    go_enter Tryz.func34, Tryz.ntmps34
    go_wp2_with fail
    go_ret
    exact ⟨ret_v (x := .bool false) (by rw [decide_eq_false HNo.out]), Below.refl _ _⟩
end Go.Proofs.YtbmdkibmfkmjoaaGreat.Rg

namespace Go.Proofs.YtbmdkibmfkmjoaaGreat.Rg
open Go.RowKit Go.Proofs.YtbmdkibmfkmjoaaGreat.BM Go.Proofs.YtbmdkibmfkmjoaaGreat.VaM Go.Proofs.YtbmdkibmfkmjoaaGreat.Va Go.Proofs.YtbmdkibmfkmjoaaGreat.Sc Go.Proofs.YtbmdkibmfkmjoaaGreat.RgM
open Go.Proofs.YtbmdkibmfkmjoaaGreat.ScM (Sc)

set_option maxRecDepth 100000 in
set_option maxHeartbeats 2000000 in
theorem Find_any (l : List Sc) (nm : ByteArray) (A : Option Addr) (c : Nat) (w : World) (hS : SlS w A l c) (hr : RoomL l) :
    Calls Tryz.prog 61 #[.slice A l.length c, .string nm] w (Found l nm w) := by
  have hB1 := (Below.refl w.heap.size w).alloc (Nat.le_refl _) (.cells #[.string ⟨#[]⟩, .int .i64 0, .slice none 0 0] 40)
  have HZ1 := Lib.hid (bx_new_t w 40 (.string ⟨#[]⟩) (.int .i64 0) (.slice none 0 0))
  have hat := fun W (h : Below w.heap.size w W) => place_any l nm A c W (hS.kept h)
  have HB1 := Lib.hid hB1
  have HAt := Lib.hid hat
  obtain ⟨n, hn⟩ : ∃ n, n = l.length := ⟨_, rfl⟩
  rw [← hn] at HAt ⊢
  have HLen := Lib.hid hn
  have HS := Lib.hid hS
  have HRm := Lib.hid hr
  clear hn hS hat hB1 hr
  go_enter Tryz.func61, Tryz.ntmps61
  go_wp2_with fail
  obtain ⟨w1, hw1⟩ : ∃ w1, w1 = w.alloc (.cells #[.string ⟨#[]⟩, .int .i64 0, .slice none 0 0] 40) := ⟨_, rfl⟩
  rw [← hw1] at HB1 HZ1 ⊢
  clear hw1
  refine (HAt.out w1 HB1.out).mono ?_
  rintro e w3 ⟨rfl, hb3⟩
  have HB3 := Lib.hid (bt HB1.out hb3)
  have HZ3 := Lib.hid (HZ1.out.kept hb3)
  clear hb3 HB1 HZ1
  cases h : At l nm with
  | none =>
    have hi : atI l nm = -1 := by unfold atI; rw [h]
    rw [hi]
    have HFi := Lib.hid (find_no h)
    clear h hi
    have hst := bx_store HZ3.out (.string ⟨#[]⟩) (.int .i64 0) (.slice none 0 0)
    obtain ⟨⟨g0, g1, g2⟩, _⟩ := hst
    have G0 := Lib.hid g0
    have G1 := Lib.hid g1
    have G2 := Lib.hid g2
    have HF := Lib.hid (stored3 HB3.out (Nat.le_refl _) (.string ⟨#[]⟩) (.int .i64 0) (.slice none 0 0))
    obtain ⟨⟨p0, p1, p2⟩, p3, p4, p5⟩ := HZ3.out
    clear g0 g1 g2
    go_wp2_with fail
    obtain ⟨W2, hW2⟩ : ∃ W2, W2 = ((w3.setCell ⟨w.heap.size, 0, none⟩ (.string ⟨#[]⟩)).setCell ⟨w.heap.size, 1, none⟩ (.int .i64 0)).setCell ⟨w.heap.size, 2, none⟩ (.slice none 0 0) := ⟨_, rfl⟩
    rw [← hW2] at HF G0 G1 G2 ⊢
    have g0 := G0.out
    have g1 := G1.out
    have g2 := G2.out
    clear hW2 p0 p1 p2 p3 p4 p5
    exact bodyPost_ret (v := .tuple #[.agg #[.string ⟨#[]⟩, .int .i64 0, .slice none 0 0], .bool false]) (by simp [results, Tryz.results61, go_sem, g0, g1, g2]) rfl ⟨none, 0, ret_v (by rw [HFi.out]; rfl), (by rw [HFi.out]; exact slF_none _), (by rw [HFi.out]; exact fine_s0), HF.out⟩
  | some i =>
    have hi : atI l nm = (i : Int) := by unfold atI; rw [h]
    rw [hi]
    have HFi := Lib.hid (find_of h)
    have hlt := (at_some.1 h).1
    obtain ⟨b, q, A1, c1, hix, hc, hfine⟩ := HS.out.at i hlt
    obtain ⟨⟨x0, x1, x2⟩, _⟩ := hc w3 HB3.out
    have hrm := HRm.out i hlt
    rw [← HLen.out] at hlt
    have hi' := fun W => hix W n c hlt
    have hd : decide ((i : Int) < 0) = false := by rw [decide_eq_false_iff_not]; omega
    clear h hi hix
    obtain ⟨f, hf⟩ : ∃ f, f = l.getD i s0 := ⟨_, rfl⟩
    rw [← hf] at x0 x1 x2 hc hrm hfine HFi
    have HOw := Lib.hid (own_any f A1 c1 w3 (hc w3 HB3.out).2 hrm)
    clear hf hc hrm
    obtain ⟨fs, fv, ff⟩ := f
    simp only at x0 x1 x2 HOw
    obtain ⟨k, hk⟩ : ∃ k, k = ff.length := ⟨_, rfl⟩
    rw [← hk] at x2 HOw
    have HK := Lib.hid hk
    have HFine := Lib.hid hfine
    clear hk hfine
    go_wp2_with fail
    refine HOw.out.mono ?_
    rintro e w4 ⟨A4, c4, rfl, hO4, hb4⟩
    have HB4 := Lib.hid (bt HB3.out hb4)
    have HZ4 := Lib.hid (HZ3.out.kept hb4)
    have hlt4 := HZ3.out.lt
    have HAp := Lib.hid (show ∀ a, A4 = some a → w.heap.size < a.block from fun a ha => Nat.lt_of_lt_of_le hlt4 (hO4.2 a ha))
    have hsl := slF_off (p := ⟨w.heap.size, 2, none⟩) (slF_off (p := ⟨w.heap.size, 1, none⟩) (slF_off (p := ⟨w.heap.size, 0, none⟩) hO4.1 (fun a ha => by have := HAp.out a ha; simp only; omega) (.string fs)) (fun a ha => by have := HAp.out a ha; simp only; omega) (.int .i64 fv)) (fun a ha => by have := HAp.out a ha; simp only; omega) (.slice A4 k c4)
    have HSl := Lib.hid hsl
    have hst := bx_store HZ4.out (.string fs) (.int .i64 fv) (.slice A4 k c4)
    obtain ⟨⟨g0, g1, g2⟩, _⟩ := hst
    have G0 := Lib.hid g0
    have G1 := Lib.hid g1
    have G2 := Lib.hid g2
    have HF := Lib.hid (stored3 HB4.out (Nat.le_refl _) (.string fs) (.int .i64 fv) (.slice A4 k c4))
    obtain ⟨⟨p0, p1, p2⟩, p3, p4, p5⟩ := HZ4.out
    clear g0 g1 g2 hO4 hb4 hlt4 hsl HZ3 HB3 HOw x0 x1 x2
    go_wp2_with fail
    obtain ⟨W2, hW2⟩ : ∃ W2, W2 = ((w4.setCell ⟨w.heap.size, 0, none⟩ (.string fs)).setCell ⟨w.heap.size, 1, none⟩ (.int .i64 fv)).setCell ⟨w.heap.size, 2, none⟩ (.slice A4 k c4) := ⟨_, rfl⟩
    rw [← hW2] at HF HSl G0 G1 G2 ⊢
    have g0 := G0.out
    have g1 := G1.out
    have g2 := G2.out
    clear hW2 p0 p1 p2 p3 p4 p5
    exact bodyPost_ret (v := .tuple #[.agg #[.string fs, .int .i64 fv, .slice A4 k c4], .bool true]) (by simp [results, Tryz.results61, go_sem, g0, g1, g2]) rfl ⟨A4, c4, ret_v (by rw [HFi.out, ← HK.out]), (by rw [HFi.out]; exact HSl.out), (by rw [HFi.out]; exact HFine.out), HF.out⟩
end Go.Proofs.YtbmdkibmfkmjoaaGreat.Rg

namespace Go.Proofs.YtbmdkibmfkmjoaaGreat.Ex
open Go.RowKit Go.Proofs.YtbmdkibmfkmjoaaGreat.BM Go.Proofs.YtbmdkibmfkmjoaaGreat.VaM Go.Proofs.YtbmdkibmfkmjoaaGreat.ExM Go.Proofs.YtbmdkibmfkmjoaaGreat.EvM

theorem kval_may {k : Int} (h0 : 0 ≤ k) (h4 : k < 4) : VaM.May (kval k) ∧ Rng (kval k) := by
  refine ⟨?_, ⟨(by decide : (-9223372036854775808 : Int) ≤ 0), (by decide : (0 : Int) ≤ 9223372036854775807)⟩⟩
  have hw : k = 0 ∨ k = 1 ∨ k = 2 ∨ k = 3 := by omega
  rcases hw with rfl | rfl | rfl | rfl <;> decide

/-- The kinds' values. -/
def kvs (s : ScM.Sc) : List V := s.f.map fun f => kval f.k

theorem kvs_may {s : ScM.Sc} (h : ScM.May s) : ∀ x ∈ kvs s, VaM.May x ∧ Rng x := by
  intro x hx
  obtain ⟨f, hf, rfl⟩ := List.mem_map.1 hx
  obtain ⟨i, hi, rfl⟩ := List.getElem_of_mem hf
  have h1 := (h.2.2.2.2 i hi).1
  rw [List.getD_eq_getElem?_getD, List.getElem?_eq_getElem hi] at h1
  exact kval_may h1.2.1 h1.2.2

theorem kvs_take {s : ScM.Sc} {j : Nat} (h : j < s.f.length) : (kvs s).take (j + 1) = (kvs s).take j ++ [kval (s.f.getD j ScM.d0).k] := by
  unfold kvs
  rw [← List.map_take, ← List.map_take, List.take_add_one, List.getElem?_eq_getElem h, List.map_append, List.getD_eq_getElem?_getD, List.getElem?_eq_getElem h]
  rfl
end Go.Proofs.YtbmdkibmfkmjoaaGreat.Ex

namespace Go.Proofs.YtbmdkibmfkmjoaaGreat.Ex
open Go.RowKit Go.Proofs.YtbmdkibmfkmjoaaGreat.BM Go.Proofs.YtbmdkibmfkmjoaaGreat.LM Go.Proofs.YtbmdkibmfkmjoaaGreat.VaM Go.Proofs.YtbmdkibmfkmjoaaGreat.Va Go.Proofs.YtbmdkibmfkmjoaaGreat.ExM Go.Proofs.YtbmdkibmfkmjoaaGreat.EvM
open Go.Proofs.YtbmdkibmfkmjoaaGreat.Sc (grown_set grown_trans)

/-- A thing's own cell. -/
def encT (v : V) : List Value := [th v]
theorem th_one (v : V) : (th v).oneCell' = true := by
  unfold th
  split
  · rfl
  · split
    · rfl
    · split <;> rfl
theorem th_is (v : V) : ∃ T u, th v = .iface T u := by
  unfold th
  split
  · exact ⟨_, _, rfl⟩
  · split
    · exact ⟨_, _, rfl⟩
    · split <;> exact ⟨_, _, rfl⟩
/-- How a thing lies. -/
def KT : RG.Kind V := RG.flat 1 encT (fun _ => rfl) (fun v u hu => by
  obtain rfl := List.mem_singleton.1 hu
  exact th_one v)

theorem tyT : RG.Ty 128 132 1 16 .nilIface :=
  ⟨by kernel_rfl, by kernel_rfl, by kernel_rfl, fun _ => by kernel_rfl, rfl, by decide, by decide⟩

/-- Things: a row of the call's own, of values that may be. -/
def Things (base : Nat) (p : List V) (u : Value) (w : World) : Prop := w.ownsRow base 132 1 u p.length (p.flatMap encT) ∧ ∀ x ∈ p, VaM.May x ∧ Rng x

theorem things_nil (base : Nat) (w : World) : Things base [] (.slice none 0 0) w := ⟨World.ownsRow_nil _ _ _ _, fun x hx => by cases hx⟩
theorem Things.kept {base : Nat} {p : List V} {u : Value} {w w' : World} (h : Things base p u w) (hb : Below w.heap.size w w') : Things base p u w' :=
  ⟨h.1.kept (row := none) ⟨hb.os, hb.tape, hb.output, hb.size, fun k hk _ => hb.block k hk⟩ (by cases u.ownBlock <;> simp), h.2⟩
theorem Things.grown {base b : Nat} {p : List V} {u : Value} {w w' : World} (h : Things base p u w) (hg : w.grownBy w' (some b)) (hb : b < base) : Things base p u w' :=
  ⟨h.1.kept hg (Or.inr (fun e => by have := (h.1.lt _ e).1; omega)), h.2⟩
theorem Things.is {base : Nat} {p : List V} {u : Value} {w : World} (h : Things base p u w) : ∃ A c, u = .slice A p.length c := RG.own_is h.1

theorem flatT_len : ∀ l : List V, (l.flatMap encT).length = l.length
  | [] => rfl
  | x :: l => by rw [List.flatMap_cons, List.length_append, flatT_len l, List.length_cons]; simp only [encT, List.length_cons, List.length_nil]; omega
theorem flatT_map : ∀ l : List V, l.flatMap encT = l.map th
  | [] => rfl
  | x :: l => by rw [List.flatMap_cons, flatT_map l]; rfl

theorem Things.cut {base : Nat} {p : List V} {A : Option Addr} {c : Nat} {w : World} (h : Things base p (.slice A p.length c) w) (k : Nat) (hk : k ≤ p.length) : k ≤ c ∧ Things base (p.take k) (.slice A k c) w := by
  have hlen : (p.take k).length = k := by rw [List.length_take, Nat.min_eq_left hk]
  rcases h.1.2 with ⟨hv, h0⟩ | ⟨g, cap, cur, hv, hg, hh, hcap, hmx, hs, ht⟩
  · injection hv with h1 h2 h3
    subst h1 h3
    obtain rfl : k = 0 := by omega
    exact ⟨Nat.le_refl _, things_nil _ _⟩
  · injection hv with h1 h2 h3
    subst h1 h3
    refine ⟨by omega, ⟨⟨by rw [flatT_len, Nat.mul_one], ?_⟩, fun x hx => h.2 x (List.mem_of_mem_take hx)⟩⟩
    rw [hlen]
    refine Or.inr ⟨g, c, cur, rfl, hg, hh, by omega, hmx, hs, ?_⟩
    rw [flatT_map] at ht
    rw [flatT_map, List.map_take, ← ht, List.take_take, Nat.min_eq_left (by omega), Nat.mul_one]

/-- The i-th of them. -/
theorem Things.at {base : Nat} {p : List V} {A : Option Addr} {c : Nat} {w : World} (h : Things base p (.slice A p.length c) w) (i : Nat) (hi : i < p.length) :
    ∃ g, base ≤ g ∧ (∀ W, (Instr.indexAt 128 (.slice A p.length c) (.int .i64 (i : Int))).run Tryz.prog W = .ok (.pointer (some ⟨g, i, none⟩)) W) ∧ w.cell? ⟨g, i, none⟩ = some (th (p.getD i v0)) := by
  rcases h.1.2 with ⟨_, h0⟩ | ⟨g, cap, cur, hv, hg, _⟩
  · omega
  · injection hv with h1 h2 h3
    subst h1 h3
    refine ⟨g, hg, fun W => ?_, ?_⟩
    · have := tyT.index W g 0 p.length c i hi
      rw [Nat.zero_add, Nat.mul_one] at this
      exact this
    · rw [h.1.cellAt i (by omega), flatT_map, List.getElem?_map, List.getD_eq_getElem?_getD, List.getElem?_eq_getElem hi]
      rfl

/-- A new thing in a block of its own. -/
theorem thing_new (w : World) (x : V) : RG.SlG KT (fun _ => True) (w.alloc (.cells #[th x] 132)) (some ⟨w.heap.size, 0, none⟩) [x] 1 := by
  obtain ⟨h1, h2⟩ := RG.elem_new (K := KT) (p := fun _ => True) w 132 x (encT x) rfl
  exact ⟨⟨_, h1, h2⟩, Nat.le_refl _, (fun h => by cases h), by decide⟩

/-- append of things onto a row of the call's own. -/
theorem wp_append_t {w : World} {ops : Array Oper} {rest : List Oper} {o : Oper} {a : Act} {Q : Exit → Act → World → Prop} (hgd : o.guard = none) (s x : Operand)
    (ho : o.op = .call { callee := .builtin .append, args := #[s, x], argTypes := #[128, 128] })
    (base : Nat) (v : Value) (n : Nat) (l : List V) (hs : a.eval s = v) (hown : w.ownsRow base 132 1 v n (l.flatMap encT))
    (A : Option Addr) (m c : Nat) (r : List V) (hx : a.eval x = .slice A m c) (hm : r.length = m) (hB : RG.SlG KT (fun _ => True) w A r c)
    (hsz : n + m ≤ 1000000000) (hbase : base ≤ w.heap.size)
    (hk : ∀ v' w', w'.ownsRow base 132 1 v' (n + m) ((l ++ r).flatMap encT) → w.grownBy w' v.ownBlock → wpList Tryz.prog ops Q rest (a.put o.dst v') w') : wpList Tryz.prog ops Q (o :: rest) a w := by
  obtain ⟨⟨vs, h1, h2⟩, _, h3, _⟩ := hB
  have hv : ∀ (l : List V) (vs : List Value), RG.Elems KT (fun _ => True) w l vs → vs = l.flatMap encT := by
    intro l
    induction l with
    | nil => intro vs h; exact h
    | cons x l ih =>
      rintro vs ⟨cs, rest, rfl, hc, hr⟩
      rw [ih rest hr, show cs = encT x from hc]
      rfl
  have hE : ∀ (q : Nat → Prop) (l : List V), RG.Elems KT q w l (l.flatMap encT) := by
    intro q l
    induction l with
    | nil => rfl
    | cons x l ih => exact ⟨encT x, l.flatMap encT, rfl, rfl, ih⟩
  obtain rfl := hv r vs h2
  refine tyT.wp_append (K := KT) (fun _ => True) hgd s x ho base v n (l.flatMap encT) l hs hown (hE _ l) A m c (r.flatMap encT) r hx hm h1 (hE _ r) h3 hsz hbase fun v' w' g1 _ g3 => hk v' w' ?_ g3
  rw [List.flatMap_append]
  exact g1

/-- The pile, its block, and the values that a Load finds. -/
structure Held (b : Nat) (vs : List V) (L : Option Addr) (vc : Nat) (kb : Bool) (p : List V) (w : World) : Prop where
  box : ∃ A c, Bx w b (.slice A p.length c) (.slice L vs.length vc) (.bool kb) ∧ Things (b + 1) p (.slice A p.length c) w
  vals : ∀ W, Below b w W → SlV W L vs vc

section
variable {b vc : Nat} {vs p : List V} {L : Option Addr} {kb : Bool} {w w' : World}
theorem Held.lt (h : Held b vs L vc kb p w) : b < w.heap.size := by
  obtain ⟨A, c, hB, _⟩ := h.box
  exact hB.lt
theorem Held.kept (h : Held b vs L vc kb p w) (hb : Below w.heap.size w w') : Held b vs L vc kb p w' := by
  have hlt := h.lt
  obtain ⟨A, c, hB, hT⟩ := h.box
  exact ⟨⟨A, c, hB.kept hb, hT.kept hb⟩, fun W hW => h.vals W ((hb.mono (by omega)).trans hW)⟩

theorem below_of_grown (h : w.grownBy w' (some b)) (hb : b ≤ w.heap.size) : Below b w w' := (Below.refl b w).grown h hb (fun k e => by injection e with e; omega)
theorem grown_of_below {r : Option Nat} (h : Below w.heap.size w w') : w.grownBy w' r := ⟨h.os, h.tape, h.output, h.size, fun k hk _ => h.block k hk⟩
theorem bxG {g : Nat} {v0 v1 v2 : Value} (h : Bx w g v0 v1 v2) (hg : w.grownBy w' (some b)) (hne : g ≠ b) : Bx w' g v0 v1 v2 := h.grown hg (fun e => hne (by injection e))
end
end Go.Proofs.YtbmdkibmfkmjoaaGreat.Ex

namespace Go.Proofs.YtbmdkibmfkmjoaaGreat.Ex
open Go.RowKit Go.Proofs.YtbmdkibmfkmjoaaGreat.BM Go.Proofs.YtbmdkibmfkmjoaaGreat.LM Go.Proofs.YtbmdkibmfkmjoaaGreat.VaM Go.Proofs.YtbmdkibmfkmjoaaGreat.Va Go.Proofs.YtbmdkibmfkmjoaaGreat.ExM Go.Proofs.YtbmdkibmfkmjoaaGreat.EvM
open Go.Proofs.YtbmdkibmfkmjoaaGreat.Sc (grown_set grown_trans)

section
variable {b vc : Nat} {vs p : List V} {L : Option Addr} {kb : Bool} {w : World}

set_option maxRecDepth 100000 in
theorem take_none (h : Held b vs L vc kb [] w) : Calls Tryz.prog 128 #[.pointer (some ⟨b, 0, none⟩)] w fun e w' => e = .returned (.tuple #[.nilIface, .bool false]) ∧ w = w' := by
  obtain ⟨A, c, hB, _⟩ := h.box
  rw [List.length_nil] at hB
  obtain ⟨⟨p0, p1, p2⟩, _⟩ := hB
  clear h
  go_enter Tryz.func128, Tryz.ntmps128
  go_wp2_with fail
  go_ret2
  exact ⟨rfl, rfl⟩

set_option maxRecDepth 100000 in
theorem take_some (h : Held b vs L vc kb p w) (hp : 0 < p.length) (hn : p.length ≤ 1000) : Calls Tryz.prog 128 #[.pointer (some ⟨b, 0, none⟩)] w fun e w' =>
    e = .returned (.tuple #[th (p.getD (p.length - 1) v0), .bool true]) ∧ Held b vs L vc kb (p.take (p.length - 1)) w' ∧ w.grownBy w' (some b) := by
  have hlt := h.lt
  obtain ⟨A, c, hB, hT⟩ := h.box
  obtain ⟨g, hg, hix, hc⟩ := hT.at (p.length - 1) (by omega)
  obtain ⟨hkc, hT2⟩ := hT.cut (p.length - 1) (by omega)
  have hcut := fun W => tyT.cut W A p.length c (p.length - 1) hkc
  have hlen : (p.take (p.length - 1)).length = p.length - 1 := by rw [List.length_take]; omega
  have hset := grown_set w b 0 (.slice A (p.length - 1) c)
  have hH : Held b vs L vc kb (p.take (p.length - 1)) (w.setCell ⟨b, 0, none⟩ (.slice A (p.length - 1) c)) :=
    ⟨⟨A, c, by rw [hlen]; exact bx_set0 hB _, by rw [hlen]; exact hT2.grown hset (Nat.lt_succ_self _)⟩, fun W hW => h.vals W ((below_of_grown hset (by omega)).trans hW)⟩
  obtain ⟨x, hx⟩ : ∃ x, x = th (p.getD (p.length - 1) v0) := ⟨_, rfl⟩
  obtain ⟨q, hq⟩ : ∃ q, q = p.take (p.length - 1) := ⟨_, rfl⟩
  rw [← hx] at hc ⊢
  rw [← hq] at hH ⊢
  obtain ⟨n, hn'⟩ : ∃ n, n = p.length := ⟨_, rfl⟩
  simp only [← hn'] at hB hix hcut hp hset hH hc hn
  obtain ⟨⟨p0, p1, p2⟩, p3, _⟩ := hB
  have HH := Lib.hid hH
  have HS := Lib.hid hset
  have g1 : decide ((n : Int) - 1 < 0) = false := by rw [decide_eq_false_iff_not]; omega
  rw [show ((n - 1 : Nat) : Int) = (n : Int) - 1 from by omega] at hix hcut
  clear h hT hT2 hx hq hlen hH hset hkc hlt hn'
  go_enter Tryz.func128, Tryz.ntmps128
  go_wp2_with fail
  go_ret2
  exact ⟨rfl, HH.out, HS.out⟩

set_option maxRecDepth 100000 in
theorem load_any (h : Held b vs L vc kb p w) (hv : ∀ x ∈ vs, VaM.May x ∧ Rng x) (n : Int) (h0 : 0 ≤ n) (h6 : n ≤ 1000) : Calls Tryz.prog 126 #[.pointer (some ⟨b, 0, none⟩), .int .i64 n] w fun e w' =>
    e = .returned (laid (if n.toNat < vs.length then (vs.getD n.toNat v0, 0) else (v0, 3))) ∧ Below w.heap.size w w' := by
  obtain ⟨k, rfl⟩ := Int.eq_ofNat_of_zero_le h0
  rw [Int.toNat_natCast]
  have hlt := h.lt
  have hS := h.vals w (Below.refl _ _)
  obtain ⟨A, c, hB, hT⟩ := h.box
  have hbig := slV_len hS
  by_cases hk : k < vs.length
  · obtain ⟨b1, q1, hix, hc, _⟩ := hS.at v0 k hk
    have hof := fun W => thingOf_any (vs.getD k v0) W (hv _ (EvM.getD_mem hk)).1
    rw [if_pos hk, laid_ok]
    obtain ⟨x, hx⟩ : ∃ x, x = th (vs.getD k v0) := ⟨_, rfl⟩
    simp only [← hx] at hof
    rw [← hx]
    obtain ⟨c0, c1, c2⟩ := hc w (Below.refl _ _)
    obtain ⟨⟨vk, vn, vz⟩, hvv⟩ : ∃ v, v = vs.getD k v0 := ⟨_, rfl⟩
    rw [← hvv] at c0 c1 c2
    simp only [← hvv] at hof
    simp only at c0 c1 c2
    have HOf := Lib.hid hof
    have hi := fun W => hix W vs.length vc hk
    obtain ⟨n, hn⟩ : ∃ n, n = vs.length := ⟨_, rfl⟩
    simp only [← hn] at hB hi hbig hk
    obtain ⟨⟨p0, p1, p2⟩, _⟩ := hB
    have g1 : decide ((n : Int) ≤ (k : Int)) = false := by rw [decide_eq_false_iff_not]; omega
    have g2 : decide (n ≤ k) = false := by rw [decide_eq_false_iff_not]; omega
    clear h hT hS hix hc hx hof hvv hn hv
    go_enter Tryz.func126, Tryz.ntmps126
    go_wp2_with fail
    refine (HOf.out _).mono ?_
    rintro e w1 ⟨rfl, hb1⟩
    go_wp2_with fail
    go_ret2
    exact ⟨rfl, hb1⟩
  · rw [if_neg hk, laid_no _ (by decide)]
    obtain ⟨n, hn⟩ : ∃ n, n = vs.length := ⟨_, rfl⟩
    rw [← hn] at hB hbig hk
    obtain ⟨⟨p0, p1, p2⟩, _⟩ := hB
    have g1 : decide ((n : Int) ≤ (k : Int)) = true := by rw [decide_eq_true_iff]; omega
    have g2 : decide (n ≤ k) = true := by rw [decide_eq_true_iff]; omega
    clear h hT hS hn hv
    go_enter Tryz.func126, Tryz.ntmps126
    go_wp2_with fail
    go_ret2
    exact ⟨rfl, Below.refl _ _⟩

set_option maxRecDepth 100000 in
theorem not_none (h : Held b vs L vc kb [] w) : Calls Tryz.prog 127 #[.pointer (some ⟨b, 0, none⟩)] w fun e w' => e = .returned (laid (v0, 2)) ∧ w = w' := by
  rw [laid_no _ (by decide)]
  have HT := Lib.hid (take_none h)
  clear h
  go_enter Tryz.func127, Tryz.ntmps127
  go_wp2_with fail
  refine HT.out.mono ?_
  rintro e w1 ⟨rfl, rfl⟩
  go_wp2_with fail
  go_ret2
  exact ⟨rfl, rfl⟩

set_option maxRecDepth 100000 in
theorem not_some (h : Held b vs L vc kb p w) (hp : 0 < p.length) (hn : p.length ≤ 1000) : Calls Tryz.prog 127 #[.pointer (some ⟨b, 0, none⟩)] w fun e w' =>
    e = .returned (laid (if (p.getD (p.length - 1) v0).k ≠ 1 then (v0, 5) else (truth (decide ((p.getD (p.length - 1) v0).n = 0)), 0))) ∧ Held b vs L vc kb (p.take (p.length - 1)) w' ∧ w.grownBy w' (some b) := by
  have HT := Lib.hid (take_some h hp hn)
  have hm : VaM.May (p.getD (p.length - 1) v0) := by
    obtain ⟨A, c, _, hT⟩ := h.box
    exact (hT.2 _ (EvM.getD_mem (l := p) (i := p.length - 1) (by omega))).1
  obtain ⟨q, hq⟩ : ∃ q, q = p.take (p.length - 1) := ⟨_, rfl⟩
  rw [← hq] at HT ⊢
  obtain ⟨x, hx⟩ : ∃ x, x = p.getD (p.length - 1) v0 := ⟨_, rfl⟩
  rw [← hx] at HT hm ⊢
  clear h hx hq hp hn
  rcases may_ways hm with ⟨n, rfl⟩ | ⟨x, rfl⟩ | ⟨s, rfl⟩ | ⟨n, rfl⟩
  · rw [if_pos (show (0 : Int) ≠ 1 by decide), laid_no _ (by decide)]
    rw [th_0] at HT
    have z0 := as_0_1
    clear hm
    go_enter Tryz.func127, Tryz.ntmps127
    go_wp2_with fail
    refine HT.out.mono ?_
    rintro e w1 ⟨rfl, hh, hg⟩
    go_wp2_with fail
    go_ret2
    exact ⟨rfl, hh, hg⟩
  · rw [if_neg (show ¬ (truth x).k ≠ 1 from fun h => h rfl), laid_ok, th_1]
    rw [th_1] at HT
    have z0 := as_1_1
    clear hm
    cases x
    all_goals
      go_enter Tryz.func127, Tryz.ntmps127
      go_wp2_with fail
      refine HT.out.mono ?_
      rintro e w1 ⟨rfl, hh, hg⟩
      go_wp2_with fail
      go_ret2
      exact ⟨rfl, hh, hg⟩
  · rw [if_pos (show (2 : Int) ≠ 1 by decide), laid_no _ (by decide)]
    rw [th_2] at HT
    have z0 := as_2_1
    clear hm
    go_enter Tryz.func127, Tryz.ntmps127
    go_wp2_with fail
    refine HT.out.mono ?_
    rintro e w1 ⟨rfl, hh, hg⟩
    go_wp2_with fail
    go_ret2
    exact ⟨rfl, hh, hg⟩
  · rw [if_pos (show (3 : Int) ≠ 1 by decide), laid_no _ (by decide)]
    rw [th_3] at HT
    have z0 := as_3_1
    clear hm
    go_enter Tryz.func127, Tryz.ntmps127
    go_wp2_with fail
    refine HT.out.mono ?_
    rintro e w1 ⟨rfl, hh, hg⟩
    go_wp2_with fail
    go_ret2
    exact ⟨rfl, hh, hg⟩
end
end Go.Proofs.YtbmdkibmfkmjoaaGreat.Ex

namespace Go.Proofs.YtbmdkibmfkmjoaaGreat.Ex
open Go.RowKit Go.Proofs.YtbmdkibmfkmjoaaGreat.BM Go.Proofs.YtbmdkibmfkmjoaaGreat.LM Go.Proofs.YtbmdkibmfkmjoaaGreat.VaM Go.Proofs.YtbmdkibmfkmjoaaGreat.Va Go.Proofs.YtbmdkibmfkmjoaaGreat.ExM Go.Proofs.YtbmdkibmfkmjoaaGreat.EvM

set_option maxRecDepth 100000 in
set_option maxHeartbeats 8000000 in
theorem reckon_any (c : Int) (a b : V) (g : Nat) (u L : Value) (kb : Bool) (w : World) (hB : Bx w g u L (.bool kb)) (ha : VaM.May a) (hb : VaM.May b) (hra : Rng a) (hrb : Rng b) (hc : c = 2 ∨ c = 3 ∨ c = 4) :
    Calls Tryz.prog 132 #[.pointer (some ⟨g, 0, none⟩), .int .i64 c, th a, th b] w fun e w' => e = .returned (laid (twoW kb c a b)) ∧ Below w.heap.size w w' := by
  have hno : (a.k = 0 ∧ b.k = 0) ∨ twoW kb c a b = (v0, 5) := by
    have key : (a.k = 0 ∧ b.k = 0) ∨ two c a b = (v0, 5) := by
      by_cases h : a.k = b.k
      · by_cases h1 : a.k = 0
        · exact Or.inl ⟨h1, by omega⟩
        · exact Or.inr (two_n h (by omega) (by omega) (by omega) (by omega) h1)
      · exact Or.inr (two_k h)
    rcases key with h | h
    · exact Or.inl h
    · exact Or.inr (by rw [twoW_ok (by rw [h]; show ¬ (5 : Int) = 6; decide), h])
  obtain ⟨⟨p0, p1, p2⟩, _⟩ := hB
  rcases may_ways ha with ⟨n, rfl⟩ | ⟨x, rfl⟩ | ⟨s, rfl⟩ | ⟨n, rfl⟩
  · have z0 := as_0_0
    rcases may_ways hb with ⟨m, rfl⟩ | ⟨y, rfl⟩ | ⟨t, rfl⟩ | ⟨m, rfl⟩
    · have HR := Lib.hid (reckoned_any c n m w hra hrb hc)
      have hw : twoW kb c ⟨0, n, e0⟩ ⟨0, m, e0⟩ = if fits (arith c n m) = true ∨ kb = true then (⟨0, wrap64 (arith c n m), e0⟩, 0) else (v0, 6) := by
        unfold twoW
        rw [two_ar (a := ⟨0, n, e0⟩) (b := ⟨0, m, e0⟩) rfl (by omega) (by omega) (by omega) (by omega) rfl]
        by_cases hf : fits (arith c n m) = true
        · simp only [hf, if_true, true_or]
          rw [wrap_in (fits_iff.1 hf), if_neg (fun h => absurd h.2 (by decide))]
        · simp only [hf]
          cases kb <;> simp
      obtain ⟨R, hR⟩ : ∃ R, R = twoW kb c ⟨0, n, e0⟩ ⟨0, m, e0⟩ := ⟨_, rfl⟩
      rw [← hR]
      rw [← hR] at hw
      rw [th_0, th_0]
      unfold Reck at HR
      obtain ⟨z, hz⟩ : ∃ z, z = fits (arith c n m) := ⟨_, rfl⟩
      obtain ⟨N, hN⟩ : ∃ N, N = wrap64 (arith c n m) := ⟨_, rfl⟩
      rw [← hz, ← hN] at HR hw
      have HW := Lib.hid hw
      clear ha hb hc hno hra hrb hR hw hz hN
      cases z <;> cases kb
      all_goals
        go_enter Tryz.func132, Tryz.ntmps132
        go_wp2_with fail
        refine HR.out.mono ?_
        rintro e w1 ⟨rfl, rfl⟩
        go_wp2_with fail
        go_ret2
        exact ⟨ret_v (by rw [HW.out]; rfl), Below.refl _ _⟩
    · rw [th_0, th_1, show twoW kb c ⟨0, n, e0⟩ (truth y) = (v0, 5) from hno.resolve_left (fun h => absurd h.2 (show ¬ (1 : Int) = 0 by decide)), laid_no _ (by decide)]
      have z1 := as_1_0
      clear ha hb hc hno hra hrb
      go_enter Tryz.func132, Tryz.ntmps132
      go_wp2_with fail
      go_ret2
      exact ⟨rfl, Below.refl _ _⟩
    · rw [th_0, th_2, show twoW kb c ⟨0, n, e0⟩ (⟨2, 0, t⟩) = (v0, 5) from hno.resolve_left (fun h => absurd h.2 (show ¬ (2 : Int) = 0 by decide)), laid_no _ (by decide)]
      have z1 := as_2_0
      clear ha hb hc hno hra hrb
      go_enter Tryz.func132, Tryz.ntmps132
      go_wp2_with fail
      go_ret2
      exact ⟨rfl, Below.refl _ _⟩
    · rw [th_0, th_3, show twoW kb c ⟨0, n, e0⟩ (⟨3, m, e0⟩) = (v0, 5) from hno.resolve_left (fun h => absurd h.2 (show ¬ (3 : Int) = 0 by decide)), laid_no _ (by decide)]
      have z1 := as_3_0
      clear ha hb hc hno hra hrb
      go_enter Tryz.func132, Tryz.ntmps132
      go_wp2_with fail
      go_ret2
      exact ⟨rfl, Below.refl _ _⟩
  · rw [th_1, show twoW kb c (truth x) b = (v0, 5) from hno.resolve_left (fun h => absurd h.1 (show ¬ (1 : Int) = 0 by decide)), laid_no _ (by decide)]
    have z0 := as_1_0
    rcases may_ways hb with ⟨m, rfl⟩ | ⟨y, rfl⟩ | ⟨t, rfl⟩ | ⟨m, rfl⟩
    · rw [th_0]
      have z1 := as_0_0
      clear ha hb hc hno hra hrb
      go_enter Tryz.func132, Tryz.ntmps132
      go_wp2_with fail
      go_ret2
      exact ⟨rfl, Below.refl _ _⟩
    · rw [th_1]
      have z1 := as_1_0
      clear ha hb hc hno hra hrb
      go_enter Tryz.func132, Tryz.ntmps132
      go_wp2_with fail
      go_ret2
      exact ⟨rfl, Below.refl _ _⟩
    · rw [th_2]
      have z1 := as_2_0
      clear ha hb hc hno hra hrb
      go_enter Tryz.func132, Tryz.ntmps132
      go_wp2_with fail
      go_ret2
      exact ⟨rfl, Below.refl _ _⟩
    · rw [th_3]
      have z1 := as_3_0
      clear ha hb hc hno hra hrb
      go_enter Tryz.func132, Tryz.ntmps132
      go_wp2_with fail
      go_ret2
      exact ⟨rfl, Below.refl _ _⟩
  · rw [th_2, show twoW kb c (⟨2, 0, s⟩) b = (v0, 5) from hno.resolve_left (fun h => absurd h.1 (show ¬ (2 : Int) = 0 by decide)), laid_no _ (by decide)]
    have z0 := as_2_0
    rcases may_ways hb with ⟨m, rfl⟩ | ⟨y, rfl⟩ | ⟨t, rfl⟩ | ⟨m, rfl⟩
    · rw [th_0]
      have z1 := as_0_0
      clear ha hb hc hno hra hrb
      go_enter Tryz.func132, Tryz.ntmps132
      go_wp2_with fail
      go_ret2
      exact ⟨rfl, Below.refl _ _⟩
    · rw [th_1]
      have z1 := as_1_0
      clear ha hb hc hno hra hrb
      go_enter Tryz.func132, Tryz.ntmps132
      go_wp2_with fail
      go_ret2
      exact ⟨rfl, Below.refl _ _⟩
    · rw [th_2]
      have z1 := as_2_0
      clear ha hb hc hno hra hrb
      go_enter Tryz.func132, Tryz.ntmps132
      go_wp2_with fail
      go_ret2
      exact ⟨rfl, Below.refl _ _⟩
    · rw [th_3]
      have z1 := as_3_0
      clear ha hb hc hno hra hrb
      go_enter Tryz.func132, Tryz.ntmps132
      go_wp2_with fail
      go_ret2
      exact ⟨rfl, Below.refl _ _⟩
  · rw [th_3, show twoW kb c (⟨3, n, e0⟩) b = (v0, 5) from hno.resolve_left (fun h => absurd h.1 (show ¬ (3 : Int) = 0 by decide)), laid_no _ (by decide)]
    have z0 := as_3_0
    rcases may_ways hb with ⟨m, rfl⟩ | ⟨y, rfl⟩ | ⟨t, rfl⟩ | ⟨m, rfl⟩
    · rw [th_0]
      have z1 := as_0_0
      clear ha hb hc hno hra hrb
      go_enter Tryz.func132, Tryz.ntmps132
      go_wp2_with fail
      go_ret2
      exact ⟨rfl, Below.refl _ _⟩
    · rw [th_1]
      have z1 := as_1_0
      clear ha hb hc hno hra hrb
      go_enter Tryz.func132, Tryz.ntmps132
      go_wp2_with fail
      go_ret2
      exact ⟨rfl, Below.refl _ _⟩
    · rw [th_2]
      have z1 := as_2_0
      clear ha hb hc hno hra hrb
      go_enter Tryz.func132, Tryz.ntmps132
      go_wp2_with fail
      go_ret2
      exact ⟨rfl, Below.refl _ _⟩
    · rw [th_3]
      have z1 := as_3_0
      clear ha hb hc hno hra hrb
      go_enter Tryz.func132, Tryz.ntmps132
      go_wp2_with fail
      go_ret2
      exact ⟨rfl, Below.refl _ _⟩
end Go.Proofs.YtbmdkibmfkmjoaaGreat.Ex

namespace Go.Proofs.YtbmdkibmfkmjoaaGreat.Ex
open Go.RowKit Go.Proofs.YtbmdkibmfkmjoaaGreat.BM Go.Proofs.YtbmdkibmfkmjoaaGreat.LM Go.Proofs.YtbmdkibmfkmjoaaGreat.VaM Go.Proofs.YtbmdkibmfkmjoaaGreat.Va Go.Proofs.YtbmdkibmfkmjoaaGreat.ExM Go.Proofs.YtbmdkibmfkmjoaaGreat.EvM

theorem laid_is (r : V × Int) : ∃ x, laid r = .tuple #[x, .int .i64 r.2] := ⟨_, rfl⟩

theorem twoW_hi {kb : Bool} {c : Int} {a b : V} (h : c = 5 ∨ c = 6 ∨ c = 7 ∨ c = 8) : twoW kb c a b = two c a b := twoW_ok (fun h6 => by
  obtain ⟨_, _, h5, h6, h7, h8⟩ := two_6k h6
  omega)

section
variable {b vc : Nat} {vs p : List V} {L : Option Addr} {kb : Bool} {w : World}

set_option maxRecDepth 100000 in
theorem ofBoth_any (h : Held b vs L vc kb p w) (c : Int) (x y : V) (hx : VaM.May x) (hy : VaM.May y) (hrx : Rng x) (hry : Rng y) (hc : 2 ≤ c ∧ c ≤ 8) :
    Calls Tryz.prog 129 #[.pointer (some ⟨b, 0, none⟩), .int .i64 c, th x, th y] w fun e w' => e = .returned (laid (twoW kb c x y)) ∧ Below w.heap.size w w' := by
  obtain ⟨A, d, hB, _⟩ := h.box
  have hre := fun g => reckon_any c x y b _ _ kb w hB hx hy hrx hry g
  have hle := fun g : c = 5 => twoW_hi (kb := kb) (a := x) (b := y) (Or.inl g)
  have hal := fun g : c = 6 => twoW_hi (kb := kb) (a := x) (b := y) (Or.inr (Or.inl g))
  have hju := fun g : c = 7 ∨ c = 8 => twoW_hi (kb := kb) (a := x) (b := y) (Or.inr (Or.inr g))
  have hL := less_own x y w hx hy
  have hA := alike_any x y w hx hy
  have hJ := fun g => judge_any c x y w hx hy g
  clear h hB hx hy hrx hry
  have hway : c = 2 ∨ c = 3 ∨ c = 4 ∨ c = 5 ∨ c = 6 ∨ c = 7 ∨ c = 8 := by omega
  obtain ⟨tx, htx⟩ : ∃ t, t = th x := ⟨_, rfl⟩
  obtain ⟨ty, hty⟩ : ∃ t, t = th y := ⟨_, rfl⟩
  simp only [← htx, ← hty] at hre hL hA hJ
  rw [← htx, ← hty]
  clear htx hty hc
  obtain ⟨R, hR⟩ : ∃ R, R = twoW kb c x y := ⟨_, rfl⟩
  have hf : ∃ C : Calls Tryz.prog (if c = 5 then 133 else if c = 6 then 134 else if c = 7 ∨ c = 8 then 135 else 132) (if c = 5 ∨ c = 6 then #[tx, ty] else if c = 7 ∨ c = 8 then #[.int .i64 c, tx, ty] else #[.pointer (some ⟨b, 0, none⟩), .int .i64 c, tx, ty]) w fun e w' => e = .returned (laid R) ∧ Below w.heap.size w w', True := by
    rcases hway with rfl | rfl | rfl | rfl | rfl | rfl | rfl
    · exact ⟨by rw [hR]; exact hre (Or.inl rfl), trivial⟩
    · exact ⟨by rw [hR]; exact hre (Or.inr (Or.inl rfl)), trivial⟩
    · exact ⟨by rw [hR]; exact hre (Or.inr (Or.inr rfl)), trivial⟩
    · exact ⟨by rw [hR, hle rfl]; exact hL, trivial⟩
    · exact ⟨by rw [hR, hal rfl]; exact hA, trivial⟩
    · exact ⟨by rw [hR, hju (Or.inl rfl)]; exact hJ (Or.inl rfl), trivial⟩
    · exact ⟨by rw [hR, hju (Or.inr rfl)]; exact hJ (Or.inr rfl), trivial⟩
  obtain ⟨hf, _⟩ := hf
  rw [← hR]
  obtain ⟨X, hX⟩ := laid_is R
  rw [hX]
  rw [hX] at hf
  clear hre hle hal hju hL hA hJ hR hX
  obtain ⟨r0, r⟩ := R
  simp only at hf ⊢
  rcases hway with rfl | rfl | rfl | rfl | rfl | rfl | rfl
  all_goals
    have HF := Lib.hid hf
    clear hf
    go_enter Tryz.func129, Tryz.ntmps129
    go_wp2_with fail
    refine HF.out.mono ?_
    rintro e w1 ⟨rfl, hb1⟩
    go_wp2_with fail
    go_ret2
    exact ⟨rfl, hb1⟩
end
end Go.Proofs.YtbmdkibmfkmjoaaGreat.Ex

namespace Go.Proofs.YtbmdkibmfkmjoaaGreat.Ex
open Go.RowKit Go.Proofs.YtbmdkibmfkmjoaaGreat.BM Go.Proofs.YtbmdkibmfkmjoaaGreat.LM Go.Proofs.YtbmdkibmfkmjoaaGreat.VaM Go.Proofs.YtbmdkibmfkmjoaaGreat.Va Go.Proofs.YtbmdkibmfkmjoaaGreat.ExM Go.Proofs.YtbmdkibmfkmjoaaGreat.EvM
open Go.Proofs.YtbmdkibmfkmjoaaGreat.Sc (grown_set grown_trans)

section
variable {b vc : Nat} {vs p : List V} {L : Option Addr} {kb : Bool} {w : World}

theorem held_may (h : Held b vs L vc kb p w) {i : Nat} (hi : i < p.length) : VaM.May (p.getD i v0) ∧ Rng (p.getD i v0) := by
  obtain ⟨A, c, _, hT⟩ := h.box
  exact hT.2 _ (EvM.getD_mem (l := p) (i := i) hi)

/-- What comesOf answers. -/
def Comes (b : Nat) (vs : List V) (L : Option Addr) (vc : Nat) (kb : Bool) (w : World) (r : List V × V × Int) (e : Ending) (w' : World) : Prop := e = .returned (laid r.2) ∧ (r.2.2 = 0 → Held b vs L vc kb r.1 w') ∧ w.grownBy w' (some b)

set_option maxRecDepth 100000 in
theorem comes_push (h : Held b vs L vc kb p w) (k a : Int) (v : V) (hk : k = 0) (hv : VaM.May v) : Calls Tryz.prog 115 #[.pointer (some ⟨b, 0, none⟩), agO ⟨k, a, v⟩] w (Comes b vs L vc kb w (p, v, 0)) := by
  subst hk
  have HT := Lib.hid (fun W => thingOf_any v W hv)
  obtain ⟨x, hx⟩ : ∃ x, x = th v := ⟨_, rfl⟩
  unfold Comes
  simp only [laid_ok]
  rw [← hx] at HT ⊢
  obtain ⟨q0, q1, q2, q3, q4⟩ := (bxO_new w ⟨0, a, v⟩).cells
  have ha := (Below.refl w.heap.size w).alloc (Nat.le_refl _) (.cells #[.int .i64 0, .int .i64 a, .int .i64 v.k, .int .i64 v.n, .string v.s] 80)
  have HB := Lib.hid ha
  have HH := Lib.hid h
  obtain ⟨vk, vn, vz⟩ := v
  simp only at q0 q1 q2 q3 q4 HT HB
  unfold agO
  clear h hv hx ha
  simp only
  go_enter Tryz.func115, Tryz.ntmps115
  go_wp2_with fail
  refine (HT.out _).mono ?_
  rintro e w1 ⟨rfl, hb1⟩
  go_wp2_with fail
  go_ret2
  have hb := bt HB.out hb1
  exact ⟨rfl, fun _ => HH.out.kept hb, grown_of_below hb⟩

set_option maxRecDepth 100000 in
theorem comes_load (h : Held b vs L vc kb p w) (hvs : ∀ x ∈ vs, VaM.May x ∧ Rng x) (k a : Int) (v : V) (hk : k = 1) (h0 : 0 ≤ a) (h6 : a ≤ 1000) :
    Calls Tryz.prog 115 #[.pointer (some ⟨b, 0, none⟩), agO ⟨k, a, v⟩] w (Comes b vs L vc kb w (if a.toNat < vs.length then (p, vs.getD a.toNat v0, 0) else (p, v0, 3))) := by
  subst hk
  have ha := (Below.refl w.heap.size w).alloc (Nat.le_refl _) (.cells #[.int .i64 1, .int .i64 a, .int .i64 v.k, .int .i64 v.n, .string v.s] 80)
  have hl := load_any (h.kept ha) hvs a h0 h6
  have he : (if a.toNat < vs.length then (p, vs.getD a.toNat v0, 0) else (p, v0, 3)) = (p, if a.toNat < vs.length then (vs.getD a.toNat v0, (0 : Int)) else (v0, 3)) := by split <;> rfl
  rw [he]
  obtain ⟨R, hR⟩ : ∃ R, R = (if a.toNat < vs.length then (vs.getD a.toNat v0, (0 : Int)) else (v0, 3)) := ⟨_, rfl⟩
  rw [← hR] at hl ⊢
  obtain ⟨X, hX⟩ := laid_is R
  unfold Comes
  simp only [hX]
  rw [hX] at hl
  obtain ⟨r0, r⟩ := R
  simp only at hl ⊢
  have HL := Lib.hid hl
  obtain ⟨q0, q1, q2, q3, q4⟩ := (bxO_new w ⟨1, a, v⟩).cells
  have HB := Lib.hid ha
  have HH := Lib.hid h
  obtain ⟨vk, vn, vz⟩ := v
  simp only at q0 q1 q2 q3 q4 HB HL
  unfold agO
  clear h hvs ha hl he hX hR
  simp only
  go_enter Tryz.func115, Tryz.ntmps115
  go_wp2_with fail
  refine HL.out.mono ?_
  rintro e w1 ⟨rfl, hb1⟩
  go_wp2_with fail
  go_ret2
  have hb := bt HB.out hb1
  exact ⟨rfl, fun _ => HH.out.kept hb, grown_of_below hb⟩

set_option maxRecDepth 100000 in
theorem comes_not (h : Held b vs L vc kb p w) (hn : p.length ≤ 1000) (k a : Int) (v : V) (hk : k = 9) :
    Calls Tryz.prog 115 #[.pointer (some ⟨b, 0, none⟩), agO ⟨k, a, v⟩] w (Comes b vs L vc kb w (if p.length < 1 then (p, v0, 2) else if (p.getD (p.length - 1) v0).k ≠ 1 then (p.take (p.length - 1), v0, 5) else (p.take (p.length - 1), truth (decide ((p.getD (p.length - 1) v0).n = 0)), 0))) := by
  subst hk
  have ha := (Below.refl w.heap.size w).alloc (Nat.le_refl _) (.cells #[.int .i64 9, .int .i64 a, .int .i64 v.k, .int .i64 v.n, .string v.s] 80)
  have HB := Lib.hid ha
  obtain ⟨q0, q1, q2, q3, q4⟩ := (bxO_new w ⟨9, a, v⟩).cells
  by_cases hp : p.length < 1
  · rw [if_pos hp]
    obtain rfl : p = [] := List.length_eq_zero_iff.1 (by omega)
    have HN := Lib.hid (not_none (h.kept ha))
    unfold Comes
    simp only
    rw [laid_no _ (by decide)] at HN ⊢
    obtain ⟨vk, vn, vz⟩ := v
    simp only at q0 q1 q2 q3 q4 HB HN
    unfold agO
    clear h ha hn hp
    simp only
    go_enter Tryz.func115, Tryz.ntmps115
    go_wp2_with fail
    refine HN.out.mono ?_
    rintro e w1 ⟨rfl, rfl⟩
    go_wp2_with fail
    go_ret2
    exact ⟨rfl, fun h => absurd h (by decide), grown_of_below HB.out⟩
  · rw [if_neg hp]
    have hl := not_some (h.kept ha) (by omega) hn
    have he : (if (p.getD (p.length - 1) v0).k ≠ 1 then (p.take (p.length - 1), v0, 5) else (p.take (p.length - 1), truth (decide ((p.getD (p.length - 1) v0).n = 0)), 0)) = (p.take (p.length - 1), if (p.getD (p.length - 1) v0).k ≠ 1 then (v0, (5 : Int)) else (truth (decide ((p.getD (p.length - 1) v0).n = 0)), 0)) := by split <;> rfl
    rw [he]
    obtain ⟨R, hR⟩ : ∃ R, R = (if (p.getD (p.length - 1) v0).k ≠ 1 then (v0, (5 : Int)) else (truth (decide ((p.getD (p.length - 1) v0).n = 0)), 0)) := ⟨_, rfl⟩
    rw [← hR] at hl ⊢
    obtain ⟨X, hX⟩ := laid_is R
    unfold Comes
    simp only [hX]
    rw [hX] at hl
    obtain ⟨r0, r⟩ := R
    simp only at hl ⊢
    obtain ⟨q, hq⟩ : ∃ q, q = p.take (p.length - 1) := ⟨_, rfl⟩
    rw [← hq] at hl ⊢
    have HL := Lib.hid hl
    obtain ⟨vk, vn, vz⟩ := v
    simp only at q0 q1 q2 q3 q4 HB HL
    unfold agO
    clear h ha hl he hX hR hn hp hq
    simp only
    go_enter Tryz.func115, Tryz.ntmps115
    go_wp2_with fail
    refine HL.out.mono ?_
    rintro e w1 ⟨rfl, hh, hg⟩
    go_wp2_with fail
    go_ret2
    exact ⟨rfl, fun _ => hh, grown_trans (grown_of_below HB.out) hg⟩

set_option maxRecDepth 100000 in
theorem comes_two (h : Held b vs L vc kb p w) (hn : p.length ≤ 1000) (k a : Int) (v : V) (hk : 2 ≤ k ∧ k ≤ 8) :
    Calls Tryz.prog 115 #[.pointer (some ⟨b, 0, none⟩), agO ⟨k, a, v⟩] w (Comes b vs L vc kb w (if p.length < 2 then (p, v0, 2) else (p.take (p.length - 2), twoW kb k (p.getD (p.length - 2) v0) (p.getD (p.length - 1) v0)))) := by
  have ha := (Below.refl w.heap.size w).alloc (Nat.le_refl _) (.cells #[.int .i64 k, .int .i64 a, .int .i64 v.k, .int .i64 v.n, .string v.s] 80)
  have HB := Lib.hid ha
  have hX := bxO_new w ⟨k, a, v⟩
  obtain ⟨q0, q1, q2, q3, q4⟩ := hX.cells
  have HX := Lib.hid hX
  have hH := h.kept ha
  have hlt := h.lt
  have g0 : (k == 0) = false := by simpa using (show k ≠ 0 by omega)
  have g1 : (k == 1) = false := by simpa using (show k ≠ 1 by omega)
  have g9 : (k == 9) = false := by simpa using (show k ≠ 9 by omega)
  by_cases hp0 : p.length = 0
  · rw [if_pos (by omega)]
    obtain rfl : p = [] := List.length_eq_zero_iff.1 hp0
    have HN := Lib.hid (take_none hH)
    unfold Comes
    simp only
    rw [laid_no _ (by decide)]
    obtain ⟨vk, vn, vz⟩ := v
    simp only at q0 q1 q2 q3 q4 HB HN
    unfold agO
    clear h ha hn hp0 hX HX hH
    simp only
    go_enter Tryz.func115, Tryz.ntmps115
    go_wp2_with fail
    refine HN.out.mono ?_
    rintro e w1 ⟨rfl, rfl⟩
    go_wp2_with fail
    refine HN.out.mono ?_
    rintro e w1 ⟨rfl, rfl⟩
    go_wp2_with fail
    go_ret2
    exact ⟨rfl, fun h => absurd h (by decide), grown_of_below HB.out⟩
  · have HT := Lib.hid (take_some hH (by omega) hn)
    have hmx := held_may h (i := p.length - 1) (by omega)
    have hlq : (p.take (p.length - 1)).length = p.length - 1 := by rw [List.length_take]; omega
    by_cases hp1 : p.length = 1
    · rw [if_pos (by omega)]
      have he : p.take (p.length - 1) = [] := by rw [hp1]; rfl
      rw [he] at HT
      obtain ⟨x, hx⟩ : ∃ x, x = th (p.getD (p.length - 1) v0) := ⟨_, rfl⟩
      rw [← hx] at HT
      unfold Comes
      simp only
      rw [laid_no _ (by decide)]
      obtain ⟨vk, vn, vz⟩ := v
      simp only at q0 q1 q2 q3 q4 HB HT
      unfold agO
      clear h ha hn hp0 hX HX hH hmx hlq hp1 he hx
      simp only
      go_enter Tryz.func115, Tryz.ntmps115
      go_wp2_with fail
      refine HT.out.mono ?_
      rintro e w1 ⟨rfl, hh, hg⟩
      have HG := Lib.hid (grown_trans (grown_of_below HB.out) hg)
      have HN := Lib.hid (take_none hh)
      clear hh hg q0 q1 q2 q3 q4
      go_wp2_with fail
      refine HN.out.mono ?_
      rintro e w2 ⟨rfl, rfl⟩
      go_wp2_with fail
      go_ret2
      exact ⟨rfl, fun h => absurd h (by decide), HG.out⟩
    · rw [if_neg (by omega)]
      have hmy := held_may h (i := p.length - 2) (by omega)
      have hgq : (p.take (p.length - 1)).getD (p.length - 1 - 1) v0 = p.getD (p.length - 2) v0 := by
        rw [List.getD_eq_getElem?_getD, List.getD_eq_getElem?_getD, List.getElem?_take, if_pos (by omega), show p.length - 1 - 1 = p.length - 2 from by omega]
      have htq : (p.take (p.length - 1)).take (p.length - 1 - 1) = p.take (p.length - 2) := by rw [List.take_take]; congr 1; omega
      have HT2 := Lib.hid (fun W (hh : Held b vs L vc kb (p.take (p.length - 1)) W) => by
        have := take_some hh (by omega) (by omega)
        rw [hlq, hgq, htq] at this
        exact this)
      obtain ⟨q, hq⟩ : ∃ q, q = p.take (p.length - 1) := ⟨_, rfl⟩
      obtain ⟨q2', hq2⟩ : ∃ q, q = p.take (p.length - 2) := ⟨_, rfl⟩
      obtain ⟨y, hy⟩ : ∃ x, x = p.getD (p.length - 1) v0 := ⟨_, rfl⟩
      obtain ⟨x, hx⟩ : ∃ x, x = p.getD (p.length - 2) v0 := ⟨_, rfl⟩
      rw [← hq, ← hy] at HT
      rw [← hq, ← hq2, ← hx] at HT2
      rw [← hy] at hmx
      rw [← hx] at hmy
      rw [← hq2, ← hx, ← hy]
      have HOf := Lib.hid (fun W (hh : Held b vs L vc kb q2' W) => ofBoth_any hh k x y hmy.1 hmx.1 hmy.2 hmx.2 hk)
      obtain ⟨R, hR⟩ : ∃ R, R = twoW kb k x y := ⟨_, rfl⟩
      rw [← hR] at HOf ⊢
      obtain ⟨X, hXl⟩ := laid_is R
      unfold Comes
      simp only [hXl]
      rw [hXl] at HOf
      obtain ⟨r0, r⟩ := R
      simp only at HOf ⊢
      obtain ⟨tx, htx⟩ : ∃ t, t = th x := ⟨_, rfl⟩
      obtain ⟨ty, hty⟩ : ∃ t, t = th y := ⟨_, rfl⟩
      rw [← hty] at HT
      rw [← htx] at HT2
      rw [← htx, ← hty] at HOf
      obtain ⟨vk, vn, vz⟩ := v
      simp only at q0 q1 q2 q3 q4 HB HT HX
      unfold agO
      clear h ha hn hp0 hX hH hmx hmy hlq hp1 hgq htq hq hq2 hx hy hR hXl htx hty
      simp only
      go_enter Tryz.func115, Tryz.ntmps115
      go_wp2_with fail
      refine HT.out.mono ?_
      rintro e w1 ⟨rfl, hh, hg⟩
      have HG := Lib.hid (grown_trans (grown_of_below HB.out) hg)
      have hx1 := RG.BxN.grown HX.out hg (fun e => by injection e with e; omega)
      have HX1 := Lib.hid hx1
      have HN := Lib.hid (HT2.out w1 hh)
      clear hh hg q0 q1 q2 q3 q4 hx1 HT2 HX HT HB
      go_wp2_with fail
      refine HN.out.mono ?_
      rintro e w2 ⟨rfl, hh, hg⟩
      have HG2 := Lib.hid (grown_trans HG.out hg)
      have hx1 := RG.BxN.grown HX1.out hg (fun e => by injection e with e; omega)
      obtain ⟨q0, q1, q2, q3, q4⟩ := (show BxO w2 w.heap.size ⟨k, a, ⟨vk, vn, vz⟩⟩ from hx1).cells
      simp only at q0 q1 q2 q3 q4
      have HO := Lib.hid (HOf.out w2 hh)
      have HH := Lib.hid hh
      clear hh hg hx1 HX1 HN HG HOf
      go_wp2_with fail
      refine HO.out.mono ?_
      rintro e w3 ⟨rfl, hb3⟩
      go_wp2_with fail
      go_ret2
      exact ⟨rfl, fun _ => HH.out.kept hb3, grown_trans HG2.out (grown_of_below hb3)⟩

/-- What a part lays on the pile. -/
theorem comes_any (h : Held b vs L vc kb p w) (hvs : ∀ x ∈ vs, VaM.May x ∧ Rng x) (hn : p.length ≤ 1000) (o : O) (ho : Ok o) : Calls Tryz.prog 115 #[.pointer (some ⟨b, 0, none⟩), agO o] w (Comes b vs L vc kb w (goes vs kb o p)) := by
  obtain ⟨c, a, v⟩ := o
  obtain ⟨h1, h2, h3, h4, _, h6, _⟩ := ho
  simp only at h1 h2 h3 h4 h6
  unfold goes
  simp only
  by_cases c0 : c = 0
  · rw [if_pos c0]
    exact comes_push h c a v c0 h6
  · rw [if_neg c0]
    by_cases c1 : c = 1
    · rw [if_pos c1]
      exact comes_load h hvs c a v c1 h3 (by omega)
    · rw [if_neg c1]
      by_cases c9 : c = 9
      · rw [if_pos c9]
        exact comes_not h hn c a v c9
      · rw [if_neg c9]
        exact comes_two h hn c a v (by omega)
end
end Go.Proofs.YtbmdkibmfkmjoaaGreat.Ex

namespace Go.Proofs.YtbmdkibmfkmjoaaGreat.Ex
open Go.RowKit Go.Proofs.YtbmdkibmfkmjoaaGreat.BM Go.Proofs.YtbmdkibmfkmjoaaGreat.LM Go.Proofs.YtbmdkibmfkmjoaaGreat.VaM Go.Proofs.YtbmdkibmfkmjoaaGreat.Va Go.Proofs.YtbmdkibmfkmjoaaGreat.ExM Go.Proofs.YtbmdkibmfkmjoaaGreat.EvM
open Go.Proofs.YtbmdkibmfkmjoaaGreat.Sc (grown_set grown_trans)

/-- What the loop carries. -/
structure Go8 (b : Nat) (vs : List V) (L : Option Addr) (vc : Nat) (kb : Bool) (l : List O) (R : V × Int) (w : World) (j : Nat) (p : List V) (wr : World) : Prop where
  few : p.length ≤ j
  held : Held b vs L vc kb p wr
  run : runW vs kb (l.drop j) p = R
  bel : Below b w wr

set_option maxRecDepth 100000 in
set_option maxHeartbeats 8000000 in
theorem through_own {b vc : Nat} {vs : List V} {L : Option Addr} {kb : Bool} {w : World} (h : Held b vs L vc kb [] w) (hvs : ∀ x ∈ vs, VaM.May x ∧ Rng x) (l : List O) (B : Option Addr) (d : Nat) (hO : ∀ W, Below b w W → SlO W B l d) (hom : ∀ x ∈ l, Ok x) (hlen : l.length ≤ 12) :
    Calls Tryz.prog 106 #[.pointer (some ⟨b, 0, none⟩), .slice B l.length d] w fun e w' => e = .returned (laid (runW vs kb l [])) ∧ Below b w w' := by
  have hcm := fun (j : Nat) (hj : j < l.length) (p : List V) (hp : p.length ≤ 1000) W (hW : Held b vs L vc kb p W) => comes_any hW hvs hp _ (hom _ (ExM.getD_mem (l := l) (i := j) hj))
  have hmy := fun (j : Nat) (hj : j < l.length) (p : List V) => goes_may (wr := kb) (p := p) hvs ⟨(hom _ (ExM.getD_mem (l := l) (i := j) hj)).2.2.2.2.2.1, (hO w (Below.refl _ _)).rngs _ (ExM.getD_mem (l := l) (i := j) hj)⟩
  have hdr := fun (j : Nat) (hj : j < l.length) (p : List V) => runW_drop vs kb l j p hj
  have hat := fun (j : Nat) (hj : j < l.length) W (hW : Below b w W) => (hO W hW).at j hj
  have hgl := fun (o : O) (p : List V) => @goes_len vs kb o p
  have hend : ∀ p, runW vs kb (l.drop l.length) p = if p.length = 1 then (p.getD 0 v0, 0) else (v0, 2) := fun p => by rw [List.drop_length, runW]
  obtain ⟨R, hR⟩ : ∃ R, R = runW vs kb l [] := ⟨_, rfl⟩
  have hst : Go8 b vs L vc kb l R w 0 [] w := ⟨Nat.le_refl _, h, by rw [hR]; rfl, Below.refl _ _⟩
  rw [← hR]
  obtain ⟨n, hn⟩ : ∃ n, n = l.length := ⟨_, rfl⟩
  simp only [← hn] at hcm hmy hdr hat hend hlen
  rw [← hn]
  have HCm := Lib.hid hcm
  have HMy := Lib.hid hmy
  have HDr := Lib.hid hdr
  have HAt := Lib.hid hat
  have HGl := Lib.hid hgl
  have HEnd := Lib.hid hend
  have HSt := Lib.hid hst
  clear hcm hmy hdr hat hgl hend hst hR hn h hvs hO hom
  go_enter Tryz.func106, Tryz.ntmps106
  go_wp2_with fail
  go_loopw [12] (fun i wr => ∃ (j : Nat) (p : List V), i = .int .i64 j ∧ j ≤ n ∧ Go8 b vs L vc kb l R w j p wr) (fun i _ => n - (intOf i).toNat)
  case atStart => exact ⟨0, [], rfl, Nat.zero_le _, HSt.out⟩
  case round =>
    obtain ⟨j, p, rfl, hj, hst⟩ := hrel
    have hfew := hst.few
    have HHd := Lib.hid hst.held
    have HRun := Lib.hid hst.run
    have HBl := Lib.hid hst.bel
    clear hst HSt
    by_cases hjn : j < n
    · obtain ⟨b1, q1, hix, hc, _⟩ := HAt.out j hjn wr HBl.out
      obtain ⟨c0, c1, c2, c3, c4⟩ := hc wr (Below.refl _ _)
      have hi := fun W => hix W n d hjn
      have hX := bxO_new wr (l.getD j o0)
      obtain ⟨r0, r1, r2, r3, r4⟩ := hX.cells
      have ha := (Below.refl wr.heap.size wr).alloc (Nat.le_refl _) (.cells #[.int .i64 (l.getD j o0).c, .int .i64 (l.getD j o0).a, .int .i64 (l.getD j o0).v.k, .int .i64 (l.getD j o0).v.n, .string (l.getD j o0).v.s] 80)
      have hcm := HCm.out j hjn p (by omega) _ (HHd.out.kept ha)
      have hdr := HDr.out j hjn p
      have hmy := HMy.out j hjn p
      have hgl := HGl.out (l.getD j o0) p
      obtain ⟨G, hG⟩ : ∃ G, G = goes vs kb (l.getD j o0) p := ⟨_, rfl⟩
      rw [← hG] at hcm hdr hmy hgl
      rw [HRun.out] at hdr
      have hlb := HHd.out.lt
      have HBa := Lib.hid (HBl.out.trans (ha.mono (by omega)))
      unfold agO at hcm
      obtain ⟨⟨oc, oa, ⟨ok, on, os⟩⟩, ho⟩ : ∃ o, o = l.getD j o0 := ⟨_, rfl⟩
      rw [← ho] at c0 c1 c2 c3 c4 r0 r1 r2 r3 r4 hcm HBa
      simp only at c0 c1 c2 c3 c4 r0 r1 r2 r3 r4 hcm HBa
      obtain ⟨q, x, r⟩ := G
      simp only at hdr hmy hgl
      have HCo := Lib.hid hcm
      have HDj := Lib.hid hdr
      have HMx := Lib.hid hmy
      clear hix hc hX ha hcm hdr hmy ho hG HRun HHd HCm HMy HDr HAt HGl
      go_wp2_with fail
      refine HCo.out.mono ?_
      rintro e w3 ⟨rfl, hh3, hg3⟩
      have HB3 := Lib.hid (HBa.out.trans (below_of_grown hg3 (by simp; omega)))
      have HH3 := Lib.hid hh3
      clear hh3 hg3 HCo c0 c1 c2 c3 c4 r0 r1 r2 r3 r4 hi
      by_cases hr : r = 0
      · subst hr
        rw [laid_ok]
        have hdj := HDj.out
        rw [if_pos rfl] at hdj
        have HDk := Lib.hid hdj
        have hh3 := HH3.out rfl
        obtain ⟨A3, d3, hB3, hT3⟩ := hh3.box
        have hb3lt := hB3.lt
        have ha4 := (Below.refl w3.heap.size w3).alloc (Nat.le_refl _) (.cells #[th x] 132)
        have HT4 := Lib.hid (hT3.kept ha4)
        have HX4 := Lib.hid (hB3.kept ha4)
        have HB4 := Lib.hid (HB3.out.trans (ha4.mono (by omega)))
        have HN4 := Lib.hid (thing_new w3 x)
        have hV3 := hh3.vals
        have HV3 := Lib.hid hV3
        have hsz4 := ha4.size
        obtain ⟨tT, tx, htx⟩ := th_is x
        rw [htx] at HT4 HX4 HB4 HN4 hsz4 ha4 ⊢
        obtain ⟨qn, hqn⟩ : ∃ n, n = q.length := ⟨_, rfl⟩
        rw [← hqn] at hB3 HX4 HT4 hgl
        have HQn := Lib.hid hqn
        have HTx := Lib.hid htx
        have HA4 := Lib.hid ha4
        obtain ⟨⟨p0, p1, p2⟩, _⟩ := hB3
        have hT4 := HT4.out.1
        rw [← hqn] at hT4
        have HO4 := Lib.hid hT4
        clear hdj hh3 hT3 ha4 hV3 HH3 HDj hqn htx hT4
        go_wp2_with (at_builtin; refine wp_append_t rfl (.tmp 29) (.tmp 31) rfl (b + 1) _ qn q rfl HO4.out (some ⟨w3.heap.size, 0, none⟩) 1 1 [x] rfl rfl HN4.out (by omega) (by omega) ?_; intro u5 w5 hown5 hgrow5; refine pause ?_)
        have hne : ∀ k, k < b + 1 → some k ≠ (Value.slice A3 qn d3).ownBlock := fun k hk e => by have := (HO4.out.lt _ e.symm).1; omega
        have hx5 := HX4.out.grown hgrow5 (hne b (by omega))
        obtain ⟨A5, d5, rfl⟩ := RG.own_is hown5
        have HX5 := Lib.hid hx5
        have hx6 := bx_set0 hx5 (.slice A5 (qn + 1) d5)
        have hset := grown_set w5 b 0 (.slice A5 (qn + 1) d5)
        have hbl5 : Below b w w5 := HB4.out.grown hgrow5 (by omega) (fun k hk => by have := (HO4.out.lt k hk).1; omega)
        have hbl6 := hbl5.trans (below_of_grown hset (by have := hx5.lt; omega))
        have hql : (q ++ [x]).length = qn + 1 := by rw [List.length_append, HQn.out]; rfl
        have hh6 : Held b vs L vc kb (q ++ [x]) (w5.setCell ⟨b, 0, none⟩ (.slice A5 (qn + 1) d5)) := by
          refine ⟨⟨A5, d5, by rw [hql]; exact hx6, ?_⟩, fun W hW => HV3.out W ?_⟩
          · rw [hql]
            refine Things.grown (w := w5) ⟨by rw [hql]; exact hown5, fun y hy => ?_⟩ hset (Nat.lt_succ_self _)
            rcases List.mem_append.1 hy with hy | hy
            · exact HT4.out.2 y hy
            · rw [List.mem_singleton.1 hy]
              exact HMx.out
          · exact (((HA4.out.mono (by omega : b ≤ w3.heap.size)).grown hgrow5 (by omega) (fun k hk => by have := (HO4.out.lt k hk).1; omega)).trans (below_of_grown hset (by have := hx5.lt; omega))).trans hW
        have HH6 := Lib.hid hh6
        have HB6 := Lib.hid hbl6
        obtain ⟨⟨p0, p1, p2⟩, p3, _⟩ := HX5.out
        clear hown5 hgrow5 hx5 hx6 hset hbl5 hbl6 hql hh6 hne
        unfold Pause
        go_wp2_with fail
        go_roundw
        case rel => exact ⟨j + 1, q ++ [x], by go_num, by omega, by rw [List.length_append, ← HQn.out]; simp only [List.length_cons, List.length_nil]; omega, HH6.out, HDk.out.symm, HB6.out⟩
        case measure => simp [intOf]; omega
      · have hr' : (r != 0) = true := by simpa using hr
        have hdj := HDj.out
        rw [if_neg hr] at hdj
        have HRe := Lib.hid (show laid R = .tuple #[.nilIface, .int .i64 r] from by rw [hdj, laid_no _ hr])
        rw [laid_no _ hr]
        clear hdj HDj hr
        go_wp2_with fail
        go_ret2
        exact ⟨ret_v (x := .tuple #[.nilIface, .int .i64 r]) (by rw [HRe.out]), HB3.out⟩
    · obtain rfl : j = n := by omega
      have hrun := HRun.out
      rw [HEnd.out] at hrun
      obtain ⟨A3, d3, hB3, hT3⟩ := HHd.out.box
      obtain ⟨m, hm⟩ : ∃ m, m = p.length := ⟨_, rfl⟩
      by_cases h1 : p.length = 1
      · rw [if_pos h1] at hrun
        obtain ⟨g, _, hix, hc⟩ := hT3.at 0 (by omega)
        rw [h1] at hB3 hix
        obtain ⟨x, hx⟩ : ∃ x, x = th (p.getD 0 v0) := ⟨_, rfl⟩
        have HRe := Lib.hid (show laid R = .tuple #[x, .int .i64 0] from by rw [← hrun, laid_ok, hx])
        rw [← hx] at hc
        have hi : ∀ W, (Instr.indexAt 128 (.slice A3 1 d3) (.int .i64 0)).run Tryz.prog W = .ok (.pointer (some ⟨g, 0, none⟩)) W := hix
        obtain ⟨⟨p0, p1, p2⟩, _⟩ := hB3
        clear hrun hT3 hx hm h1 hix HRun HHd
        go_wp2_with fail
        go_ret2
        exact ⟨ret_v (x := .tuple #[x, .int .i64 0]) (by rw [HRe.out]), HBl.out⟩
      · rw [if_neg h1] at hrun
        have HRe := Lib.hid (show laid R = .tuple #[.nilIface, .int .i64 2] from by rw [← hrun, laid_no _ (by decide)])
        rw [← hm] at hB3 h1
        have hm1 : ((m : Int) != 1) = true := by simp only [bne_iff_ne, ne_eq]; omega
        have hm2 : (m != 1) = true := by simp only [bne_iff_ne, ne_eq]; omega
        obtain ⟨⟨p0, p1, p2⟩, _⟩ := hB3
        clear hrun hT3 hm HRun HHd
        go_wp2_with fail
        go_ret2
        exact ⟨ret_v (x := .tuple #[.nilIface, .int .i64 2]) (by rw [HRe.out]), HBl.out⟩
end Go.Proofs.YtbmdkibmfkmjoaaGreat.Ex

namespace Go.Proofs.YtbmdkibmfkmjoaaGreat.ExM
open Go.RowKit Go.Proofs.YtbmdkibmfkmjoaaGreat.BM Go.Proofs.YtbmdkibmfkmjoaaGreat.VaM Go.Proofs.YtbmdkibmfkmjoaaGreat.EvM
open Go.Proofs.YtbmdkibmfkmjoaaGreat.Va (same same_iff)

theorem v0_good : VaM.May v0 ∧ Rng v0 := ⟨by decide, by decide, by decide⟩

theorem runW_may {vs : List V} {wr : Bool} (hv : ∀ x ∈ vs, VaM.May x ∧ Rng x) : ∀ (l : List O) (p : List V), (∀ o ∈ l, VaM.May o.v ∧ Rng o.v) → (∀ x ∈ p, VaM.May x ∧ Rng x) → VaM.May (runW vs wr l p).1 ∧ Rng (runW vs wr l p).1
  | [], p, _, hp => by
    rw [runW]
    split
    · rename_i h
      exact hp _ (EvM.getD_mem (l := p) (i := 0) (by omega))
    · exact v0_good
  | o :: l, p, hl, hp => by
    rw [runW]
    split
    · refine runW_may hv l _ (fun x hx => hl x (List.mem_cons_of_mem _ hx)) (fun x hx => ?_)
      rcases List.mem_append.1 hx with hx | hx
      · exact hp x (goes_mem x hx)
      · rw [List.mem_singleton.1 hx]
        exact goes_may hv (hl o (List.mem_cons_self ..))
    · exact v0_good

theorem eval_good {e : Ev} {l : List O} (hr : ∀ x ∈ e.v, Rng x) (hl : Rngs l) : VaM.May (eval e l).1 ∧ Rng (eval e l).1 ∧ ((eval e l).2 ≠ 0 → (eval e l).1 = v0) := by
  unfold eval
  by_cases h : ExM.May l ∧ EvM.May e
  · rw [if_neg (fun k => k h)]
    have hvm : ∀ x ∈ e.v, VaM.May x ∧ Rng x := fun x hx => ⟨h.2.vok hx, hr x hx⟩
    rw [← through_is]
    have hm := runW_may (wr := false) hvm l [] (fun o ho => ⟨(h.1.ok ho).2.2.2.2.2.1, hl o ho⟩) (fun x hx => by cases hx)
    exact ⟨hm.1, hm.2, runW_err _ _ _ _⟩
  · rw [if_pos h]
    exact ⟨by decide, ⟨by decide, by decide⟩, fun _ => rfl⟩

theorem holds_own {e : Ev} {l : List O} (hr : ∀ x ∈ e.v, Rng x) (hl : Rngs l) : holds e l = (decide (l.length = 0) || same (eval e l).1 (truth true)) := by
  obtain ⟨hm, _, he⟩ := eval_good hr hl
  have h0 : decide (l = []) = decide (l.length = 0) := by
    rw [Bool.eq_iff_iff, decide_eq_true_iff, decide_eq_true_iff, List.length_eq_zero_iff]
  unfold holds
  rw [h0]
  congr 1
  rw [Bool.eq_iff_iff, decide_eq_true_iff, same_iff]
  generalize eval e l = r at hm he
  obtain ⟨⟨k, n, s⟩, z⟩ := r
  simp only at hm he ⊢
  constructor
  · rintro ⟨h1, h2, h3⟩
    subst h2 h3
    rcases hm with ⟨h4, _⟩ | ⟨h4, _⟩
    · cases h4
    · obtain rfl : s = e0 := by
        cases s with
        | mk d => rw [show d = #[] from Array.eq_empty_of_size_eq_zero h4]; rfl
      rfl
  · intro h
    injection h with h1 h2 h3
    refine ⟨?_, h1, h2⟩
    by_cases hz : z = 0
    · exact hz
    · have h4 := he hz
      injection h4 with h5
      omega
end Go.Proofs.YtbmdkibmfkmjoaaGreat.ExM

namespace Go.Proofs.YtbmdkibmfkmjoaaGreat.Ex
open Go.RowKit Go.Proofs.YtbmdkibmfkmjoaaGreat.BM Go.Proofs.YtbmdkibmfkmjoaaGreat.VaM Go.Proofs.YtbmdkibmfkmjoaaGreat.Va Go.Proofs.YtbmdkibmfkmjoaaGreat.ExM Go.Proofs.YtbmdkibmfkmjoaaGreat.EvM
open Go.Proofs.YtbmdkibmfkmjoaaGreat.Sc (SlF slF_len)

/-- A value's kind. -/
theorem field_k (k n : Int) (s : ByteArray) (w : World) : (Instr.field 78 (.agg #[.int .i64 k, .int .i64 n, .string s]) 0).run Tryz.prog w = .ok (.int .i64 k) w := by kernel_rfl

/-- A new pile. -/
theorem held_new {vs : List V} {L : Option Addr} {vc : Nat} {w : World} (kb : Bool) (hV : SlV w L vs vc) : Held w.heap.size vs L vc kb [] (w.alloc (.cells #[.slice none 0 0, .slice L vs.length vc, .bool kb] 130)) :=
  ⟨⟨none, 0, bx_new_t w _ _ _ _, things_nil _ _⟩, fun _ hW => hV.kept (((Below.refl w.heap.size w).alloc (Nat.le_refl _) _).trans hW)⟩

set_option maxRecDepth 100000 in
set_option maxHeartbeats 4000000 in
theorem anyOf_any (s : ScM.Sc) (A : Option Addr) (c : Nat) (w : World) (hF : SlF w A s.f c) (hs : ScM.May s) :
    Calls Tryz.prog 105 #[.slice A s.f.length c] w fun e w' => ∃ K k, e = .returned (.slice K s.f.length k) ∧ SlV w' K (kvs s) k ∧ Below w.heap.size w w' := by
  have hfat := fun j (hj : j < s.f.length) => hF.at j hj
  have hkm := kvs_may hs
  have hkt := fun j => @kvs_take s j
  have hkl : (kvs s).length = s.f.length := by unfold kvs; rw [List.length_map]
  have h6 : s.f.length ≤ 6 := hs.2.2.2.1
  obtain ⟨KV', hKV⟩ : ∃ K, K = kvs s := ⟨_, rfl⟩
  rw [← hKV] at hkm hkl
  simp only [← hKV] at hkt
  rw [← hKV]
  obtain ⟨f, hf⟩ : ∃ f, f = s.f := ⟨_, rfl⟩
  simp only [← hf] at hfat hkt hkl h6
  rw [← hf]
  obtain ⟨n, hn⟩ : ∃ n, n = f.length := ⟨_, rfl⟩
  simp only [← hn] at hfat hkt hkl h6
  rw [← hn]
  have HFat := Lib.hid hfat
  have HKm := Lib.hid hkm
  have HKt := Lib.hid hkt
  have HKl := Lib.hid hkl
  obtain ⟨i0, hi0, hz0, hz1, hz2⟩ := info_parts tyV.info
  obtain ⟨w1, hmk, hown1, hg1⟩ := run_make_own (P := Tryz.prog) w w.heap.size 117 78 i0 _ 3 tyV.und hi0 hz0 hz1 .i64 .i64 n (by rw [hz2]; omega) (by unfold maxLen; omega) (Nat.le_refl _)
  have HB1 := Lib.hid ((Below.refl w.heap.size w).grown hg1 (Nat.le_refl _) (fun _ h => by cases h))
  obtain ⟨u1, hu1⟩ : ∃ u, u = (Value.slice (some ⟨w.heap.size, 0, none⟩) 0 n) := ⟨_, rfl⟩
  rw [← hu1] at hmk hown1
  have HP1 := Lib.hid (show Pile w.heap.size (KV'.take 0) u1 w1 from ⟨by rw [List.take_zero]; exact hown1, fun x hx => by rw [List.take_zero] at hx; cases hx⟩)
  clear hfat hkm hkt hkl hF hs hKV hf hn hi0 hz0 hz1 hz2 hown1 hg1 hu1
  go_enter Tryz.func105, Tryz.ntmps105
  go_wp2_with fail
  clear hmk
  go_loopw [3, 11] (fun u i wr => ∃ j : Nat, i = .int .i64 j ∧ j ≤ n ∧ Pile w.heap.size (KV'.take j) u wr ∧ Below w.heap.size w wr) (fun _ i _ => n - (intOf i).toNat)
  case atStart => exact ⟨0, rfl, Nat.zero_le _, HP1.out, HB1.out⟩
  case round =>
    obtain ⟨j, rfl, hj, hpile, hbel⟩ := hrel
    have HP := Lib.hid hpile
    have HBl := Lib.hid hbel
    clear hpile hbel
    by_cases hjn : j < n
    · obtain ⟨b, q, hix, hc, _⟩ := HFat.out j hjn
      have hkt := HKt.out j hjn
      obtain ⟨⟨fs, fk⟩, hf⟩ : ∃ e, e = f.getD j ScM.d0 := ⟨_, rfl⟩
      rw [← hf] at hc hkt
      obtain ⟨y0, y1⟩ := hc wr HBl.out
      simp only at y0 y1
      have hi := fun W => hix W n c hjn
      have HKj := Lib.hid hkt
      have HTl := Lib.hid (show (KV'.take j).length = j from by rw [List.length_take, HKl.out]; omega)
      have ha1 := (Below.refl wr.heap.size wr).alloc (Nat.le_refl _) (.cells #[.string fs, .int .i64 fk] 72)
      obtain ⟨⟨z0, z1⟩, _⟩ := bx2_new wr 72 (.string fs) (.int .i64 fk)
      obtain ⟨w2, hw2⟩ : ∃ w2, w2 = wr.alloc (.cells #[.string fs, .int .i64 fk] 72) := ⟨_, rfl⟩
      rw [← hw2] at ha1
      have ha2 := (Below.refl w2.heap.size w2).alloc (Nat.le_refl _) (.cells #[.int .i64 fk, .int .i64 0, .string ⟨#[]⟩] 78)
      have hn2 := one_new w2 (kval fk)
      have hp2 := HP.out.kept (bt ha1 ha2)
      have hb2 := bt HBl.out (bt ha1 ha2)
      rw [hw2] at hn2 hp2 hb2
      have hsz : (wr.alloc (.cells #[.string fs, .int .i64 fk] 72)).heap.size = wr.heap.size + 1 := by simp
      rw [hsz] at hn2
      have HN2 := Lib.hid hn2
      have HP2 := Lib.hid hp2
      have HB2 := Lib.hid hb2
      have hz2 := HB2.out.size
      have hp3 := HP2.out.1
      rw [HTl.out] at hp3
      have HPo := Lib.hid hp3
      clear hc hix hf hkt ha1 ha2 hp2 hp3 hn2 hb2 hsz hw2 w2
      go_wp2_with (at_builtin; refine wp_append_v rfl (.tmp 15) (.tmp 19) rfl w.heap.size _ j (KV'.take j) rfl HPo.out (some ⟨wr.heap.size + 1, 0, none⟩) 1 1 [kval fk] rfl rfl HN2.out (by omega) hz2 ?_; intro u4 w4 hown4 hgrow4; refine pause ?_)
      have HB4 := Lib.hid (HB2.out.grown hgrow4 hz2 (fun q hq => (HP2.out.1.lt q hq).1))
      rw [← HKj.out] at hown4
      have HP4 := Lib.hid (show Pile w.heap.size (KV'.take (j + 1)) u4 w4 from ⟨by rw [show (KV'.take (j + 1)).length = j + 1 from by rw [List.length_take, HKl.out]; omega]; exact hown4, fun y hy => HKm.out y (List.mem_of_mem_take hy)⟩)
      clear hown4 hgrow4
      unfold Pause
      go_wp2_with fail
      go_roundw
      case rel => exact ⟨j + 1, by go_num, by omega, HP4.out, HB4.out⟩
      case measure => simp [intOf]; omega
    · obtain rfl : j = n := by omega
      have hp := HP.out
      rw [show KV'.take j = KV' from by rw [← HKl.out]; exact List.take_length] at hp
      obtain ⟨K, k, rfl, hsl, _⟩ := hp.sl
      rw [HKl.out] at *
      have HSl := Lib.hid hsl
      clear hp hsl
      go_wp2_with fail
      go_ret
      exact ⟨K, k, rfl, HSl.out, HBl.out⟩

set_option maxRecDepth 100000 in
set_option maxHeartbeats 8000000 in
theorem Kind_any (s : ScM.Sc) (l : List O) (A : Option Addr) (c : Nat) (B : Option Addr) (d : Nat) (w : World) (hF : SlF w A s.f c) (hz : Sc.Fine s) (hO : SlO w B l d) :
    Calls Tryz.prog 90 #[.agg #[.string s.s, .int .i64 s.v, .slice A s.f.length c], .slice B l.length d] w fun e w' => e = .returned (.tuple #[.int .i64 (kind s l).1, .int .i64 (kind s l).2]) ∧ Below w.heap.size w w' := by
  have hml := fun W (h : Below w.heap.size w W) => may_own l B d W (hO.kept h)
  have hms := fun W (h : Below w.heap.size w W) => Sc.May_any s A c W (hF.kept h) hz
  have hao := fun W (h : Below w.heap.size w W) (g : ScM.May s) => anyOf_any s A c W (hF.kept h) g
  have hth := fun (g : ScM.May s ∧ ExM.May l) K k W (h : Below w.heap.size w W) (hk : SlV W K (kvs s) k) => through_own (held_new true hk) (kvs_may g.1) l B d (fun _ h' => hO.kept ((h.mono (Nat.le_refl _)).trans (((Below.refl w.heap.size W).alloc h.size _).trans (h'.mono h.size)))) (fun x hx => g.2.ok hx) g.2.2
  have hno : ¬ (ScM.May s ∧ ExM.May l) → kind s l = (0, 1) := fun h => by rw [kind, if_pos h]
  have hyes : (ScM.May s ∧ ExM.May l) → kind s l = ((runW (kvs s) true l []).1.k, (runW (kvs s) true l []).2) := fun h => by
    obtain ⟨h1, h2⟩ := through_kind (kvs s) l
    rw [kind, if_neg (fun k => k h), h1, h2]
    rfl
  have hrm : ScM.May s → ExM.May l → VaM.May (runW (kvs s) true l []).1 := fun g1 g2 => (runW_may (kvs_may g1) l [] (fun o ho => ⟨(g2.ok ho).2.2.2.2.2.1, hO.rngs o ho⟩) (fun x hx => by cases hx)).1
  have hre := runW_err (kvs s) true l []
  have hkl : (kvs s).length = s.f.length := by unfold kvs; rw [List.length_map]
  obtain ⟨⟨rk, re⟩, hR⟩ : ∃ R, R = kind s l := ⟨_, rfl⟩
  rw [← hR] at hno hyes ⊢
  obtain ⟨Y, hY⟩ : ∃ Y, Y = runW (kvs s) true l [] := ⟨_, rfl⟩
  rw [← hY] at hyes hrm hre
  simp only [← hY, hkl] at hth
  obtain ⟨KV', hKV⟩ : ∃ K, K = kvs s := ⟨_, rfl⟩
  simp only [← hKV] at hth hao
  clear hY hKV hR hkl
  obtain ⟨y, yr⟩ := Y
  simp only at hyes hrm hre
  obtain ⟨nm, v, f⟩ := s
  simp only at hms hao hth
  simp only
  obtain ⟨n, hn⟩ : ∃ n, n = f.length := ⟨_, rfl⟩
  obtain ⟨m, hm⟩ : ∃ n, n = l.length := ⟨_, rfl⟩
  simp only [← hn] at hms hao hth
  simp only [← hm] at hml hth
  rw [← hn, ← hm]
  have HMl := Lib.hid hml
  have HMs := Lib.hid hms
  have HAo := Lib.hid hao
  have HTh := Lib.hid hth
  have HNo := Lib.hid hno
  have HYes := Lib.hid hyes
  have HRm := Lib.hid hrm
  have HRe := Lib.hid hre
  have HX1 := Lib.hid (bx_new_t w 40 (.string nm) (.int .i64 v) (.slice A n c))
  have HB1 := Lib.hid ((Below.refl w.heap.size w).alloc (Nat.le_refl _) (.cells #[.string nm, .int .i64 v, .slice A n c] 40))
  clear hml hms hao hth hno hyes hrm hre hF hz hO hn hm
  obtain ⟨⟨p0, p1, p2⟩, _⟩ := HX1.out
  go_enter Tryz.func90, Tryz.ntmps90
  go_wp2_with fail
  obtain ⟨w1, hw1⟩ : ∃ w1, w1 = w.alloc (.cells #[.string nm, .int .i64 v, .slice A n c] 40) := ⟨_, rfl⟩
  rw [← hw1] at HX1 HB1 ⊢
  clear hw1 p0 p1 p2
  refine (HMs.out w1 HB1.out).mono ?_
  rintro e w2 ⟨rfl, hb2⟩
  have HB2 := Lib.hid (bt HB1.out hb2)
  have HX2 := Lib.hid (HX1.out.kept hb2)
  clear hb2 HB1 HX1 HMs
  by_cases hms : ScM.May ⟨nm, v, f⟩
  · rw [decide_eq_true hms]
    have HS := Lib.hid hms
    clear hms
    go_wp2_with fail
    refine (HMl.out w2 HB2.out).mono ?_
    rintro e w3 ⟨rfl, hb3⟩
    have HB3 := Lib.hid (bt HB2.out hb3)
    have HX3 := Lib.hid (HX2.out.kept hb3)
    clear hb3 HB2 HX2 HMl
    by_cases hml : ExM.May l
    · rw [decide_eq_true hml]
      have HTw := Lib.hid (HTh.out ⟨HS.out, hml⟩)
      have HY := Lib.hid (HYes.out ⟨HS.out, hml⟩)
      have HYm := Lib.hid (HRm.out HS.out hml)
      obtain ⟨⟨p0, p1, p2⟩, _⟩ := HX3.out
      clear hml HNo HYes HTh HRm
      go_wp2_with fail
      refine (HAo.out w3 HB3.out HS.out).mono ?_
      rintro e w4 ⟨K, k, rfl, hsl, hb4⟩
      have HB4 := Lib.hid (bt HB3.out hb4)
      have HC := Lib.hid (HTw.out K k w4 HB4.out hsl)
      have HB5 := Lib.hid (bt HB4.out ((Below.refl w4.heap.size w4).alloc (Nat.le_refl _) (.cells #[.slice none 0 0, .slice K n k, .bool true] 130)))
      have hsz := HB4.out.size
      clear hsl hb4 p0 p1 p2 HAo HTw
      go_wp2_with fail
      obtain ⟨w5, hw5⟩ : ∃ w5, w5 = w4.alloc (.cells #[.slice none 0 0, .slice K n k, .bool true] 130) := ⟨_, rfl⟩
      rw [← hw5] at HC HB5 ⊢
      clear hw5
      refine HC.out.mono ?_
      rintro e w6 ⟨rfl, hb6⟩
      have HB6 := Lib.hid (HB5.out.trans (hb6.mono hsz))
      clear hb6 HC HB5 HB4 HB3
      by_cases hyr : yr = 0
      · subst hyr
        rw [laid_ok]
        clear HRe
        rcases may_ways HYm.out with ⟨a, rfl⟩ | ⟨a, rfl⟩ | ⟨a, rfl⟩ | ⟨a, rfl⟩
        · rw [th_0]
          have z0 := meth_v0
          have z1 := field_k
          have HV := Lib.hid (value_number a)
          unfold ValueV at HV
          simp only at HV
          clear HYm
          go_wp2_with fail
          refine (HV.out _).mono ?_
          rintro e w7 ⟨rfl, hb7⟩
          have HB7 := Lib.hid (bt HB6.out hb7)
          clear hb7
          go_wp2_with fail
          go_ret2
          exact ⟨ret_v (x := .tuple #[.int .i64 0, .int .i64 0]) (by have h := HY.out; injection h with h1 h2; rw [h1, h2]), HB7.out⟩
        · rw [th_1]
          have z0 := meth_v1
          have z1 := field_k
          have HV := Lib.hid (value_truth a)
          unfold ValueV at HV
          clear HYm
          go_wp2_with fail
          refine (HV.out _).mono ?_
          rintro e w7 ⟨rfl, hb7⟩
          have HB7 := Lib.hid (bt HB6.out hb7)
          clear hb7
          go_wp2_with fail
          go_ret2
          exact ⟨ret_v (x := .tuple #[.int .i64 1, .int .i64 0]) (by have h := HY.out; injection h with h1 h2; rw [h1, h2]; rfl), HB7.out⟩
        · rw [th_2]
          have z0 := meth_v2
          have z1 := field_k
          have HV := Lib.hid (value_text a)
          unfold ValueV at HV
          simp only at HV
          clear HYm
          go_wp2_with fail
          refine (HV.out _).mono ?_
          rintro e w7 ⟨rfl, hb7⟩
          have HB7 := Lib.hid (bt HB6.out hb7)
          clear hb7
          go_wp2_with fail
          go_ret2
          exact ⟨ret_v (x := .tuple #[.int .i64 2, .int .i64 0]) (by have h := HY.out; injection h with h1 h2; rw [h1, h2]), HB7.out⟩
        · rw [th_3]
          have z0 := meth_v3
          have z1 := field_k
          have HV := Lib.hid (value_moment a)
          unfold ValueV at HV
          simp only at HV
          clear HYm
          go_wp2_with fail
          refine (HV.out _).mono ?_
          rintro e w7 ⟨rfl, hb7⟩
          have HB7 := Lib.hid (bt HB6.out hb7)
          clear hb7
          go_wp2_with fail
          go_ret2
          exact ⟨ret_v (x := .tuple #[.int .i64 3, .int .i64 0]) (by have h := HY.out; injection h with h1 h2; rw [h1, h2]), HB7.out⟩
      · rw [laid_no _ hyr]
        have g1 : (yr != 0) = true := by simpa using hyr
        have HY0 := Lib.hid (HRe.out hyr)
        clear hyr HRe
        go_wp2_with fail
        go_ret2
        exact ⟨ret_v (x := .tuple #[.int .i64 0, .int .i64 yr]) (by have h := HY.out; injection h with h1 h2; rw [h1, h2, HY0.out]; rfl), HB6.out⟩
    · rw [decide_eq_false hml]
      have HR := Lib.hid (HNo.out (fun h => hml h.2))
      clear hml
      go_wp2_with fail
      go_ret2
      exact ⟨ret_v (x := .tuple #[.int .i64 0, .int .i64 1]) (by have h := HR.out; injection h with h1 h2; rw [h1, h2]), HB3.out⟩
  · rw [decide_eq_false hms]
    have HR := Lib.hid (HNo.out (fun h => hms h.1))
    clear hms
    go_wp2_with fail
    go_ret2
    exact ⟨ret_v (x := .tuple #[.int .i64 0, .int .i64 1]) (by have h := HR.out; injection h with h1 h2; rw [h1, h2]), HB2.out⟩
end Go.Proofs.YtbmdkibmfkmjoaaGreat.Ex

namespace Go.Proofs.YtbmdkibmfkmjoaaGreat.Qy
open Go.RowKit Go.Proofs.YtbmdkibmfkmjoaaGreat.BM Go.Proofs.YtbmdkibmfkmjoaaGreat.LM Go.Proofs.YtbmdkibmfkmjoaaGreat.VaM Go.Proofs.YtbmdkibmfkmjoaaGreat.ExM Go.Proofs.YtbmdkibmfkmjoaaGreat.QyM
open Go.Proofs.YtbmdkibmfkmjoaaGreat.Ex (SlO slO_none slO_len)
open Go.Proofs.YtbmdkibmfkmjoaaGreat.Va (ret_v bx_new_t)
open Go.Proofs.YtbmdkibmfkmjoaaGreat.Sc (SlS SlF slF_len)
open Go.Proofs.YtbmdkibmfkmjoaaGreat.ScM (Sc)

set_option maxRecDepth 100000 in
set_option maxHeartbeats 4000000 in
theorem checkAsked_any (l : List Sc) (nm : ByteArray) (f : List O) (A : Option Addr) (c : Nat) (B : Option Addr) (d : Nat) (w : World) (hS : SlS w A l c) (hrm : Rg.RoomL l) (hO : SlO w B f d) :
    Calls Tryz.prog 60 #[.slice A l.length c, .string nm, .slice B f.length d] w fun e w' => e = .returned (.int .i64 (asks l nm f)) ∧ Below w.heap.size w w' := by
  have hfi := Rg.Find_any l nm A c w hS hrm
  have hki := fun K k W (hF : SlF W K (RgM.find l nm).1.f k) (hz : Sc.Fine (RgM.find l nm).1) (h : Below w.heap.size w W) => Ex.Kind_any (RgM.find l nm).1 f K k B d W hF hz (hO.kept h)
  have h1 := @asks_no l nm f
  have h2 := @asks_nil l nm f
  have h3 := @asks_kind l nm f
  obtain ⟨R, hR⟩ : ∃ R, R = asks l nm f := ⟨_, rfl⟩
  rw [← hR] at h1 h2 h3 ⊢
  unfold Rg.Found at hfi
  obtain ⟨⟨s, is⟩, hF⟩ : ∃ F, F = RgM.find l nm := ⟨_, rfl⟩
  rw [← hF] at h1 h2 h3
  simp only [← hF] at hfi hki
  simp only at h1 h2 h3
  obtain ⟨⟨kk, ke⟩, hk⟩ : ∃ K, K = kind s f := ⟨_, rfl⟩
  rw [← hk] at h3
  simp only [← hk] at hki
  simp only at h3
  clear hF hk hR
  obtain ⟨fs, fv, ff⟩ := s
  simp only at hfi hki
  obtain ⟨n, hn⟩ : ∃ n, n = l.length := ⟨_, rfl⟩
  obtain ⟨m, hm⟩ : ∃ n, n = f.length := ⟨_, rfl⟩
  obtain ⟨k, hk⟩ : ∃ n, n = ff.length := ⟨_, rfl⟩
  simp only [← hn, ← hm, ← hk] at hfi hki
  rw [← hn, ← hm]
  have HFi := Lib.hid hfi
  have HKi := Lib.hid hki
  have H1 := Lib.hid h1
  have H2 := Lib.hid h2
  have H3 := Lib.hid h3
  have HM := Lib.hid hm
  clear hfi hki h1 h2 h3 hn hm hk hS hO
  go_enter Tryz.func60, Tryz.ntmps60
  go_wp2_with fail
  refine HFi.out.mono ?_
  rintro e w1 ⟨A1, c1, rfl, hs, hz, hb⟩
  have ha := (Below.refl w1.heap.size w1).alloc (Nat.le_refl _) (.cells #[.string fs, .int .i64 fv, .slice A1 k c1] 40)
  obtain ⟨⟨p0, p1, p2⟩, _⟩ := bx_new_t w1 40 (.string fs) (.int .i64 fv) (.slice A1 k c1)
  have HB := Lib.hid (bt hb ha)
  have HC := Lib.hid (HKi.out A1 c1 _ (hs.kept ha) hz (bt hb ha))
  clear hs hz hb ha HFi HKi
  cases is
  · have HR := Lib.hid (H1.out rfl)
    clear H1 H2 H3
    go_wp2_with fail
    go_ret
    exact ⟨ret_v (x := .int .i64 3) (by rw [HR.out]), HB.out⟩
  · by_cases hf : f = []
    · have HR := Lib.hid (H2.out rfl hf)
      have g0 : m = 0 := by rw [HM.out, hf]; rfl
      subst g0
      clear H1 H2 H3 hf HM
      go_wp2_with fail
      go_ret
      exact ⟨ret_v (x := .int .i64 0) (by rw [HR.out]), HB.out⟩
    · have HR := Lib.hid (H3.out rfl hf)
      have hm0 : m ≠ 0 := fun e => hf (List.length_eq_zero_iff.1 (by rw [← HM.out, e]))
      have g0 : ((m : Int) == 0) = false := by simpa using (show (m : Int) ≠ 0 by omega)
      have g0' : (m == 0) = false := by simpa using hm0
      obtain ⟨z1, g1⟩ : ∃ z, (ke == 0) = z := ⟨_, rfl⟩
      obtain ⟨z2, g2⟩ : ∃ z, (kk != 1) = z := ⟨_, rfl⟩
      have HR2 := Lib.hid (show R = if z1 = true ∧ z2 = true then 5 else ke from by
        rw [HR.out, ← g1, ← g2]
        simp only [beq_iff_eq, bne_iff_ne])
      clear H1 H2 H3 hf hm0 HM HR
      go_wp2_with fail
      refine HC.out.mono ?_
      rintro e w2 ⟨rfl, hb2⟩
      have HB2 := Lib.hid (bt HB.out hb2)
      clear hb2
      cases z1
      · go_wp2_with fail
        go_ret
        exact ⟨ret_v (x := .int .i64 ke) (by rw [HR2.out]; rfl), HB2.out⟩
      · cases z2
        · go_wp2_with fail
          go_ret
          exact ⟨ret_v (x := .int .i64 ke) (by rw [HR2.out]; rfl), HB2.out⟩
        · go_wp2_with fail
          go_ret
          exact ⟨ret_v (x := .int .i64 5) (by rw [HR2.out]; rfl), HB2.out⟩

set_option maxRecDepth 100000 in
set_option maxHeartbeats 4000000 in
theorem checkStep_any (l : List Sc) (x : St) (A : Option Addr) (c : Nat) (A1 : Option Addr) (c1 : Nat) (B1 : Option Addr) (d1 : Nat) (w : World) (hS : SlS w A l c) (hrm : Rg.RoomL l) (hA : SlO w A1 x.f c1) (hB : SlO w B1 x.h d1) :
    Calls Tryz.prog 35 #[.slice A l.length c, agSt x A1 c1 B1 d1] w fun e w' => e = .returned (.int .i64 (asksS l x)) ∧ Below w.heap.size w w' := by
  have hX := bxSt_new w x A1 c1 B1 d1
  have ha := (Below.refl w.heap.size w).alloc (Nat.le_refl _) (.cells #[.string x.s, .slice A1 x.f.length c1, .int .i64 x.lo, .int .i64 x.hi, .bool x.g, .string x.t, .slice B1 x.h.length d1] 47)
  have hk1 := checkAsked_any l x.s x.f A c A1 c1 _ (hS.kept ha) hrm (hA.kept ha)
  have hk2 := fun W (h : Below w.heap.size w W) => checkAsked_any l x.t x.h A c B1 d1 W (hS.kept h) hrm (hB.kept h)
  have hyes := @asksS_yes l x
  have hno := @asksS_no l x
  obtain ⟨S, hSx⟩ : ∃ S, S = asksS l x := ⟨_, rfl⟩
  rw [← hSx] at hyes hno ⊢
  obtain ⟨E1, hE1⟩ : ∃ E, E = asks l x.s x.f := ⟨_, rfl⟩
  obtain ⟨E2, hE2⟩ : ∃ E, E = asks l x.t x.h := ⟨_, rfl⟩
  rw [← hE1] at hyes hno hk1
  rw [← hE2] at hyes
  simp only [← hE2] at hk2
  unfold agSt
  unfold BxSt encSt at hX
  clear hE1 hE2 hSx hS hA hB
  obtain ⟨xs, xf, lo, hi', xg, xt, xh⟩ := x
  simp only at hX ha hk1 hk2 hyes hno ⊢
  obtain ⟨m, hm⟩ : ∃ m, m = l.length := ⟨_, rfl⟩
  obtain ⟨n1, hn1⟩ : ∃ n, n = xf.length := ⟨_, rfl⟩
  obtain ⟨n2, hn2⟩ : ∃ n, n = xh.length := ⟨_, rfl⟩
  simp only [← hm, ← hn1, ← hn2] at hX ha hk1 hk2 ⊢
  have HB1 := Lib.hid ha
  have HX := Lib.hid hX
  have HK1 := Lib.hid hk1
  have HK2 := Lib.hid hk2
  have HYes := Lib.hid hyes
  have HNo := Lib.hid hno
  obtain ⟨p0, p1, p2, p3, p4, p5, p6⟩ := bx7 hX
  clear hX ha hk1 hk2 hyes hno hm hn1 hn2
  go_enter Tryz.func35, Tryz.ntmps35
  go_wp2_with fail
  refine HK1.out.mono ?_
  rintro e w2 ⟨rfl, hb2⟩
  have HB2 := Lib.hid (bt HB1.out hb2)
  obtain ⟨r0, r1, r2, r3, r4, r5, r6⟩ := bx7 (RG.BxN.kept HX.out hb2)
  clear hb2 HK1 p0 p1 p2 p3 p4 p5 p6
  by_cases hE1z : E1 = 0
  · subst hE1z
    cases xg
    · have HS0 := Lib.hid (HNo.out (fun h => by cases h.2))
      go_wp2_with fail
      go_ret
      exact ⟨ret_v (x := .int .i64 0) (by rw [HS0.out]), HB2.out⟩
    · have HS0 := Lib.hid (HYes.out rfl rfl)
      go_wp2_with fail
      refine (HK2.out w2 HB2.out).mono ?_
      rintro e w3 ⟨rfl, hb3⟩
      have HB3 := Lib.hid (bt HB2.out hb3)
      clear hb3
      go_wp2_with fail
      go_ret
      exact ⟨ret_v (x := .int .i64 E2) (by rw [HS0.out]), HB3.out⟩
  · have g2 : (E1 == 0) = false := by simpa using hE1z
    have HS0 := Lib.hid (HNo.out (fun h => hE1z h.1))
    clear hE1z
    go_wp2_with fail
    go_ret
    exact ⟨ret_v (x := .int .i64 E1) (by rw [HS0.out]), HB2.out⟩

set_option maxRecDepth 100000 in
set_option maxHeartbeats 8000000 in
theorem checkAgg_any (l : List Sc) (q : Q) (A : Option Addr) (c : Nat) (B : Option Addr) (d : Nat) (w : World) (hS : SlS w A l c) (hrm : Rg.RoomL l) (hT : SlSt w B q.p d) (hmq : May q) :
    Calls Tryz.prog 36 #[.slice A l.length c, agQ q B d] w fun e w' => e = .returned (.int .i64 (if aggBad l q then 5 else 0)) ∧ Below w.heap.size w w' := by
  have hb1 := (Below.refl w.heap.size w).alloc (Nat.le_refl _) (.cells #[.slice B q.p.length d, .int .i64 q.w, .int .i64 q.a, .int .i64 q.i, .int .i64 q.f] 25)
  have hX := bxQ_new w q B d
  have hfind := fun nm W (h : Below w.heap.size w W) => Rg.Find_any l nm A c W (hS.kept h) hrm
  have hagg : aggBad l q ↔ q.a ≠ 0 ∧ ¬ (q.f < ((RgM.find l (q.p.getD q.i.toNat t0).s).1.f.length : Int) ∧ ((RgM.find l (q.p.getD q.i.toNat t0).s).1.f.getD q.f.toNat ScM.d0).k = 0) := Iff.rfl
  obtain ⟨R, hR⟩ : ∃ R : Int, R = if aggBad l q then 5 else 0 := ⟨_, rfl⟩
  rw [← hR]
  have h5 : aggBad l q → R = 5 := fun h => by rw [hR, if_pos h]
  have h0 : ¬ aggBad l q → R = 0 := fun h => by rw [hR, if_neg h]
  obtain ⟨hi0, hin⟩ : 0 ≤ q.i ∧ q.i < (q.p.length : Int) := hmq.2.2.2.1
  have hf0 : 0 ≤ q.f := hmq.2.2.2.2.1.1
  unfold agQ
  unfold BxQ encQ at hX
  clear hR hS hmq
  obtain ⟨qp, qw, qa, qi, qf⟩ := q
  simp only at hb1 hX hT hagg hi0 hin hf0 ⊢
  obtain ⟨ki, rfl⟩ := Int.eq_ofNat_of_zero_le hi0
  obtain ⟨kf, rfl⟩ := Int.eq_ofNat_of_zero_le hf0
  simp only [Int.toNat_natCast] at hagg
  rw [hagg] at h5 h0
  clear hagg
  obtain ⟨m, hm⟩ : ∃ m, m = l.length := ⟨_, rfl⟩
  obtain ⟨n, hn⟩ : ∃ n, n = qp.length := ⟨_, rfl⟩
  simp only [← hm, ← hn] at hb1 hX hfind hin ⊢
  have hkn : ki < n := by omega
  have HX := Lib.hid hX
  have HB1 := Lib.hid hb1
  obtain ⟨p0, p1, p2, p3, p4⟩ := bx5 hX
  obtain ⟨b1, q1, A1, c1, C1, d1, hix, hc, _⟩ := hT.at ki (by rw [← hn]; exact hkn)
  have hcell := (hc _ hb1).1
  unfold CellSt at hcell
  obtain ⟨x0, x1, x2, x3, x4, x5, x6⟩ := hcell
  have hi := fun W => hix W n d hkn
  have hfn := hfind (qp.getD ki t0).s _ hb1
  obtain ⟨xs, hxs⟩ : ∃ s, s = (qp.getD ki t0).s := ⟨_, rfl⟩
  rw [← hxs] at x0 hfn h5 h0
  unfold Rg.Found at hfn
  obtain ⟨⟨s, is⟩, hF⟩ : ∃ F, F = RgM.find l xs := ⟨_, rfl⟩
  rw [← hF] at hfn h5 h0
  simp only at hfn h5 h0
  obtain ⟨fs, fv, ff⟩ := s
  simp only at hfn h5 h0
  obtain ⟨nf, hnf⟩ : ∃ n, n = ff.length := ⟨_, rfl⟩
  rw [← hnf] at hfn h5 h0
  have HFn := Lib.hid hfn
  have H5 := Lib.hid h5
  have H0 := Lib.hid h0
  have HNf := Lib.hid hnf
  clear hfind hX hb1 hT hm hn hix hc hxs hF hnf hfn h5 h0 x1 x2 x3 x4 x5 x6 hi0 hin hf0
  by_cases hqa : qa = 0
  · subst hqa
    have HR := Lib.hid (H0.out (fun h => h.1 rfl))
    go_enter Tryz.func36, Tryz.ntmps36
    go_wp2_with fail
    go_ret
    exact ⟨ret_v (x := .int .i64 0) (by rw [HR.out]), HB1.out⟩
  · have g1 : (qa == 0) = false := by simpa using hqa
    have H5' := Lib.hid (fun h => H5.out ⟨hqa, h⟩)
    have H0' := Lib.hid (fun h => H0.out (fun k => k.2 h))
    clear H5 H0 hqa
    go_enter Tryz.func36, Tryz.ntmps36
    go_wp2_with fail
    refine HFn.out.mono ?_
    rintro e w5 ⟨K, k5, rfl, hsl, hfz, hb5⟩
    have ha6 := (Below.refl w5.heap.size w5).alloc (Nat.le_refl _) (.cells #[.string fs, .int .i64 fv, .slice K nf k5] 40)
    obtain ⟨⟨y0, y1, y2⟩, _⟩ := bx_new_t w5 40 (.string fs) (.int .i64 fv) (.slice K nf k5)
    have HB6 := Lib.hid (bt HB1.out (bt hb5 ha6))
    obtain ⟨s0, s1, s2, s3, s4⟩ := bx5 (RG.BxN.kept HX.out (bt hb5 ha6))
    have HSl := Lib.hid (hsl.kept ha6)
    clear hsl hb5 ha6 hfz p0 p1 p2 p3 p4 x0 hi HFn
    by_cases hkf : kf < nf
    · have g2 : decide ((nf : Int) ≤ (kf : Int)) = false := by rw [decide_eq_false_iff_not]; omega
      have g2' : decide (nf ≤ kf) = false := by rw [decide_eq_false_iff_not]; omega
      obtain ⟨b6, q6, hix6, hc6, _⟩ := HSl.out.at kf (by rw [← HNf.out]; exact hkf)
      obtain ⟨_, t1⟩ := hc6 _ (Below.refl _ _)
      have hi6 := fun W => hix6 W nf k5 hkf
      obtain ⟨fk, hfk⟩ : ∃ k, k = (ff.getD kf ScM.d0).k := ⟨_, rfl⟩
      rw [← hfk] at t1
      obtain ⟨z, gz⟩ : ∃ z, (fk != 0) = z := ⟨_, rfl⟩
      have HR := Lib.hid (show R = if z = true then 5 else 0 from by
        by_cases hz : fk = 0
        · rw [H0'.out ⟨by omega, by rw [← hfk]; exact hz⟩, ← gz, hz]
          rfl
        · rw [H5'.out (fun h => hz (by rw [hfk]; exact h.2)), ← gz, if_pos (by simpa using hz)])
      clear hc6 hix6 hfk H0' H5'
      cases z
      · go_wp2_with fail
        go_ret
        exact ⟨ret_v (x := .int .i64 0) (by rw [HR.out]; rfl), HB6.out⟩
      · go_wp2_with fail
        go_ret
        exact ⟨ret_v (x := .int .i64 5) (by rw [HR.out]; rfl), HB6.out⟩
    · have g2 : decide ((nf : Int) ≤ (kf : Int)) = true := by rw [decide_eq_true_iff]; omega
      have g2' : decide (nf ≤ kf) = true := by rw [decide_eq_true_iff]; omega
      have HR := Lib.hid (H5'.out (fun h => hkf (by omega)))
      go_wp2_with fail
      go_ret
      exact ⟨ret_v (x := .int .i64 5) (by rw [HR.out]), HB6.out⟩

set_option maxRecDepth 100000 in
set_option maxHeartbeats 8000000 in
theorem Check_any (l : List Sc) (q : Q) (A : Option Addr) (c : Nat) (B : Option Addr) (d : Nat) (w : World) (hS : SlS w A l c) (hT : SlSt w B q.p d) :
    Calls Tryz.prog 14 #[.slice A l.length c, agQ q B d] w fun e w' => e = .returned (.int .i64 (check l q)) ∧ Below w.heap.size w w' := by
  have hlen := slSt_len hT
  have hml := fun W (h : Below w.heap.size w W) => Rg.May_any l A c W (hS.kept h)
  have hmq := fun W (h : Below w.heap.size w W) => wellMade_any q B d W (hT.kept h)
  have hask := fun x K k K2 k2 W (h : Below w.heap.size w W) (hm : RgM.May l) (hO : SlO W K x.f k) (hO2 : SlO W K2 x.h k2) => checkStep_any l x A c K k K2 k2 W (hS.kept h) (Rg.roomL_may hm) hO hO2
  have hag := fun W (h : Below w.heap.size w W) (hm : RgM.May l ∧ May q) => checkAgg_any l q A c B d W (hS.kept h) (Rg.roomL_may hm.1) (hT.kept h) hm.2
  have h1 := @check_1 l q
  have he := fun h j => @check_e l q h j
  have ha := @check_a l q
  have hb1 := (Below.refl w.heap.size w).alloc (Nat.le_refl _) (.cells #[.slice B q.p.length d, .int .i64 q.w, .int .i64 q.a, .int .i64 q.i, .int .i64 q.f] 25)
  have hX := bxQ_new w q B d
  obtain ⟨R, hR⟩ : ∃ R, R = check l q := ⟨_, rfl⟩
  rw [← hR] at h1 ha ⊢
  simp only [← hR] at he
  unfold agQ at hmq hag ⊢
  unfold BxQ encQ at hX
  obtain ⟨m, hm⟩ : ∃ m, m = l.length := ⟨_, rfl⟩
  obtain ⟨n, hn⟩ : ∃ n, n = q.p.length := ⟨_, rfl⟩
  simp only [← hm] at hml hask hag
  simp only [← hn] at hmq he ha hb1 hlen hag hX
  rw [← hm, ← hn]
  have HX := Lib.hid hX
  have HB1 := Lib.hid hb1
  have HMl := Lib.hid hml
  have HMq := Lib.hid hmq
  have HAsk := Lib.hid hask
  have HAgg := Lib.hid hag
  have H1 := Lib.hid h1
  have HE := Lib.hid he
  have HA := Lib.hid ha
  have HN := Lib.hid hn
  have HT := Lib.hid hT
  obtain ⟨p0, p1, p2, p3, p4⟩ := bx5 hX
  clear hml hmq hask hag h1 he ha hb1 hX hR hn hm hS hT
  go_enter Tryz.func14, Tryz.ntmps14
  go_wp2_with fail
  obtain ⟨w1, hw1⟩ : ∃ w1, w1 = w.alloc (.cells #[.slice B n d, .int .i64 q.w, .int .i64 q.a, .int .i64 q.i, .int .i64 q.f] 25) := ⟨_, rfl⟩
  rw [← hw1] at HX HB1 ⊢
  have HXk := Lib.hid (fun W h => bx5 (RG.BxN.kept HX.out (w' := W) h))
  clear hw1 HX p0 p1 p2 p3 p4
  refine (HMl.out w1 HB1.out).mono ?_
  rintro e w2 ⟨rfl, hb2⟩
  have HB2 := Lib.hid hb2
  obtain ⟨p0, p1, p2, p3, p4⟩ := HXk.out w2 hb2
  clear hb2 HMl
  obtain ⟨a1, ha1⟩ : ∃ a, a = decide (RgM.May l) := ⟨_, rfl⟩
  rw [← ha1]
  have HA1 := Lib.hid ha1
  clear ha1
  cases a1
  · have HR := Lib.hid (H1.out (fun h => by
      have g1 := HA1.out
      rw [decide_eq_true h.1] at g1
      cases g1))
    go_wp2_with fail
    go_ret
    exact ⟨ret_v (x := .int .i64 1) (by rw [HR.out]), bt HB1.out HB2.out⟩
  go_wp2_with fail
  refine (HMq.out w2 (bt HB1.out HB2.out)).mono ?_
  rintro e w3 ⟨rfl, hb3⟩
  have HB3 := Lib.hid (bt HB2.out hb3)
  obtain ⟨a2, ha2⟩ : ∃ a, a = decide (May q) := ⟨_, rfl⟩
  rw [← ha2]
  have HA2 := Lib.hid ha2
  obtain ⟨r0, r1, r2, r3, r4⟩ := HXk.out w3 HB3.out
  clear hb3 ha2 HMq HB2 p0 p1 p2 p3 p4
  cases a2
  · have HR := Lib.hid (H1.out (fun h => by
      have g1 := HA2.out
      rw [decide_eq_true h.2] at g1
      cases g1))
    go_wp2_with fail
    go_ret
    exact ⟨ret_v (x := .int .i64 1) (by rw [HR.out]), bt HB1.out HB3.out⟩
  have hmays : RgM.May l ∧ May q := ⟨of_decide_eq_true HA1.out.symm, of_decide_eq_true HA2.out.symm⟩
  have HMs := Lib.hid hmays
  have HE2 := Lib.hid (HE.out hmays)
  have HAg2 := Lib.hid (HA.out hmays)
  clear hmays H1 HE HA HA1 HA2
  go_wp2_with fail
  go_loopw [18] (fun i wr => ∃ j : Nat, i = .int .i64 j ∧ j ≤ n ∧ (∀ i, i < j → asksS l (q.p.getD i t0) = 0) ∧ Below w1.heap.size w1 wr) (fun i _ => n - (intOf i).toNat)
  case atStart => exact ⟨0, rfl, Nat.zero_le _, (fun i hi => absurd hi (Nat.not_lt_zero i)), HB3.out⟩
  case round =>
    obtain ⟨j, rfl, hj, hall, hbel⟩ := hrel
    have HAl := Lib.hid hall
    have HBl := Lib.hid hbel
    obtain ⟨p0, p1, p2, p3, p4⟩ := HXk.out wr hbel
    clear hall hbel HB3 r0 r1 r2 r3 r4
    by_cases hjn : j < n
    · obtain ⟨b1, q1, A1, c1, C1, d1, hix, hc, hfz⟩ := HT.out.at j (by rw [← HN.out]; exact hjn)
      obtain ⟨hcell, hA1, hC1⟩ := hc wr (bt HB1.out HBl.out)
      have hi := fun W => hix W n d hjn
      have hej := HE2.out j hjn HAl.out
      obtain ⟨x, hx⟩ : ∃ x, x = q.p.getD j t0 := ⟨_, rfl⟩
      rw [← hx] at hcell hA1 hC1 hej
      have hsucc : asksS l x = 0 → ∀ i, i < j + 1 → asksS l (q.p.getD i t0) = 0 := fun h i hi => by
        by_cases e : i = j
        · rw [e, ← hx]
          exact h
        · exact HAl.out i (by omega)
      have hk := HAsk.out x A1 c1 C1 d1 wr (bt HB1.out HBl.out) HMs.out.1 hA1 hC1
      obtain ⟨S, hSx⟩ : ∃ S, S = asksS l x := ⟨_, rfl⟩
      rw [← hSx] at hej hsucc hk
      unfold agSt at hk
      unfold CellSt at hcell
      obtain ⟨xs, xf, lo, hi', xg, xt, xh⟩ := x
      simp only at hcell hk
      obtain ⟨x0, x1, x2, x3, x4, x5, x6⟩ := hcell
      obtain ⟨n1, hn1⟩ : ∃ n, n = xf.length := ⟨_, rfl⟩
      obtain ⟨n2, hn2⟩ : ∃ n, n = xh.length := ⟨_, rfl⟩
      simp only [← hn1] at x1 hk
      simp only [← hn2] at x6 hk
      have HK := Lib.hid hk
      have HEj := Lib.hid hej
      have HSu := Lib.hid hsucc
      clear hc hix hfz hA1 hC1 hej hsucc hk hSx hn1 hn2 hx
      go_wp2_with fail
      refine HK.out.mono ?_
      rintro e w5 ⟨rfl, hb5⟩
      have HB5 := Lib.hid (bt HBl.out hb5)
      clear hb5 HK x0 x1 x2 x3 x4 x5 x6 p0 p1 p2 p3 p4 hi
      by_cases hSz : S = 0
      · subst hSz
        have HNx := Lib.hid (HSu.out rfl)
        go_wp2_with fail
        go_roundw
        case rel => exact ⟨j + 1, by go_num, by omega, HNx.out, HB5.out⟩
        case measure => simp [intOf]; omega
      · have g1 : (S != 0) = true := by simpa using hSz
        have HR := Lib.hid (HEj.out hSz)
        clear hSz
        go_wp2_with fail
        go_ret
        exact ⟨ret_v (x := .int .i64 S) (by rw [HR.out]), bt HB1.out HB5.out⟩
    · obtain rfl : j = n := by omega
      have HRr := Lib.hid (HAg2.out HAl.out)
      have hg := HAgg.out wr (bt HB1.out HBl.out) HMs.out
      obtain ⟨E, hE⟩ : ∃ E : Int, E = if aggBad l q then 5 else 0 := ⟨_, rfl⟩
      rw [← hE] at hg
      have HR := Lib.hid (show R = E from by rw [HRr.out, hE])
      have HG := Lib.hid hg
      clear hg hE
      go_wp2_with fail
      refine HG.out.mono ?_
      rintro e w5 ⟨rfl, hb5⟩
      have HB5 := Lib.hid (bt HBl.out hb5)
      clear hb5
      go_wp2_with fail
      go_ret
      exact ⟨ret_v (x := .int .i64 E) (by rw [HR.out]), bt HB1.out HB5.out⟩
end Go.Proofs.YtbmdkibmfkmjoaaGreat.Qy

namespace Go.Proofs.YtbmdkibmfkmjoaaGreat.Qy
open Go.RowKit Go.Proofs.YtbmdkibmfkmjoaaGreat.BM Go.Proofs.YtbmdkibmfkmjoaaGreat.VaM Go.Proofs.YtbmdkibmfkmjoaaGreat.ExM Go.Proofs.YtbmdkibmfkmjoaaGreat.QyM

theorem steps_iff {a b : List St} (h : a.length = b.length) : a = b ↔ ∀ j, j < a.length → a.getD j t0 = b.getD j t0 := by
  constructor
  · rintro rfl j _
    rfl
  · intro hh
    apply List.ext_getElem h
    intro i h1 h2
    have h3 := hh i h1
    rw [List.getD_eq_getElem?_getD, List.getD_eq_getElem?_getD, List.getElem?_eq_getElem h1, List.getElem?_eq_getElem h2] at h3
    exact h3

end Go.Proofs.YtbmdkibmfkmjoaaGreat.Qy

namespace Go.Proofs.YtbmdkibmfkmjoaaGreat.Qy
open Go.RowKit Go.Proofs.YtbmdkibmfkmjoaaGreat.BM Go.Proofs.YtbmdkibmfkmjoaaGreat.LM Go.Proofs.YtbmdkibmfkmjoaaGreat.VaM Go.Proofs.YtbmdkibmfkmjoaaGreat.ExM Go.Proofs.YtbmdkibmfkmjoaaGreat.QyM
open Go.Proofs.YtbmdkibmfkmjoaaGreat.Ex (SlO slO_none slO_len)
open Go.Proofs.YtbmdkibmfkmjoaaGreat.Va (ret_v toList_beq)

set_option maxRecDepth 100000 in
set_option maxHeartbeats 16000000 in
theorem Same_any (a b : Q) (A : Option Addr) (c : Nat) (B : Option Addr) (d : Nat) (w : World) (hS : SlSt w A a.p c) (hT : SlSt w B b.p d) :
    Calls Tryz.prog 16 #[agQ a A c, agQ b B d] w fun e w' => e = .returned (.bool (decide (a = b))) ∧ Below w.heap.size w w' := by
  have hl := slSt_len hS
  have hm := slSt_len hT
  have hq := @steps_iff a.p b.p
  have hba := fun W => behindSteps_any a A c W
  have hbb' := fun W => behindSteps_any b B d W
  have heq := fun W => eql_b a b W
  obtain ⟨z, gz⟩ : ∃ z, decide (a.w = b.w ∧ a.a = b.a ∧ a.i = b.i ∧ a.f = b.f) = z := ⟨_, rfl⟩
  simp only [gz] at heq
  obtain ⟨R, hR⟩ : ∃ R, R = decide (a = b) := ⟨_, rfl⟩
  rw [← hR]
  have hr : R = true ↔ a.p = b.p ∧ z = true := by rw [hR, decide_eq_true_iff, Q.ext_iff', ← gz, decide_eq_true_iff]
  have hX := bxQ_new w a A c
  have hb1 := (Below.refl w.heap.size w).alloc (Nat.le_refl _) (.cells #[.slice A a.p.length c, .int .i64 a.w, .int .i64 a.a, .int .i64 a.i, .int .i64 a.f] 25)
  obtain ⟨u1, hu1⟩ : ∃ u, u = w.alloc (.cells #[.slice A a.p.length c, .int .i64 a.w, .int .i64 a.a, .int .i64 a.i, .int .i64 a.f] 25) := ⟨_, rfl⟩
  have hs1 : u1.heap.size = w.heap.size + 1 := by rw [hu1]; simp
  rw [← hu1] at hX hb1
  have hY := bxQ_new u1 b B d
  rw [hs1] at hY
  have hb2 := (Below.refl u1.heap.size u1).alloc (Nat.le_refl _) (.cells #[.slice B b.p.length d, .int .i64 b.w, .int .i64 b.a, .int .i64 b.i, .int .i64 b.f] 25)
  have hX2 := hX.kept hb2
  have hbb := bt hb1 hb2
  rw [hu1] at hX2 hY hbb
  unfold BxQ encQ at hX2 hY
  clear hX hb1 hb2 hs1 hu1 u1 gz hR
  unfold agQ at hba hbb' ⊢
  unfold agB at hba hbb' heq
  obtain ⟨ap, aw, aa, ai, af⟩ := a
  obtain ⟨bp, bw, ba, bi, bf⟩ := b
  simp only at hS hT hl hm hq hr hX2 hY hbb hba hbb' heq ⊢
  obtain ⟨n, hn⟩ : ∃ n, n = ap.length := ⟨_, rfl⟩
  obtain ⟨r, hr'⟩ : ∃ r, r = bp.length := ⟨_, rfl⟩
  rw [← hn] at hl
  rw [← hr'] at hm
  simp only [← hn, ← hr'] at hX2 hY hbb hba hbb' ⊢
  rw [← hn] at hq
  rw [← hr'] at hq
  have hlen : ap = bp → n = r := fun e => by rw [hn, hr', e]
  obtain ⟨z0, g0⟩ : ∃ z, ((n : Int) != (r : Int)) = z := ⟨_, rfl⟩
  have g0' : (n != r) = z0 := by rw [← g0, Bool.eq_iff_iff, bne_iff_ne, bne_iff_ne]; omega
  have HN := Lib.hid hn
  have HRr := Lib.hid hr'
  have HS := Lib.hid hS
  have HT := Lib.hid hT
  have HQ := Lib.hid hq
  have HR := Lib.hid hr
  have HB := Lib.hid hbb
  have HG0 := Lib.hid g0'
  have HL := Lib.hid hlen
  have HBa := Lib.hid hba
  have HBb := Lib.hid hbb'
  have HEq := Lib.hid heq
  have HX := Lib.hid hX2
  have HY := Lib.hid hY
  obtain ⟨p0, p1, p2, p3, p4⟩ := bx5 hX2
  obtain ⟨q0', q1', q2', q3', q4'⟩ := bx5 hY
  clear hn hr' hS hT hq hr hbb hlen hba hbb' heq hX2 hY
  cases z0
  rotate_left
  · have HF := Lib.hid (show R = false from by
      cases R
      · rfl
      · have h1 := HL.out (HR.out.1 rfl).1
        have h2 := HG0.out
        rw [bne_iff_ne] at h2
        exact absurd h1 h2)
    clear HR HG0
    go_enter Tryz.func16, Tryz.ntmps16
    go_wp2_with fail
    go_ret
    exact ⟨ret_v (x := .bool false) (by rw [HF.out]), HB.out⟩
  have hnr : n = r := by
    have := HG0.out
    rw [bne_eq_false_iff_eq] at this
    exact this
  subst hnr
  have HQ2 := Lib.hid (HQ.out rfl)
  have HFa := Lib.hid (fun h : ap ≠ bp => (by
    cases R
    · rfl
    · exact absurd (HR.out.1 rfl).1 h : R = false))
  clear HQ HG0 HL
  go_enter Tryz.func16, Tryz.ntmps16
  go_wp2_with fail
  obtain ⟨w1, hw1⟩ : ∃ w1, w1 = (w.alloc (.cells #[.slice A n c, .int .i64 aw, .int .i64 aa, .int .i64 ai, .int .i64 af] 25)).alloc (.cells #[.slice B n d, .int .i64 bw, .int .i64 ba, .int .i64 bi, .int .i64 bf] 25) := ⟨_, rfl⟩
  rw [← hw1] at HX HY HB ⊢
  have HXk := Lib.hid (fun W (hW : Below w1.heap.size w1 W) => bx5 (RG.BxN.kept HX.out hW))
  have HYk := Lib.hid (fun W (hW : Below w1.heap.size w1 W) => bx5 (RG.BxN.kept HY.out hW))
  clear hw1 p0 p1 p2 p3 p4 q0' q1' q2' q3' q4' HX HY
  go_loopw [16] (fun i wr => ∃ j : Nat, i = .int .i64 j ∧ j ≤ n ∧ (∀ i, i < j → ap.getD i t0 = bp.getD i t0) ∧ Below w1.heap.size w1 wr) (fun i _ => n - (intOf i).toNat)
  case atStart => exact ⟨0, rfl, Nat.zero_le _, (fun i hi => absurd hi (Nat.not_lt_zero i)), Below.refl _ _⟩
  case round =>
    obtain ⟨j, rfl, hj, hall, hbel⟩ := hrel
    have HAl := Lib.hid hall
    have HBl := Lib.hid hbel
    clear hall hbel
    by_cases hjn : j < n
    · obtain ⟨b1, q1, A1, c1, C1, d1, hix1, hc1, _⟩ := HS.out.at j (by rw [← HN.out]; exact hjn)
      obtain ⟨b2, q2, A2, c2, C2, d2, hix2, hc2, _⟩ := HT.out.at j (by rw [← HRr.out]; exact hjn)
      obtain ⟨hcell1, hA1, hC1⟩ := hc1 wr (bt HB.out HBl.out)
      obtain ⟨hcell2, hA2, hC2⟩ := hc2 wr (bt HB.out HBl.out)
      have hi1 := fun W => hix1 W n c hjn
      have hi2 := fun W => hix2 W n d hjn
      obtain ⟨x, hx⟩ : ∃ x, x = ap.getD j t0 := ⟨_, rfl⟩
      obtain ⟨y, hy⟩ : ∃ y, y = bp.getD j t0 := ⟨_, rfl⟩
      rw [← hx] at hcell1 hA1 hC1
      rw [← hy] at hcell2 hA2 hC2
      have hsucc : x = y → ∀ i, i < j + 1 → ap.getD i t0 = bp.getD i t0 := fun h i hi => by
        by_cases e : i = j
        · rw [e, ← hx, ← hy]
          exact h
        · exact HAl.out i (by omega)
      have hfail : x ≠ y → ap ≠ bp := fun h e => h (by rw [hx, hy, e])
      have hss := fun W (h : Below wr.heap.size wr W) => sameStep_any x y A1 c1 C1 d1 A2 c2 C2 d2 W (hA1.kept h) (hC1.kept h) (hA2.kept h) (hC2.kept h)
      obtain ⟨zs, gs⟩ : ∃ z, decide (x = y) = z := ⟨_, rfl⟩
      simp only [gs] at hss
      have hyes : zs = true → x = y := fun h => by rw [← gs, decide_eq_true_iff] at h; exact h
      have hno : zs = false → x ≠ y := fun h => by rw [← gs, decide_eq_false_iff_not] at h; exact h
      unfold agSt at hss
      unfold CellSt at hcell1 hcell2
      obtain ⟨xs, xf, xlo, xhi, xg, xt, xh⟩ := x
      obtain ⟨ys, yf, ylo, yhi, yg, yt, yh⟩ := y
      simp only at hcell1 hcell2 hss
      obtain ⟨n1, hn1⟩ : ∃ n, n = xf.length := ⟨_, rfl⟩
      obtain ⟨n2, hn2⟩ : ∃ n, n = yf.length := ⟨_, rfl⟩
      obtain ⟨n3, hn3⟩ : ∃ n, n = xh.length := ⟨_, rfl⟩
      obtain ⟨n4, hn4⟩ : ∃ n, n = yh.length := ⟨_, rfl⟩
      simp only [← hn1, ← hn2, ← hn3, ← hn4] at hcell1 hcell2 hss
      obtain ⟨x0, x1, x2, x3, x4, x5, x6⟩ := hcell1
      obtain ⟨y0, y1, y2, y3, y4, y5, y6⟩ := hcell2
      have HSs := Lib.hid hss
      have HYes := Lib.hid hyes
      have HNo := Lib.hid hno
      have HSu := Lib.hid hsucc
      have HFl := Lib.hid hfail
      obtain ⟨p0, _⟩ := HXk.out wr HBl.out
      obtain ⟨q0', _⟩ := HYk.out wr HBl.out
      clear hc1 hc2 hix1 hix2 hA1 hA2 hC1 hC2 hss hsucc hfail hx hy hn1 hn2 hn3 hn4 gs hyes hno
      go_wp2_with fail
      refine Reg.G_start (by kernel_rfl) (by repeat (first | with_reducible exact Reg.frameless_bodyPost | with_reducible refine Reg.frameless_then ?_ | with_reducible refine Reg.frameless_inBlock ?_ | refine Reg.frameless_then ?_ | refine Reg.frameless_inBlock ?_)) (fun W hW => ?_)
      have k0 := Reg.later_cell hW p0
      have k1 := Reg.later_cell hW q0'
      have l0 := Reg.later_cell hW x0
      have l1 := Reg.later_cell hW x1
      have l2 := Reg.later_cell hW x2
      have l3 := Reg.later_cell hW x3
      have l4 := Reg.later_cell hW x4
      have l5 := Reg.later_cell hW x5
      have l6 := Reg.later_cell hW x6
      have m0 := Reg.later_cell hW y0
      have m1 := Reg.later_cell hW y1
      have m2 := Reg.later_cell hW y2
      have m3 := Reg.later_cell hW y3
      have m4 := Reg.later_cell hW y4
      have m5 := Reg.later_cell hW y5
      have m6 := Reg.later_cell hW y6
      clear p0 q0' x0 x1 x2 x3 x4 x5 x6 y0 y1 y2 y3 y4 y5 y6
      first | (refine Reg.G_step (i := 0) rfl (by kernel_rfl) (by rfl) (fun K hK => ?_); go_big_quiet_op; refine hK _ ?_; clear hK K) | (refine Reg.G_skip (i := 0) rfl (by kernel_rfl) (by rfl) ?_; simp only [Act.put, List.setIfInBounds_toArray, List.set_cons_zero, List.set_cons_succ])
      first | (refine Reg.G_step (i := 1) rfl (by kernel_rfl) (by rfl) (fun K hK => ?_); go_big_quiet_op; refine hK _ ?_; clear hK K) | (refine Reg.G_skip (i := 1) rfl (by kernel_rfl) (by rfl) ?_; simp only [Act.put, List.setIfInBounds_toArray, List.set_cons_zero, List.set_cons_succ])
      first | (refine Reg.G_step (i := 2) rfl (by kernel_rfl) (by rfl) (fun K hK => ?_); go_big_quiet_op; refine hK _ ?_; clear hK K) | (refine Reg.G_skip (i := 2) rfl (by kernel_rfl) (by rfl) ?_; simp only [Act.put, List.setIfInBounds_toArray, List.set_cons_zero, List.set_cons_succ])
      first | (refine Reg.G_step (i := 3) rfl (by kernel_rfl) (by rfl) (fun K hK => ?_); go_big_quiet_op; refine hK _ ?_; clear hK K) | (refine Reg.G_skip (i := 3) rfl (by kernel_rfl) (by rfl) ?_; simp only [Act.put, List.setIfInBounds_toArray, List.set_cons_zero, List.set_cons_succ])
      first | (refine Reg.G_step (i := 4) rfl (by kernel_rfl) (by rfl) (fun K hK => ?_); go_big_quiet_op; refine hK _ ?_; clear hK K) | (refine Reg.G_skip (i := 4) rfl (by kernel_rfl) (by rfl) ?_; simp only [Act.put, List.setIfInBounds_toArray, List.set_cons_zero, List.set_cons_succ])
      first | (refine Reg.G_step (i := 5) rfl (by kernel_rfl) (by rfl) (fun K hK => ?_); go_big_quiet_op; refine hK _ ?_; clear hK K) | (refine Reg.G_skip (i := 5) rfl (by kernel_rfl) (by rfl) ?_; simp only [Act.put, List.setIfInBounds_toArray, List.set_cons_zero, List.set_cons_succ])
      first | (refine Reg.G_step (i := 6) rfl (by kernel_rfl) (by rfl) (fun K hK => ?_); go_big_quiet_op; refine hK _ ?_; clear hK K) | (refine Reg.G_skip (i := 6) rfl (by kernel_rfl) (by rfl) ?_; simp only [Act.put, List.setIfInBounds_toArray, List.set_cons_zero, List.set_cons_succ])
      first | (refine Reg.G_step (i := 7) rfl (by kernel_rfl) (by rfl) (fun K hK => ?_); go_big_quiet_op; refine hK _ ?_; clear hK K) | (refine Reg.G_skip (i := 7) rfl (by kernel_rfl) (by rfl) ?_; simp only [Act.put, List.setIfInBounds_toArray, List.set_cons_zero, List.set_cons_succ])
      first | (refine Reg.G_step (i := 8) rfl (by kernel_rfl) (by rfl) (fun K hK => ?_); go_big_quiet_op; refine hK _ ?_; clear hK K) | (refine Reg.G_skip (i := 8) rfl (by kernel_rfl) (by rfl) ?_; simp only [Act.put, List.setIfInBounds_toArray, List.set_cons_zero, List.set_cons_succ])
      first | (refine Reg.G_step (i := 9) rfl (by kernel_rfl) (by rfl) (fun K hK => ?_); go_big_quiet_op; refine hK _ ?_; clear hK K) | (refine Reg.G_skip (i := 9) rfl (by kernel_rfl) (by rfl) ?_; simp only [Act.put, List.setIfInBounds_toArray, List.set_cons_zero, List.set_cons_succ])
      refine Reg.G_event (i := 10) rfl (by kernel_rfl) (by rfl) (fun K hK => ?_)
      go_simp
      refine (HSs.out W hW).mono ?_
      rintro e v0 ⟨rfl, hv0⟩
      refine hK _ _ hv0 ?_
      clear hK K k0 k1 l0 l1 l2 l3 l4 l5 l6 m0 m1 m2 m3 m4 m5 m6
      have HV := Lib.hid (bt hW hv0)
      clear hv0
      first | (refine Reg.G_step (i := 11) rfl (by kernel_rfl) (by rfl) (fun K hK => ?_); go_big_quiet_op; refine hK _ ?_; clear hK K) | (refine Reg.G_skip (i := 11) rfl (by kernel_rfl) (by rfl) ?_; simp only [Act.put, List.setIfInBounds_toArray, List.set_cons_zero, List.set_cons_succ])
      refine Reg.G_done rfl ?_
      cases zs
      · have HRf := Lib.hid (HFa.out (HFl.out (HNo.out rfl)))
        go_wp2_with fail
        go_ret
        exact ⟨ret_v (x := .bool false) (by rw [HRf.out]), bt HB.out (bt HBl.out HV.out)⟩
      · have HSc := Lib.hid (HSu.out (HYes.out rfl))
        clear HSu HFl
        go_wp2_with fail
        go_roundw
        case rel => exact ⟨j + 1, by go_num, by omega, HSc.out, bt HBl.out HV.out⟩
        case measure => simp [intOf]; omega
    · obtain rfl : j = n := by omega
      have HRt := Lib.hid (show R = z from by
        have h1 : ap = bp := HQ2.out.2 HAl.out
        cases z
        · cases R
          · rfl
          · exact absurd (HR.out.1 rfl).2 (by decide)
        · exact HR.out.2 ⟨h1, rfl⟩)
      obtain ⟨p0, p1, p2, p3, p4⟩ := HXk.out wr HBl.out
      obtain ⟨q0', q1', q2', q3', q4'⟩ := HYk.out wr HBl.out
      go_wp2_with fail
      refine Reg.G_start (by kernel_rfl) (by repeat (first | with_reducible exact Reg.frameless_bodyPost | with_reducible refine Reg.frameless_then ?_ | with_reducible refine Reg.frameless_inBlock ?_ | refine Reg.frameless_then ?_ | refine Reg.frameless_inBlock ?_)) (fun W hW => ?_)
      have k0 := Reg.later_cell hW p0
      have k1 := Reg.later_cell hW p1
      have k2 := Reg.later_cell hW p2
      have k3 := Reg.later_cell hW p3
      have k4 := Reg.later_cell hW p4
      have l0 := Reg.later_cell hW q0'
      have l1 := Reg.later_cell hW q1'
      have l2 := Reg.later_cell hW q2'
      have l3 := Reg.later_cell hW q3'
      have l4 := Reg.later_cell hW q4'
      clear p0 p1 p2 p3 p4 q0' q1' q2' q3' q4'
      first | (refine Reg.G_step (i := 0) rfl (by kernel_rfl) (by rfl) (fun K hK => ?_); go_big_quiet_op; refine hK _ ?_; clear hK K) | (refine Reg.G_skip (i := 0) rfl (by kernel_rfl) (by rfl) ?_; simp only [Act.put, List.setIfInBounds_toArray, List.set_cons_zero, List.set_cons_succ])
      first | (refine Reg.G_step (i := 2) rfl (by kernel_rfl) (by rfl) (fun K hK => ?_); go_big_quiet_op; refine hK _ ?_; clear hK K) | (refine Reg.G_skip (i := 2) rfl (by kernel_rfl) (by rfl) ?_; simp only [Act.put, List.setIfInBounds_toArray, List.set_cons_zero, List.set_cons_succ])
      refine Reg.G_event (i := 1) rfl (by kernel_rfl) (by rfl) (fun K hK => ?_)
      go_simp
      refine (HBa.out W).mono ?_
      rintro e v0 ⟨rfl, hv0⟩
      refine hK _ _ hv0 ?_
      clear hK K
      have HV0 := Lib.hid hv0
      obtain ⟨r0, r1, r2, r3, r4⟩ := HYk.out v0 (bt HBl.out (bt hW hv0))
      have n0 := Reg.later_cell (Below.refl _ _) r0
      have n1 := Reg.later_cell (Below.refl _ _) r1
      have n2 := Reg.later_cell (Below.refl _ _) r2
      have n3 := Reg.later_cell (Below.refl _ _) r3
      have n4 := Reg.later_cell (Below.refl _ _) r4
      clear hv0 k0 k1 k2 k3 k4 l0 l1 l2 l3 l4 r0 r1 r2 r3 r4
      refine Reg.G_event (i := 3) rfl (by kernel_rfl) (by rfl) (fun K hK => ?_)
      go_simp
      refine (HBb.out v0).mono ?_
      rintro e v1 ⟨rfl, hv1⟩
      refine hK _ _ hv1 ?_
      clear hK K
      have HV1 := Lib.hid (bt hW (bt HV0.out hv1))
      have hq := fun x : Reg.Later v1 => HEq.out x.world
      clear hv1 n0 n1 n2 n3 n4
      first | (refine Reg.G_step (i := 4) rfl (by kernel_rfl) (by rfl) (fun K hK => ?_); go_big_quiet_op; refine hK _ ?_; clear hK K) | (refine Reg.G_skip (i := 4) rfl (by kernel_rfl) (by rfl) ?_; simp only [Act.put, List.setIfInBounds_toArray, List.set_cons_zero, List.set_cons_succ])
      first | (refine Reg.G_step (i := 5) rfl (by kernel_rfl) (by rfl) (fun K hK => ?_); go_big_quiet_op; refine hK _ ?_; clear hK K) | (refine Reg.G_skip (i := 5) rfl (by kernel_rfl) (by rfl) ?_; simp only [Act.put, List.setIfInBounds_toArray, List.set_cons_zero, List.set_cons_succ])
      refine Reg.G_done rfl ?_
      go_wp2_with fail
      go_ret
      exact ⟨ret_v (x := .bool z) (by rw [HRt.out]), bt HB.out (bt HBl.out HV1.out)⟩
end Go.Proofs.YtbmdkibmfkmjoaaGreat.Qy

namespace Go.Proofs.YtbmdkibmfkmjoaaGreat.Qy
open Go.RowKit Go.Proofs.YtbmdkibmfkmjoaaGreat.BM Go.Proofs.YtbmdkibmfkmjoaaGreat.LM Go.Proofs.YtbmdkibmfkmjoaaGreat.LeM Go.Proofs.YtbmdkibmfkmjoaaGreat.VaM Go.Proofs.YtbmdkibmfkmjoaaGreat.ExM Go.Proofs.YtbmdkibmfkmjoaaGreat.QyM
open Go.Proofs.YtbmdkibmfkmjoaaGreat.Ex (SlO slO_none)
open Go.Proofs.YtbmdkibmfkmjoaaGreat.Va (ret_v bx_new_t)
open Go.Proofs.YtbmdkibmfkmjoaaGreat.Sc (SlS slS_none SlF slF_none)

/-- The example's schemas, as a slice of one. -/
theorem slS_one (w : World) : SlS (w.alloc (.cells #[.string ⟨#[97]⟩, .int .i64 1, .slice none 0 0] 40)) (some ⟨w.heap.size, 0, none⟩) exL 1 := by
  have hrel : Sc.KS.rel (fun _ => True) w (⟨⟨#[97]⟩, 1, []⟩ : ScM.Sc) [.string ⟨#[97]⟩, .int .i64 1, .slice none 0 0] := ⟨none, 0, rfl, slF_none _, ⟨by unfold maxLen; decide, by decide, by decide⟩, fun h => absurd h (by decide)⟩
  have h := RG.elem_new w 40 _ _ hrel
  exact ⟨⟨_, h.1, h.2⟩, Nat.le_refl _, (fun e => by cases e), by unfold maxLen; decide⟩

set_option maxRecDepth 100000 in
set_option maxHeartbeats 8000000 in
theorem awake_any (w : World) : Calls Tryz.prog 6 #[] w fun e w' => e = .returned (.bool true) ∧ Below w.heap.size w w' := by
  have hone := One_any
  have hput := fun W A (h : SlSt W A exQ.p 1) => Put_any exQ A 1 W h ex_rng
  have hget := fun W A c (h : SlB W A (QyM.pv exQ) c) => Get_any A (QyM.pv exQ) c W h
  have hsame := fun W A c B (h : SlSt W A exQ.p c) (k : SlSt W B exQ.p 1) => Same_any exQ exQ A c B 1 W h k
  have hcheck := fun W A B d (h : SlS W A exL 1) (k : SlSt W B exQ.p d) => Check_any exL exQ A 1 B d W h k
  have hnone := fun W B d (k : SlSt W B exQ.p d) => Check_any [] exQ none 0 B d W (slS_none W) k
  unfold Putted at hput
  unfold GotsQ at hget
  simp only [ex_got] at hget
  simp only [decide_eq_true ex_may, ex_pv] at hput
  rw [ex_pv] at hget
  simp only [ex_check] at hcheck
  simp only [ex_none] at hnone
  rw [decide_eq_true (rfl : exQ = exQ)] at hsame
  have hl : exQ.p.length = 1 := rfl
  have hll : exL.length = 1 := rfl
  have e1 : exQ.w = 0 := rfl
  have e2 : exQ.a = 0 := rfl
  have e3 : exQ.i = 0 := rfl
  have e4 : exQ.f = 0 := rfl
  unfold agQ at hput hget hsame hcheck hnone
  simp only [hl, e1, e2, e3, e4, hll, List.length_cons, List.length_nil, Nat.zero_add, Nat.reduceAdd] at hput hget hsame hcheck hnone
  have HOne := Lib.hid hone
  have HPu := Lib.hid hput
  have HGe := Lib.hid hget
  have HSa := Lib.hid hsame
  have HCk := Lib.hid hcheck
  have HNo := Lib.hid hnone
  clear hone hput hget hsame hcheck hnone hl hll e1 e2 e3 e4
  go_enter Tryz.func6, Tryz.ntmps6
  go_wp2_with fail
  refine (HOne.out w).mono ?_
  rintro e w1 ⟨A1, rfl, hs1, hb1⟩
  have HB1 := Lib.hid hb1
  have HP1 := Lib.hid (HPu.out w1 A1 hs1)
  clear hs1 hb1 HPu
  go_wp2_with fail
  refine HP1.out.mono ?_
  rintro e w2 ⟨A2, c2, rfl, hs2, hb2⟩
  have HB2 := Lib.hid (bt HB1.out hb2)
  have HS2 := Lib.hid hs2
  have HG2 := Lib.hid (HGe.out w2 A2 c2 hs2)
  clear hs2 hb2 HP1 HB1 HGe
  go_wp2_with fail
  refine HG2.out.mono ?_
  rintro e w3 ⟨A3, c3, rfl, hs3, hb3⟩
  have ha4 := (Below.refl w3.heap.size w3).alloc (Nat.le_refl _) (.cells #[.slice A3 1 c3, .int .i64 0, .int .i64 0, .int .i64 0, .int .i64 0] 25)
  have hx4 := RG.bxN_new w3 25 [.slice A3 1 c3, .int .i64 0, .int .i64 0, .int .i64 0, .int .i64 0]
  obtain ⟨w4, hw4⟩ : ∃ w4, w4 = w3.alloc (.cells #[.slice A3 1 c3, .int .i64 0, .int .i64 0, .int .i64 0, .int .i64 0] 25) := ⟨_, rfl⟩
  have hz4 : w4.heap.size = w3.heap.size + 1 := by rw [hw4]; simp
  rw [show (List.toArray [Value.slice A3 1 c3, .int .i64 0, .int .i64 0, .int .i64 0, .int .i64 0]) = #[Value.slice A3 1 c3, .int .i64 0, .int .i64 0, .int .i64 0, .int .i64 0] from rfl, ← hw4] at hx4
  rw [← hw4] at ha4
  have ha5 := (Below.refl w4.heap.size w4).alloc (Nat.le_refl _) (.cells #[.string ⟨#[97]⟩, .int .i64 1, .slice none 0 0] 40)
  have hs5 := slS_one w4
  rw [hz4] at hs5
  have hb34 := bt hb3 (bt ha4 ha5)
  have HX5 := Lib.hid (RG.BxN.kept hx4 ha5)
  have HL5 := Lib.hid hs5
  have HB5 := Lib.hid (bt HB2.out hb34)
  have HS5 := Lib.hid (HS2.out.kept hb34)
  have HQ5 := Lib.hid (hs3.kept (bt ha4 ha5))
  have HW4 := Lib.hid hw4
  clear hs3 hb3 ha4 hx4 hw4 hz4 ha5 hs5 hb34 HG2 HB2 HS2
  go_wp2_with fail
  rw [← HW4.out]
  obtain ⟨w5, hw5⟩ : ∃ w5, w5 = w4.alloc (.cells #[.string ⟨#[97]⟩, .int .i64 1, .slice none 0 0] 40) := ⟨_, rfl⟩
  obtain ⟨bq, hbq⟩ : ∃ b, b = w3.heap.size := ⟨_, rfl⟩
  obtain ⟨LA, hLA⟩ : ∃ a, a = (some ⟨bq + 1, 0, none⟩ : Option Addr) := ⟨_, rfl⟩
  rw [← hw5] at HX5 HL5 HB5 HS5 HQ5 ⊢
  rw [← hbq] at HX5 HL5 ⊢
  rw [← hLA] at HL5 ⊢
  clear hw5 hbq hLA HW4
  refine Reg.G_start (by kernel_rfl) (by repeat (first | exact Reg.frameless_bodyPost | refine Reg.frameless_then ?_ | refine Reg.frameless_inBlock ?_)) (fun W hW => ?_)
  obtain ⟨z0, z1, z2, z3, z4⟩ := bx5 (RG.BxN.kept HX5.out hW)
  have x0 := Reg.later_cell (Below.refl _ W) z0
  have x1 := Reg.later_cell (Below.refl _ W) z1
  have x2 := Reg.later_cell (Below.refl _ W) z2
  have x3 := Reg.later_cell (Below.refl _ W) z3
  have x4 := Reg.later_cell (Below.refl _ W) z4
  clear z0 z1 z2 z3 z4
  have hcv : ∀ x : Reg.Later W, (convert 26 9 (.slice A2 11 c2)).run Tryz.prog x.world = .ok (.string ⟨#[1, 1, 97, 0, 1, 1, 0, 0, 0, 0, 0]⟩) x.world := fun x => by
    have h := conv_any (w := x.world) (HS5.out.kept (bt hW x.ext)).1 c2 9 Tryz.underlying9
    exact h
  first | (refine Reg.G_step (i := 0) rfl (by kernel_rfl) (by rfl) (fun K hK => ?_); go_big_quiet_op; refine hK _ ?_; clear hK K) | (refine Reg.G_skip (i := 0) rfl (by kernel_rfl) (by rfl) ?_; simp only [Act.put, List.setIfInBounds_toArray, List.set_cons_zero, List.set_cons_succ])
  first | (refine Reg.G_step (i := 1) rfl (by kernel_rfl) (by rfl) (fun K hK => ?_); go_big_quiet_op; refine hK _ ?_; clear hK K) | (refine Reg.G_skip (i := 1) rfl (by kernel_rfl) (by rfl) ?_; simp only [Act.put, List.setIfInBounds_toArray, List.set_cons_zero, List.set_cons_succ])
  first | (refine Reg.G_step (i := 2) rfl (by kernel_rfl) (by rfl) (fun K hK => ?_); go_big_quiet_op; refine hK _ ?_; clear hK K) | (refine Reg.G_skip (i := 2) rfl (by kernel_rfl) (by rfl) ?_; simp only [Act.put, List.setIfInBounds_toArray, List.set_cons_zero, List.set_cons_succ])
  first | (refine Reg.G_step (i := 3) rfl (by kernel_rfl) (by rfl) (fun K hK => ?_); go_big_quiet_op; refine hK _ ?_; clear hK K) | (refine Reg.G_skip (i := 3) rfl (by kernel_rfl) (by rfl) ?_; simp only [Act.put, List.setIfInBounds_toArray, List.set_cons_zero, List.set_cons_succ])
  first | (refine Reg.G_step (i := 4) rfl (by kernel_rfl) (by rfl) (fun K hK => ?_); go_big_quiet_op; refine hK _ ?_; clear hK K) | (refine Reg.G_skip (i := 4) rfl (by kernel_rfl) (by rfl) ?_; simp only [Act.put, List.setIfInBounds_toArray, List.set_cons_zero, List.set_cons_succ])
  first | (refine Reg.G_step (i := 5) rfl (by kernel_rfl) (by rfl) (fun K hK => ?_); go_big_quiet_op; refine hK _ ?_; clear hK K) | (refine Reg.G_skip (i := 5) rfl (by kernel_rfl) (by rfl) ?_; simp only [Act.put, List.setIfInBounds_toArray, List.set_cons_zero, List.set_cons_succ])
  first | (refine Reg.G_step (i := 6) rfl (by kernel_rfl) (by rfl) (fun K hK => ?_); go_big_quiet_op; refine hK _ ?_; clear hK K) | (refine Reg.G_skip (i := 6) rfl (by kernel_rfl) (by rfl) ?_; simp only [Act.put, List.setIfInBounds_toArray, List.set_cons_zero, List.set_cons_succ])
  first | (refine Reg.G_step (i := 7) rfl (by kernel_rfl) (by rfl) (fun K hK => ?_); go_big_quiet_op; refine hK _ ?_; clear hK K) | (refine Reg.G_skip (i := 7) rfl (by kernel_rfl) (by rfl) ?_; simp only [Act.put, List.setIfInBounds_toArray, List.set_cons_zero, List.set_cons_succ])
  first | (refine Reg.G_step (i := 8) rfl (by kernel_rfl) (by rfl) (fun K hK => ?_); go_big_quiet_op; refine hK _ ?_; clear hK K) | (refine Reg.G_skip (i := 8) rfl (by kernel_rfl) (by rfl) ?_; simp only [Act.put, List.setIfInBounds_toArray, List.set_cons_zero, List.set_cons_succ])
  first | (refine Reg.G_step (i := 9) rfl (by kernel_rfl) (by rfl) (fun K hK => ?_); go_big_quiet_op; refine hK _ ?_; clear hK K) | (refine Reg.G_skip (i := 9) rfl (by kernel_rfl) (by rfl) ?_; simp only [Act.put, List.setIfInBounds_toArray, List.set_cons_zero, List.set_cons_succ])
  first | (refine Reg.G_step (i := 10) rfl (by kernel_rfl) (by rfl) (fun K hK => ?_); go_big_quiet_op; refine hK _ ?_; clear hK K) | (refine Reg.G_skip (i := 10) rfl (by kernel_rfl) (by rfl) ?_; simp only [Act.put, List.setIfInBounds_toArray, List.set_cons_zero, List.set_cons_succ])
  first | (refine Reg.G_step (i := 11) rfl (by kernel_rfl) (by rfl) (fun K hK => ?_); go_big_quiet_op; refine hK _ ?_; clear hK K) | (refine Reg.G_skip (i := 11) rfl (by kernel_rfl) (by rfl) ?_; simp only [Act.put, List.setIfInBounds_toArray, List.set_cons_zero, List.set_cons_succ])
  first | (refine Reg.G_step (i := 12) rfl (by kernel_rfl) (by rfl) (fun K hK => ?_); go_big_quiet_op; refine hK _ ?_; clear hK K) | (refine Reg.G_skip (i := 12) rfl (by kernel_rfl) (by rfl) ?_; simp only [Act.put, List.setIfInBounds_toArray, List.set_cons_zero, List.set_cons_succ])
  first | (refine Reg.G_step (i := 13) rfl (by kernel_rfl) (by rfl) (fun K hK => ?_); go_big_quiet_op; refine hK _ ?_; clear hK K) | (refine Reg.G_skip (i := 13) rfl (by kernel_rfl) (by rfl) ?_; simp only [Act.put, List.setIfInBounds_toArray, List.set_cons_zero, List.set_cons_succ])
  first | (refine Reg.G_step (i := 14) rfl (by kernel_rfl) (by rfl) (fun K hK => ?_); go_big_quiet_op; refine hK _ ?_; clear hK K) | (refine Reg.G_skip (i := 14) rfl (by kernel_rfl) (by rfl) ?_; simp only [Act.put, List.setIfInBounds_toArray, List.set_cons_zero, List.set_cons_succ])
  refine Reg.G_event (i := 15) rfl (by kernel_rfl) (by rfl) (fun K hK => ?_)
  go_simp
  refine (HOne.out _).mono ?_
  rintro e v0 ⟨B0, rfl, hB0, hv0⟩
  refine hK _ _ hv0 ?_
  clear hK K x0 x1 x2 x3 x4 hcv
  have hw0 := bt hW hv0
  obtain ⟨z0, z1, z2, z3, z4⟩ := bx5 (RG.BxN.kept HX5.out hw0)
  have x0 := Reg.later_cell (Below.refl _ v0) z0
  have x1 := Reg.later_cell (Below.refl _ v0) z1
  have x2 := Reg.later_cell (Below.refl _ v0) z2
  have x3 := Reg.later_cell (Below.refl _ v0) z3
  have x4 := Reg.later_cell (Below.refl _ v0) z4
  clear z0 z1 z2 z3 z4
  refine Reg.G_event (i := 16) rfl (by kernel_rfl) (by rfl) (fun K hK => ?_)
  go_simp
  refine (HSa.out _ A3 c3 B0 (HQ5.out.kept hw0) hB0).mono ?_
  rintro e v1 ⟨rfl, hv1⟩
  refine hK _ _ hv1 ?_
  clear hK K x0 x1 x2 x3 x4
  have hw1 := bt hw0 hv1
  obtain ⟨z0, z1, z2, z3, z4⟩ := bx5 (RG.BxN.kept HX5.out hw1)
  have x0 := Reg.later_cell (Below.refl _ v1) z0
  have x1 := Reg.later_cell (Below.refl _ v1) z1
  have x2 := Reg.later_cell (Below.refl _ v1) z2
  have x3 := Reg.later_cell (Below.refl _ v1) z3
  have x4 := Reg.later_cell (Below.refl _ v1) z4
  clear z0 z1 z2 z3 z4
  first | (refine Reg.G_step (i := 17) rfl (by kernel_rfl) (by rfl) (fun K hK => ?_); go_big_quiet_op; refine hK _ ?_; clear hK K) | (refine Reg.G_skip (i := 17) rfl (by kernel_rfl) (by rfl) ?_; simp only [Act.put, List.setIfInBounds_toArray, List.set_cons_zero, List.set_cons_succ])
  first | (refine Reg.G_step (i := 18) rfl (by kernel_rfl) (by rfl) (fun K hK => ?_); go_big_quiet_op; refine hK _ ?_; clear hK K) | (refine Reg.G_skip (i := 18) rfl (by kernel_rfl) (by rfl) ?_; simp only [Act.put, List.setIfInBounds_toArray, List.set_cons_zero, List.set_cons_succ])
  first | (refine Reg.G_step (i := 19) rfl (by kernel_rfl) (by rfl) (fun K hK => ?_); go_big_quiet_op; refine hK _ ?_; clear hK K) | (refine Reg.G_skip (i := 19) rfl (by kernel_rfl) (by rfl) ?_; simp only [Act.put, List.setIfInBounds_toArray, List.set_cons_zero, List.set_cons_succ])
  first | (refine Reg.G_step (i := 20) rfl (by kernel_rfl) (by rfl) (fun K hK => ?_); go_big_quiet_op; refine hK _ ?_; clear hK K) | (refine Reg.G_skip (i := 20) rfl (by kernel_rfl) (by rfl) ?_; simp only [Act.put, List.setIfInBounds_toArray, List.set_cons_zero, List.set_cons_succ])
  refine Reg.G_event (i := 21) rfl (by kernel_rfl) (by rfl) (fun K hK => ?_)
  go_simp
  refine (HCk.out _ LA A3 c3 (HL5.out.kept hw1) (HQ5.out.kept hw1)).mono ?_
  rintro e v2 ⟨rfl, hv2⟩
  refine hK _ _ hv2 ?_
  clear hK K x0 x1 x2 x3 x4
  have hw2 := bt hw1 hv2
  obtain ⟨z0, z1, z2, z3, z4⟩ := bx5 (RG.BxN.kept HX5.out hw2)
  have x0 := Reg.later_cell (Below.refl _ v2) z0
  have x1 := Reg.later_cell (Below.refl _ v2) z1
  have x2 := Reg.later_cell (Below.refl _ v2) z2
  have x3 := Reg.later_cell (Below.refl _ v2) z3
  have x4 := Reg.later_cell (Below.refl _ v2) z4
  clear z0 z1 z2 z3 z4
  first | (refine Reg.G_step (i := 22) rfl (by kernel_rfl) (by rfl) (fun K hK => ?_); go_big_quiet_op; refine hK _ ?_; clear hK K) | (refine Reg.G_skip (i := 22) rfl (by kernel_rfl) (by rfl) ?_; simp only [Act.put, List.setIfInBounds_toArray, List.set_cons_zero, List.set_cons_succ])
  first | (refine Reg.G_step (i := 23) rfl (by kernel_rfl) (by rfl) (fun K hK => ?_); go_big_quiet_op; refine hK _ ?_; clear hK K) | (refine Reg.G_skip (i := 23) rfl (by kernel_rfl) (by rfl) ?_; simp only [Act.put, List.setIfInBounds_toArray, List.set_cons_zero, List.set_cons_succ])
  first | (refine Reg.G_step (i := 24) rfl (by kernel_rfl) (by rfl) (fun K hK => ?_); go_big_quiet_op; refine hK _ ?_; clear hK K) | (refine Reg.G_skip (i := 24) rfl (by kernel_rfl) (by rfl) ?_; simp only [Act.put, List.setIfInBounds_toArray, List.set_cons_zero, List.set_cons_succ])
  first | (refine Reg.G_step (i := 25) rfl (by kernel_rfl) (by rfl) (fun K hK => ?_); go_big_quiet_op; refine hK _ ?_; clear hK K) | (refine Reg.G_skip (i := 25) rfl (by kernel_rfl) (by rfl) ?_; simp only [Act.put, List.setIfInBounds_toArray, List.set_cons_zero, List.set_cons_succ])
  refine Reg.G_event (i := 26) rfl (by kernel_rfl) (by rfl) (fun K hK => ?_)
  go_simp
  refine (HNo.out _ A3 c3 (HQ5.out.kept hw2)).mono ?_
  rintro e v3 ⟨rfl, hv3⟩
  refine hK _ _ hv3 ?_
  clear hK K x0 x1 x2 x3 x4
  have hw3 := bt hw2 hv3
  first | (refine Reg.G_step (i := 27) rfl (by kernel_rfl) (by rfl) (fun K hK => ?_); go_big_quiet_op; refine hK _ ?_; clear hK K) | (refine Reg.G_skip (i := 27) rfl (by kernel_rfl) (by rfl) ?_; simp only [Act.put, List.setIfInBounds_toArray, List.set_cons_zero, List.set_cons_succ])
  first | (refine Reg.G_step (i := 28) rfl (by kernel_rfl) (by rfl) (fun K hK => ?_); go_big_quiet_op; refine hK _ ?_; clear hK K) | (refine Reg.G_skip (i := 28) rfl (by kernel_rfl) (by rfl) ?_; simp only [Act.put, List.setIfInBounds_toArray, List.set_cons_zero, List.set_cons_succ])
  first | (refine Reg.G_step (i := 29) rfl (by kernel_rfl) (by rfl) (fun K hK => ?_); go_big_quiet_op; refine hK _ ?_; clear hK K) | (refine Reg.G_skip (i := 29) rfl (by kernel_rfl) (by rfl) ?_; simp only [Act.put, List.setIfInBounds_toArray, List.set_cons_zero, List.set_cons_succ])
  refine Reg.G_done (by kernel_rfl) ?_
  have HB9 := Lib.hid (bt HB5.out hw3)
  clear hw0 hw1 hw2 hw3 hv0 hv1 hv2 hv3 hW
  go_wp2_with fail
  go_ret
  exact ⟨ret_v (x := .bool true) rfl, HB9.out⟩
end Go.Proofs.YtbmdkibmfkmjoaaGreat.Qy

namespace Go.Proofs.YtbmdkibmfkmjoaaGreat.Ex
open Go.RowKit Go.Proofs.YtbmdkibmfkmjoaaGreat.BM Go.Proofs.YtbmdkibmfkmjoaaGreat.VaM Go.Proofs.YtbmdkibmfkmjoaaGreat.Va Go.Proofs.YtbmdkibmfkmjoaaGreat.ExM Go.Proofs.YtbmdkibmfkmjoaaGreat.EvM

/-- An expression of few parts, of few bytes. -/
def Few (l : List O) : Prop := l.length ≤ 20 ∧ ∀ i, i < l.length → (l.getD i o0).v.s.size ≤ 100
instance (l : List O) : Decidable (Few l) := by unfold Few; infer_instance

set_option maxRecDepth 100000 in
set_option maxHeartbeats 1000000 in
theorem Few_any (l : List O) (A : Option Addr) (c : Nat) (w : World) (hS : SlO w A l c) :
    Calls Tryz.prog 21 #[.slice A l.length c] w fun e w' => e = .returned (.bool (decide (Few l))) ∧ Below w.heap.size w w' := by
  have hl := slO_len hS
  have hfew : Few l ↔ l.length ≤ 20 ∧ ∀ i, i < l.length → (l.getD i o0).v.s.size ≤ 100 := Iff.rfl
  obtain ⟨n, hn⟩ : ∃ n, n = l.length := ⟨_, rfl⟩
  rw [← hn] at hl hfew ⊢
  have HLen := Lib.hid hn
  have HS := Lib.hid hS
  have HFew := Lib.hid hfew
  clear hn hS hfew
  by_cases m1 : n ≤ 20
  · have hd1 : decide ((20 : Int) < (n : Int)) = false := by rw [decide_eq_false_iff_not]; omega
    have HF := Lib.hid (show Few l ↔ ∀ i, i < n → (l.getD i o0).v.s.size ≤ 100 from ⟨fun h => (HFew.out.1 h).2, fun h => HFew.out.2 ⟨m1, h⟩⟩)
    clear m1 HFew
    go_enter Tryz.func21, Tryz.ntmps21
    go_wp2_with fail
    go_loopw [3] (fun i wr => ∃ j : Nat, i = .int .i64 j ∧ j ≤ n ∧ (∀ r, r < j → (l.getD r o0).v.s.size ≤ 100) ∧ wr = w) (fun i _ => n - (intOf i).toNat)
    case atStart => exact ⟨0, rfl, Nat.zero_le _, fun r hr => absurd hr (Nat.not_lt_zero r), rfl⟩
    case round =>
      obtain ⟨j, rfl, hj, hall, rfl⟩ := hrel
      have HAl := Lib.hid hall
      clear hall
      by_cases hjn : j < n
      · obtain ⟨b, q, hix, hc, hfz⟩ := HS.out.at j (by rw [← HLen.out]; exact hjn)
        obtain ⟨⟨fc, fa, fk, fn, fs⟩, hf⟩ : ∃ f, f = l.getD j o0 := ⟨_, rfl⟩
        rw [← hf] at hc hfz
        obtain ⟨_, _, _, _, c0⟩ := hc wr (Below.refl _ _)
        have hsz := hfz.1
        simp only at c0 hsz
        unfold maxLen at hsz
        have hi := fun W => hix W n c hjn
        have HFl := Lib.hid hf
        clear hc hix hf hfz
        by_cases h60 : fs.size ≤ 100
        · have hd3 : decide ((100 : Int) < (fs.size : Int)) = false := by rw [decide_eq_false_iff_not]; omega
          have HY := Lib.hid h60
          clear h60
          go_wp2_with fail
          go_roundw
          case rel =>
            refine ⟨j + 1, by go_num, by omega, fun r hr => ?_, by trivial⟩
            by_cases e : r = j
            · rw [e, ← HFl.out]
              exact HY.out
            · exact HAl.out r (by omega)
          case measure => simp [intOf]; omega
        · have hd3 : decide ((100 : Int) < (fs.size : Int)) = true := by rw [decide_eq_true_iff]; omega
          have HNo := Lib.hid (show ¬ Few l from fun h => h60 (by have := HF.out.1 h j hjn; rw [← HFl.out] at this; exact this))
          clear h60
          go_wp2_with fail
          go_ret
          exact ⟨ret_v (x := .bool false) (by rw [decide_eq_false HNo.out]), Below.refl _ _⟩
      · obtain rfl : j = n := by omega
        have HYes := Lib.hid (HF.out.2 HAl.out)
        go_wp2_with fail
        go_ret
        exact ⟨ret_v (x := .bool true) (by rw [decide_eq_true HYes.out]), Below.refl _ _⟩
  · have hd1 : decide ((20 : Int) < (n : Int)) = true := by rw [decide_eq_true_iff]; omega
    have HNo := Lib.hid (show ¬ Few l from fun h => m1 (HFew.out.1 h).1)
    clear m1
    go_enter Tryz.func21, Tryz.ntmps21
    go_wp2_with fail
    go_ret
    exact ⟨ret_v (x := .bool false) (by rw [decide_eq_false HNo.out]), Below.refl _ _⟩
end Go.Proofs.YtbmdkibmfkmjoaaGreat.Ex

namespace Go.Proofs.YtbmdkibmfkmjoaaGreat.Qy
open Go.RowKit Go.Proofs.YtbmdkibmfkmjoaaGreat.BM Go.Proofs.YtbmdkibmfkmjoaaGreat.LM Go.Proofs.YtbmdkibmfkmjoaaGreat.VaM Go.Proofs.YtbmdkibmfkmjoaaGreat.ExM Go.Proofs.YtbmdkibmfkmjoaaGreat.QyM
open Go.Proofs.YtbmdkibmfkmjoaaGreat.Ex (SlO slO_none slO_len)
open Go.Proofs.YtbmdkibmfkmjoaaGreat.Va (ret_v)

/-- Is a step small? -/
def FewSt (x : St) : Prop := Ex.Few x.f ∧ Ex.Few x.h ∧ x.s.size ≤ 60 ∧ x.t.size ≤ 60
instance (x : St) : Decidable (FewSt x) := by unfold FewSt; infer_instance
/-- A few steps, each a small one. -/
def Few (q : Q) : Prop := q.p.length ≤ 8 ∧ ∀ i, i < q.p.length → FewSt (q.p.getD i t0)
instance (q : Q) : Decidable (Few q) := by unfold Few; infer_instance

set_option maxRecDepth 100000 in
set_option maxHeartbeats 4000000 in
theorem Few_any (q : Q) (A : Option Addr) (c : Nat) (w : World) (hS : SlSt w A q.p c) :
    Calls Tryz.prog 7 #[agQ q A c] w fun e w' => e = .returned (.bool (decide (Few q))) ∧ Below w.heap.size w w' := by
  have hl := slSt_len hS
  have hfew : Few q ↔ q.p.length ≤ 8 ∧ ∀ i, i < q.p.length → FewSt (q.p.getD i t0) := Iff.rfl
  have hX := (bxQ_new w q A c).kept (Below.refl _ _)
  have hb1 := (Below.refl w.heap.size w).alloc (Nat.le_refl _) (.cells #[.slice A q.p.length c, .int .i64 q.w, .int .i64 q.a, .int .i64 q.i, .int .i64 q.f] 25)
  obtain ⟨R, hR⟩ : ∃ R, R = decide (Few q) := ⟨_, rfl⟩
  unfold agQ
  rw [← hR]
  have hr : R = true ↔ q.p.length ≤ 8 ∧ ∀ i, i < q.p.length → FewSt (q.p.getD i t0) := by rw [hR, decide_eq_true_iff, hfew]
  obtain ⟨qp, qw, qa, qi, qf⟩ := q
  simp only at hS hl hX hb1 hr ⊢
  unfold BxQ encQ at hX
  simp only at hX
  obtain ⟨n, hn⟩ : ∃ n, n = qp.length := ⟨_, rfl⟩
  rw [← hn] at hl hX hb1 hr ⊢
  have HLen := Lib.hid hn
  have HS := Lib.hid hS
  have HR := Lib.hid hr
  have HFa := Lib.hid (fun h : ¬ (n ≤ 8 ∧ ∀ i, i < n → FewSt (qp.getD i t0)) => by
    cases R
    · rfl
    · exact absurd (hr.1 rfl) h
    : ¬ (n ≤ 8 ∧ ∀ i, i < n → FewSt (qp.getD i t0)) → R = false)
  have HX := Lib.hid hX
  have HB1 := Lib.hid hb1
  obtain ⟨p0, _⟩ := hX 0 _ rfl
  clear hn hS hfew hX hb1 hr hR
  by_cases m1 : n ≤ 8
  · have hd1 : decide ((8 : Int) < (n : Int)) = false := by rw [decide_eq_false_iff_not]; omega
    have hd1' : decide (8 < n) = false := by rw [decide_eq_false_iff_not]; omega
    go_enter Tryz.func7, Tryz.ntmps7
    go_wp2_with fail
    obtain ⟨w1, hw1⟩ : ∃ w1, w1 = w.alloc (.cells #[.slice A n c, .int .i64 qw, .int .i64 qa, .int .i64 qi, .int .i64 qf] 25) := ⟨_, rfl⟩
    rw [← hw1] at p0 HB1 ⊢
    have HP0 := Lib.hid (fun W (hW : Below w1.heap.size w1 W) => (hW.cell (p := ⟨w.heap.size, 0, none⟩) (World.block_lt_of_cell? w1 _ p0)).trans p0)
    clear hw1 p0 HX
    go_loopw [3] (fun i wr => ∃ j : Nat, i = .int .i64 j ∧ j ≤ n ∧ (∀ i, i < j → FewSt (qp.getD i t0)) ∧ Below w1.heap.size w1 wr) (fun i _ => n - (intOf i).toNat)
    case atStart => exact ⟨0, rfl, Nat.zero_le _, (fun i hi => absurd hi (Nat.not_lt_zero i)), Below.refl _ _⟩
    case round =>
      obtain ⟨j, rfl, hj, hall, hbel⟩ := hrel
      have HAl := Lib.hid hall
      have HBl := Lib.hid hbel
      have p0 := HP0.out wr hbel
      clear hall hbel
      by_cases hjn : j < n
      · obtain ⟨b1, q1, A1, c1, C1, d1, hix1, hc1, _⟩ := HS.out.at j (by rw [← HLen.out]; exact hjn)
        obtain ⟨hcell1, hA1, hC1⟩ := hc1 wr (bt HB1.out HBl.out)
        have hi1 := fun W => hix1 W n c hjn
        obtain ⟨x, hx⟩ : ∃ x, x = qp.getD j t0 := ⟨_, rfl⟩
        rw [← hx] at hcell1 hA1 hC1
        have hsucc : FewSt x → ∀ i, i < j + 1 → FewSt (qp.getD i t0) := fun h i hi => by
          by_cases e : i = j
          · rw [e, ← hx]
            exact h
          · exact HAl.out i (by omega)
        have hfail : ¬ FewSt x → R = false := fun h => HFa.out (fun k => h (by rw [hx]; exact k.2 j hjn))
        have hm1 := fun W (h : Below wr.heap.size wr W) => Ex.Few_any x.f A1 c1 W (hA1.kept h)
        have hm2 := fun W (h : Below wr.heap.size wr W) => Ex.Few_any x.h C1 d1 W (hC1.kept h)
        have hX := bxSt_new wr x A1 c1 C1 d1
        have hb1 := (Below.refl wr.heap.size wr).alloc (Nat.le_refl _) (.cells #[.string x.s, .slice A1 x.f.length c1, .int .i64 x.lo, .int .i64 x.hi, .bool x.g, .string x.t, .slice C1 x.h.length d1] 47)
        have hXk := fun W h => (BxSt.kept hX (w' := W) h).cells
        have hXc := hX.cells
        obtain ⟨z1, e1⟩ : ∃ z, decide (Ex.Few x.f) = z := ⟨_, rfl⟩
        obtain ⟨z2, e2⟩ : ∃ z, decide (Ex.Few x.h) = z := ⟨_, rfl⟩
        obtain ⟨z3, e3⟩ : ∃ z, decide ((60 : Int) < (x.s.size : Int)) = z := ⟨_, rfl⟩
        obtain ⟨z4, e4⟩ : ∃ z, decide ((60 : Int) < (x.t.size : Int)) = z := ⟨_, rfl⟩
        have e3' : decide (60 < x.s.size) = z3 := by rw [← e3]; exact decide_eq_decide.2 (by omega)
        have e4' : decide (60 < x.t.size) = z4 := by rw [← e4]; exact decide_eq_decide.2 (by omega)
        have hiff : FewSt x ↔ z1 = true ∧ z2 = true ∧ z3 = false ∧ z4 = false := by
          unfold FewSt
          rw [← e1, ← e2, ← e3', ← e4', decide_eq_true_iff, decide_eq_true_iff, decide_eq_false_iff_not, decide_eq_false_iff_not, Nat.not_lt, Nat.not_lt]
        simp only [e1] at hm1
        simp only [e2] at hm2
        unfold CellSt at hcell1 hXc hXk
        obtain ⟨xs, xf, xlo, xhi, xg, xt, xh⟩ := x
        simp only at hcell1 hXc hXk hb1 hm1 hm2 e3 e4 e3' e4'
        obtain ⟨n1, hn1⟩ : ∃ n, n = xf.length := ⟨_, rfl⟩
        obtain ⟨n2, hn2⟩ : ∃ n, n = xh.length := ⟨_, rfl⟩
        simp only [← hn1, ← hn2] at hcell1 hXc hXk hb1 hm1 hm2
        have HM1 := Lib.hid hm1
        have HM2 := Lib.hid hm2
        have HXk := Lib.hid hXk
        have HBb := Lib.hid hb1
        have HSu := Lib.hid hsucc
        have HFl := Lib.hid hfail
        have HIf := Lib.hid hiff
        obtain ⟨x0, x1, x2, x3, x4, x5, x6⟩ := hcell1
        obtain ⟨r0, r1, r2, r3, r4, r5, r6⟩ := hXc
        clear hx hc1 hix1 hA1 hC1 hX hsucc hfail hiff hm1 hm2 hXk hb1 e1 e2 hn1 hn2
        go_wp2_with fail
        refine (HM1.out _ HBb.out).mono ?_
        rintro e w2 ⟨rfl, hb2⟩
        have HB2 := Lib.hid (bt HBb.out hb2)
        have HK2 := Lib.hid hb2
        obtain ⟨y0, y1, y2, y3, y4, y5, y6⟩ := HXk.out w2 hb2
        clear hb2 x0 x1 x2 x3 x4 x5 x6 r0 r1 r2 r3 r4 r5 r6
        go_wp2_with fail
        refine (HM2.out _ HB2.out).mono ?_
        rintro e w3 ⟨rfl, hb3⟩
        have HB3 := Lib.hid (bt HBl.out (bt HB2.out hb3))
        obtain ⟨x0, x1, x2, x3, x4, x5, x6⟩ := HXk.out w3 (bt HK2.out hb3)
        clear hb3 y0 y1 y2 y3 y4 y5 y6
        by_cases hF : z1 = true ∧ z2 = true ∧ z3 = false ∧ z4 = false
        · obtain ⟨rfl, rfl, rfl, rfl⟩ := hF
          have HAll := Lib.hid (HSu.out (HIf.out.2 ⟨rfl, rfl, rfl, rfl⟩))
          go_wp2_with fail
          go_roundw
          case rel => exact ⟨j + 1, by go_num, by omega, HAll.out, HB3.out⟩
          case measure => simp [intOf]; omega
        · have HNo := Lib.hid (HFl.out (fun h => hF (HIf.out.1 h)))
          cases z1 <;> cases z2 <;> cases z3 <;> cases z4
          all_goals first
            | exact absurd ⟨rfl, rfl, rfl, rfl⟩ hF
            | (clear hF
               go_wp2_with fail
               go_ret
               exact ⟨ret_v (x := .bool false) (by rw [HNo.out]), bt HB1.out HB3.out⟩)
      · obtain rfl : j = n := by omega
        have HYes := Lib.hid (HR.out.2 ⟨m1, HAl.out⟩)
        go_wp2_with fail
        go_ret
        exact ⟨ret_v (x := .bool true) (by rw [HYes.out]), bt HB1.out HBl.out⟩
  · have hd1 : decide ((8 : Int) < (n : Int)) = true := by rw [decide_eq_true_iff]; omega
    have hd1' : decide (8 < n) = true := by rw [decide_eq_true_iff]; omega
    have HNo := Lib.hid (HFa.out (fun h => m1 h.1))
    clear m1
    go_enter Tryz.func7, Tryz.ntmps7
    go_wp2_with fail
    go_ret
    exact ⟨ret_v (x := .bool false) (by rw [HNo.out]), HB1.out⟩
end Go.Proofs.YtbmdkibmfkmjoaaGreat.Qy

namespace Go.Proofs.YtbmdkibmfkmjoaaGreat.Op
open Go.RowKit Go.ChangeShapes Go.WideShapes Go.Proofs.YtbmdkibmfkmjoaaGreat.VaM Go.Proofs.YtbmdkibmfkmjoaaGreat.ExM Go.Proofs.YtbmdkibmfkmjoaaGreat.Ex

/-- Parts that came in lie where their slice says. -/
def ArgO (W : World) (a : Option Addr) (len cap : Nat) : Prop := ∃ l : List O, l.length = len ∧ SlO W a l cap

theorem cells_o {w : World} {b : Nat} : ∀ (l : List O) (o : Nat), (∀ i, i < l.length → CellO w b (o + i * 5) (l.getD i o0)) → ∀ (j : Nat) (u : Value), (l.flatMap encO)[j]? = some u → w.cell? ⟨b, o + j, none⟩ = some u
  | [], _, _, j, u, h => by simp at h
  | x :: l, o, hc, j, u, h => by
    rw [List.flatMap_cons] at h
    have h0 := hc 0 (by simp)
    rw [Nat.zero_mul, Nat.add_zero, List.getD_cons_zero] at h0
    obtain ⟨c0, c1, c2, c3, c4⟩ := h0
    by_cases hj : j < 5
    · rw [List.getElem?_append_left (by simpa [encO] using hj)] at h
      have hw : j = 0 ∨ j = 1 ∨ j = 2 ∨ j = 3 ∨ j = 4 := by omega
      rcases hw with rfl | rfl | rfl | rfl | rfl
      · obtain rfl : _ = u := by simpa [encO] using h
        exact c0
      · obtain rfl : _ = u := by simpa [encO] using h
        exact c1
      · obtain rfl : _ = u := by simpa [encO] using h
        exact c2
      · obtain rfl : _ = u := by simpa [encO] using h
        exact c3
      · obtain rfl : _ = u := by simpa [encO] using h
        exact c4
    · rw [List.getElem?_append_right (by simp only [encO, List.length_cons, List.length_nil]; omega)] at h
      have h2 := cells_o l (o + 5) (fun i hi => by
        have h3 := hc (i + 1) (by simpa using hi)
        rw [List.getD_cons_succ] at h3
        rw [show o + 5 + i * 5 = o + (i + 1) * 5 from by omega]
        exact h3) (j - 5) u h
      rw [show o + 5 + (j - 5) = o + j from by omega] at h2
      exact h2

set_option maxRecDepth 100000 in
/-- The same, of one cell. -/
theorem open_parts {H : Type} {enc : TypeId × Value → H} {W : World} {fuel : Nat} {v2 : Value} {y2 : DataW H × List MemPlace} (h2 : DataW.trod enc Tryz.prog W 0 (fun _ => true) true fuel 45 [v2] = some y2) :
    ∃ a len cap, v2 = .slice a len cap ∧ ArgO W a len cap := by
  rcases Deep.open_slice Tryz.underlying45 h2 with ⟨hcs, _⟩ | ⟨x, len, cap, m, n, D, Pl, hcs, _, hl, hm, hmm, _, hr⟩
  · simp only [List.cons.injEq, and_true] at hcs
    subst hcs
    exact ⟨none, 0, 0, rfl, [], rfl, slO_none W⟩
  · simp only [List.cons.injEq, and_true] at hcs
    subst hcs
    refine ⟨some x, len, cap, rfl, ?_⟩
    simp only [if_true] at hmm
    subst hmm
    have each : ∀ i, i < len → ∃ y : O, Fin y ∧ W.cell? (x.add (i * 5)) = some (.int .i64 y.c) ∧ W.cell? (x.add (i * 5 + 1)) = some (.int .i64 y.a) ∧ W.cell? (x.add (i * 5 + 2)) = some (.int .i64 y.v.k) ∧ W.cell? (x.add (i * 5 + 3)) = some (.int .i64 y.v.n) ∧ W.cell? (x.add (i * 5 + 4)) = some (.string y.v.s) := by
      intro i hi
      obtain ⟨cs', hc, ht⟩ := hr i (by omega)
      rw [show Tryz.prog.cellsOf 80 = 5 from by kernel_rfl] at hc
      obtain ⟨_, hlen, hcell⟩ := World.cells?_some hc
      match cs', hlen with
      | [u0, u1, u2, u3, u4], _ =>
        obtain ⟨y0, y1, y2, k, _, _, t0, t1, t2⟩ := Deep.trod_struct3 Tryz.underlying80 ht
        have c1 : Tryz.prog.cellsOf 3 = 1 := by kernel_rfl
        have c2 : Tryz.prog.cellsOf 9 = 1 := by kernel_rfl
        have c3 : Tryz.prog.cellsOf 78 = 3 := by kernel_rfl
        simp only [c1] at t0 t1
        simp only [c3] at t2
        simp only [List.drop_zero, List.drop_succ_cons, List.take_succ_cons, List.take_zero] at t0 t1 t2
        obtain ⟨n0, e0', _, w0⟩ := DataW.trod_int Tryz.underlying3 t0
        obtain ⟨n1, e1', _, w1⟩ := DataW.trod_int Tryz.underlying3 t1
        obtain ⟨z0, z1, z2, k', _, _, s0, s1, s2⟩ := Deep.trod_struct3 Tryz.underlying78 t2
        simp only [c1] at s0 s1
        simp only [c2] at s2
        obtain ⟨n2, e2', _, _⟩ := DataW.trod_int Tryz.underlying3 s0
        obtain ⟨n3, e3', _, w3⟩ := DataW.trod_int Tryz.underlying3 s1
        obtain ⟨s, e4', _, w4⟩ := DataW.trod_string Tryz.underlying9 s2
        simp only [List.drop_zero, List.drop_succ_cons, List.take_succ_cons, List.take_zero, List.cons.injEq, and_true] at e0' e1' e2' e3' e4'
        subst e0' e1' e2' e3' e4'
        have g0 := hcell 0 (by decide)
        have g1 := hcell 1 (by decide)
        have g2 := hcell 2 (by decide)
        have g3 := hcell 3 (by decide)
        have g4 := hcell 4 (by decide)
        have b0 := bounds_i64 w0
        have b1 := bounds_i64 w1
        have b3 := bounds_i64 w3
        refine ⟨⟨n0, n1, ⟨n2, n3, s⟩⟩, ⟨w4, ⟨by simp only; omega, by simp only; omega⟩, ⟨by simp only; omega, by simp only; omega⟩, by simp only; omega, by simp only; omega⟩, ?_, ?_, ?_, ?_, ?_⟩
        · rw [Deep.add_add, Nat.add_zero] at g0
          exact g0
        · rw [Deep.add_add] at g1
          exact g1
        · rw [Deep.add_add] at g2
          exact g2
        · rw [Deep.add_add] at g3
          exact g3
        · rw [Deep.add_add] at g4
          exact g4
    let g : Nat → O := fun i => if h : i < len then Classical.choose (each i h) else o0
    have hg : ∀ i, i < len → Fin (g i) ∧ W.cell? (x.add (i * 5)) = some (.int .i64 (g i).c) ∧ W.cell? (x.add (i * 5 + 1)) = some (.int .i64 (g i).a) ∧ W.cell? (x.add (i * 5 + 2)) = some (.int .i64 (g i).v.k) ∧ W.cell? (x.add (i * 5 + 3)) = some (.int .i64 (g i).v.n) ∧ W.cell? (x.add (i * 5 + 4)) = some (.string (g i).v.s) := by
      intro i hi
      have e : g i = Classical.choose (each i hi) := dif_pos hi
      rw [e]
      exact Classical.choose_spec (each i hi)
    have hgl : ((List.range len).map g).length = len := by simp
    have hgd : ∀ i, i < len → ((List.range len).map g).getD i o0 = g i := fun i hi => by simp [List.getD_eq_getElem?_getD, hi]
    refine ⟨(List.range len).map g, hgl, ⟨⟨((List.range len).map g).flatMap encO, fun h0 => ?_, elems_o _ _ _⟩, by rw [hgl]; exact hl, (fun e => by cases e), hm⟩, fun f hf => ?_⟩
    · have hl0 : 0 < len := by
        rcases Nat.eq_zero_or_pos len with e | e
        · subst e
          simp at h0
        · exact e
      obtain ⟨b, o, sp⟩ := x
      have hsp : sp = none := by simpa [Addr.add] using World.cell?_spot (hg 0 hl0).2.1
      subst hsp
      refine ⟨b, o, rfl, cells_o _ o fun i hi => ?_⟩
      rw [hgl] at hi
      rw [hgd i hi]
      obtain ⟨_, g0, g1, g2, g3, g4⟩ := hg i hi
      rw [Addr.add_lit] at g0 g1 g2 g3 g4
      exact ⟨g0, g1, g2, g3, g4⟩
    · obtain ⟨i, hi, rfl⟩ := List.mem_map.1 hf
      exact (hg i (List.mem_range.1 hi)).1
set_option maxRecDepth 100000 in
theorem open_ops {H : Type} {enc : TypeId × Value → H} {W : World} {r : Reach} {b0 : Nat} {v : Value} {d : DataW H} {p : List MemPlace} (hv : Value.okWide Tryz.prog W r b0 45 v)
    (h : DataW.Trod enc Tryz.prog W 0 (fun _ => true) true 45 v d p) : ∃ a len cap, v = .slice a len cap ∧ ArgO W a len cap := by
  obtain ⟨a, len, cap, rfl⟩ := okWide_slice Tryz.underlying45 hv
  obtain ⟨fuel, hf⟩ := h
  simp only [Value.cells] at hf
  exact open_parts hf
end Go.Proofs.YtbmdkibmfkmjoaaGreat.Op

namespace Go.Proofs.YtbmdkibmfkmjoaaGreat.Op
open Go.RowKit Go.ChangeShapes Go.WideShapes Go.Proofs.YtbmdkibmfkmjoaaGreat.VaM Go.Proofs.YtbmdkibmfkmjoaaGreat.ExM Go.Proofs.YtbmdkibmfkmjoaaGreat.Ex Go.Proofs.YtbmdkibmfkmjoaaGreat.QyM Go.Proofs.YtbmdkibmfkmjoaaGreat.Qy

/-- A query that came in: its steps lie where its slice says, its numbers are ints. -/
def ArgQ (W : World) (w a i f : Int) (A : Option Addr) (len cap : Nat) : Prop := ∃ p : List St, p.length = len ∧ SlSt W A p cap ∧ FineQ ⟨p, w, a, i, f⟩

theorem seven {H : Type} {enc : TypeId × Value → H} {P : Program} {w : World} {base : Nat} {spare : Nat → Bool} {held : Bool} {t : TypeId} {g0 g1 g2 g3 g4 g5 g6 : Field} {fuel : Nat} {cs : List Value} {x : DataW H × List MemPlace}
    (ht : P.underlying t = some (.struct #[g0, g1, g2, g3, g4, g5, g6])) (h : DataW.trod enc P w base spare held fuel t cs = some x) :
    ∃ y0 y1 y2 y3 y4 y5 y6 n, DataW.trod enc P w base spare held n g0.type ((cs.drop g0.offset).take (P.cellsOf g0.type)) = some y0 ∧ DataW.trod enc P w base spare held n g1.type ((cs.drop g1.offset).take (P.cellsOf g1.type)) = some y1 ∧
      DataW.trod enc P w base spare held n g2.type ((cs.drop g2.offset).take (P.cellsOf g2.type)) = some y2 ∧ DataW.trod enc P w base spare held n g3.type ((cs.drop g3.offset).take (P.cellsOf g3.type)) = some y3 ∧
      DataW.trod enc P w base spare held n g4.type ((cs.drop g4.offset).take (P.cellsOf g4.type)) = some y4 ∧ DataW.trod enc P w base spare held n g5.type ((cs.drop g5.offset).take (P.cellsOf g5.type)) = some y5 ∧
      DataW.trod enc P w base spare held n g6.type ((cs.drop g6.offset).take (P.cellsOf g6.type)) = some y6 := by
  obtain ⟨xs, n, _, rfl, _, hlen, hf⟩ := DataW.trod_struct ht h
  match xs, hlen with
  | [y0, y1, y2, y3, y4, y5, y6], _ => exact ⟨y0, y1, y2, y3, y4, y5, y6, n, by simpa using hf 0 g0 rfl, by simpa using hf 1 g1 rfl, by simpa using hf 2 g2 rfl, by simpa using hf 3 g3 rfl, by simpa using hf 4 g4 rfl, by simpa using hf 5 g5 rfl, by simpa using hf 6 g6 rfl⟩

theorem five {H : Type} {enc : TypeId × Value → H} {P : Program} {w : World} {base : Nat} {spare : Nat → Bool} {held : Bool} {t : TypeId} {g0 g1 g2 g3 g4 : Field} {fuel : Nat} {cs : List Value} {x : DataW H × List MemPlace}
    (ht : P.underlying t = some (.struct #[g0, g1, g2, g3, g4])) (h : DataW.trod enc P w base spare held fuel t cs = some x) :
    ∃ y0 y1 y2 y3 y4 n, DataW.trod enc P w base spare held n g0.type ((cs.drop g0.offset).take (P.cellsOf g0.type)) = some y0 ∧ DataW.trod enc P w base spare held n g1.type ((cs.drop g1.offset).take (P.cellsOf g1.type)) = some y1 ∧
      DataW.trod enc P w base spare held n g2.type ((cs.drop g2.offset).take (P.cellsOf g2.type)) = some y2 ∧ DataW.trod enc P w base spare held n g3.type ((cs.drop g3.offset).take (P.cellsOf g3.type)) = some y3 ∧
      DataW.trod enc P w base spare held n g4.type ((cs.drop g4.offset).take (P.cellsOf g4.type)) = some y4 := by
  obtain ⟨xs, n, _, rfl, _, hlen, hf⟩ := DataW.trod_struct ht h
  match xs, hlen with
  | [y0, y1, y2, y3, y4], _ => exact ⟨y0, y1, y2, y3, y4, n, by simpa using hf 0 g0 rfl, by simpa using hf 1 g1 rfl, by simpa using hf 2 g2 rfl, by simpa using hf 3 g3 rfl, by simpa using hf 4 g4 rfl⟩

theorem array5 {α : Type} {cs : Array α} (h : cs.size = 5) : ∃ c0 c1 c2 c3 c4, cs = #[c0, c1, c2, c3, c4] := by
  obtain ⟨l⟩ := cs
  match l, h with
  | [c0, c1, c2, c3, c4], _ => exact ⟨c0, c1, c2, c3, c4, rfl⟩

/-- Elements' cells, one behind the other, by each element's. -/
theorem cells_gen {α : Type} {w : World} {b : Nat} (enc : α → List Value) (sz : Nat) (hl : ∀ x, (enc x).length = sz) : ∀ (L : List α) (o : Nat), (∀ i x, L[i]? = some x → ∀ k u, (enc x)[k]? = some u → w.cell? ⟨b, o + i * sz + k, none⟩ = some u) →
    ∀ (j : Nat) (u : Value), (L.flatMap enc)[j]? = some u → w.cell? ⟨b, o + j, none⟩ = some u
  | [], _, _, j, u, h => by simp at h
  | x :: L, o, hc, j, u, h => by
    rw [List.flatMap_cons] at h
    by_cases hj : j < sz
    · rw [List.getElem?_append_left (by rw [hl]; exact hj)] at h
      have h2 := hc 0 x rfl j u h
      rw [Nat.zero_mul, Nat.add_zero] at h2
      exact h2
    · rw [List.getElem?_append_right (by rw [hl]; omega), hl] at h
      have h2 := cells_gen enc sz hl L (o + sz) (fun i y hi k v hv => by
        have h3 := hc (i + 1) y (by simpa using hi) k v hv
        rw [show o + sz + i * sz + k = o + (i + 1) * sz + k from by rw [Nat.add_mul]; omega]
        exact h3) (j - sz) u h
      rw [show o + sz + (j - sz) = o + j from by omega] at h2
      exact h2

/-- A step, and where its expressions lie. -/
abbrev E := St × (Option Addr × Nat) × (Option Addr × Nat)
def encE (x : E) : List Value := encSt x.1 x.2.1.1 x.2.1.2 x.2.2.1 x.2.2.2
def OkE (W : World) (x : E) : Prop := SlO W x.2.1.1 x.1.f x.2.1.2 ∧ SlO W x.2.2.1 x.1.h x.2.2.2 ∧ FineSt x.1
theorem elems_e {W : World} : ∀ L : List E, (∀ x ∈ L, OkE W x) → RG.Elems KSt (fun _ => True) W (L.map (·.1)) (L.flatMap encE)
  | [], _ => rfl
  | x :: L, h => by
    obtain ⟨h1, h2, h3⟩ := h x (by simp)
    exact ⟨encE x, L.flatMap encE, rfl, ⟨x.2.1.1, x.2.1.2, x.2.2.1, x.2.2.2, rfl, h1, h2, h3, (fun _ _ _ => True.intro), fun _ _ _ => True.intro⟩, elems_e L fun y hy => h y (by simp [hy])⟩

set_option maxRecDepth 100000 in
set_option maxHeartbeats 1000000 in
theorem open_steps {H : Type} {enc : TypeId × Value → H} {W : World} {fuel : Nat} {v2 : Value} {y2 : DataW H × List MemPlace} (h2 : DataW.trod enc Tryz.prog W 0 (fun _ => true) true fuel 23 [v2] = some y2) :
    ∃ a len cap, v2 = .slice a len cap ∧ ∃ p : List St, p.length = len ∧ SlSt W a p cap := by
  rcases Deep.open_slice Tryz.underlying23 h2 with ⟨hcs, _⟩ | ⟨x, len, cap, m, n, D, Pl, hcs, _, hl, hm, hmm, _, hr⟩
  · simp only [List.cons.injEq, and_true] at hcs
    subst hcs
    exact ⟨none, 0, 0, rfl, [], rfl, slSt_none W⟩
  · simp only [List.cons.injEq, and_true] at hcs
    subst hcs
    refine ⟨some x, len, cap, rfl, ?_⟩
    simp only [if_true] at hmm
    subst hmm
    have each : ∀ i, i < len → ∃ y : E, OkE W y ∧ ∀ k u, (encE y)[k]? = some u → W.cell? (x.add (i * 7 + k)) = some u := by
      intro i hi
      obtain ⟨cs', hc, ht⟩ := hr i (by omega)
      rw [show Tryz.prog.cellsOf 47 = 7 from by kernel_rfl] at hc
      obtain ⟨_, hlen, hcell⟩ := World.cells?_some hc
      match cs', hlen with
      | [u0, u1, u2, u3, u4, u5, u6], _ =>
        obtain ⟨y0, y1, y2, y3, y4, y5, y6, k, t0, t1, t2, t3, t4, t5, t6⟩ := seven Tryz.underlying47 ht
        have c1 : Tryz.prog.cellsOf 3 = 1 := by kernel_rfl
        have c2 : Tryz.prog.cellsOf 9 = 1 := by kernel_rfl
        have c3 : Tryz.prog.cellsOf 45 = 1 := by kernel_rfl
        have c4 : Tryz.prog.cellsOf 4 = 1 := by kernel_rfl
        simp only [c2] at t0 t5
        simp only [c3] at t1 t6
        simp only [c1] at t2 t3
        simp only [c4] at t4
        simp only [List.drop_zero, List.drop_succ_cons, List.take_succ_cons, List.take_zero] at t0 t1 t2 t3 t4 t5 t6
        obtain ⟨s0, e0', _, w0⟩ := DataW.trod_string Tryz.underlying9 t0
        obtain ⟨A1, n1, k1, e1', l1, hl1, hs1⟩ := open_parts t1
        obtain ⟨n2, e2', _, w2⟩ := DataW.trod_int Tryz.underlying3 t2
        obtain ⟨n3, e3', _, w3⟩ := DataW.trod_int Tryz.underlying3 t3
        obtain ⟨g4, e4', _⟩ := DataW.trod_bool Tryz.underlying4 t4
        obtain ⟨s5, e5', _, w5⟩ := DataW.trod_string Tryz.underlying9 t5
        obtain ⟨A6, n6, k6, e6', l6, hl6, hs6⟩ := open_parts t6
        simp only [List.cons.injEq, and_true] at e0' e2' e3' e4' e5'
        subst e0' e1' e2' e3' e4' e5' e6' hl1 hl6
        have b2 := bounds_i64 w2
        have b3 := bounds_i64 w3
        refine ⟨(⟨s0, l1, n2, n3, g4, s5, l6⟩, (A1, k1), (A6, k6)), ⟨hs1, hs6, ⟨w0, w5⟩, ⟨by simp only; omega, by simp only; omega⟩, by simp only; omega, by simp only; omega⟩, fun j u hu => ?_⟩
        have hj : j < 7 := (List.getElem?_eq_some_iff.1 hu).1
        have h3 := hcell j (by simpa using hj)
        rw [Deep.add_add] at h3
        rw [h3]
        exact hu
    let g : Nat → E := fun i => if h : i < len then Classical.choose (each i h) else (t0, (none, 0), (none, 0))
    have hg : ∀ i, i < len → OkE W (g i) ∧ ∀ k u, (encE (g i))[k]? = some u → W.cell? (x.add (i * 7 + k)) = some u := by
      intro i hi
      have e : g i = Classical.choose (each i hi) := dif_pos hi
      rw [e]
      exact Classical.choose_spec (each i hi)
    have hgl : (((List.range len).map g).map (·.1)).length = len := by simp
    refine ⟨((List.range len).map g).map (·.1), hgl, ⟨((List.range len).map g).flatMap encE, fun h0 => ?_, elems_e _ fun y hy => ?_⟩, by rw [hgl]; exact hl, (fun e => by cases e), hm⟩
    · have hl0 : 0 < len := by
        rcases Nat.eq_zero_or_pos len with e | e
        · subst e
          simp at h0
        · exact e
      obtain ⟨b, o, sp⟩ := x
      have hsp : sp = none := by simpa [Addr.add] using World.cell?_spot ((hg 0 hl0).2 0 _ rfl)
      subst hsp
      refine ⟨b, o, rfl, cells_gen encE 7 (fun _ => rfl) _ o fun i y hi => ?_⟩
      have hi2 : i < len := by
        have := (List.getElem?_eq_some_iff.1 hi).1
        simpa using this
      have hy : y = g i := by
        rw [List.getElem?_map, List.getElem?_range hi2] at hi
        simpa using hi.symm
      subst hy
      intro k u hu
      have h3 := (hg i hi2).2 k u hu
      rw [Addr.add_lit, ← Nat.add_assoc] at h3
      exact h3
    · obtain ⟨i, hi, rfl⟩ := List.mem_map.1 hy
      exact (hg i (List.mem_range.1 hi)).1

set_option maxRecDepth 100000 in
theorem open_query {H : Type} {enc : TypeId × Value → H} {W : World} {r : Reach} {b0 : Nat} {v : Value} {d : DataW H} {p : List MemPlace} (hv : Value.okWide Tryz.prog W r b0 25 v)
    (h : DataW.Trod enc Tryz.prog W 0 (fun _ => true) true 25 v d p) : ∃ w a i f A len cap, v = .agg #[.slice A len cap, .int .i64 w, .int .i64 a, .int .i64 i, .int .i64 f] ∧ ArgQ W w a i f A len cap := by
  obtain ⟨cs, rfl, hsz⟩ := okWide_struct Tryz.underlying25 hv
  obtain ⟨v0, v1, v2, v3, v4, rfl⟩ := array5 (hsz.trans (show Tryz.prog.cellsOf 25 = 5 from by kernel_rfl))
  obtain ⟨fuel, hf⟩ := h
  obtain ⟨y0, y1, y2, y3, y4, n, t0, t1, t2, t3, t4⟩ := five Tryz.underlying25 hf
  have c1 : Tryz.prog.cellsOf 3 = 1 := by kernel_rfl
  have c2 : Tryz.prog.cellsOf 23 = 1 := by kernel_rfl
  simp only [c2] at t0
  simp only [c1] at t1 t2 t3 t4
  simp only [Value.cells, List.drop_zero, List.drop_succ_cons, List.take_succ_cons, List.take_zero] at t0 t1 t2 t3 t4
  obtain ⟨A, len, cap, rfl, p, hl, hs⟩ := open_steps t0
  obtain ⟨n1, e1', _, w1⟩ := DataW.trod_int Tryz.underlying3 t1
  obtain ⟨n2, e2', _, w2⟩ := DataW.trod_int Tryz.underlying3 t2
  obtain ⟨n3, e3', _, w3⟩ := DataW.trod_int Tryz.underlying3 t3
  obtain ⟨n4, e4', _, w4⟩ := DataW.trod_int Tryz.underlying3 t4
  simp only [List.cons.injEq, and_true] at e1' e2' e3' e4'
  subst e1' e2' e3' e4'
  have b1 := bounds_i64 w1
  have b2 := bounds_i64 w2
  have b3 := bounds_i64 w3
  have b4 := bounds_i64 w4
  exact ⟨n1, n2, n3, n4, A, len, cap, rfl, p, hl, hs, ⟨by simp only; omega, by simp only; omega⟩, ⟨by simp only; omega, by simp only; omega⟩, ⟨by simp only; omega, by simp only; omega⟩, by simp only; omega, by simp only; omega⟩
end Go.Proofs.YtbmdkibmfkmjoaaGreat.Op

namespace Go.Proofs.YtbmdkibmfkmjoaaGreat.Qy
open Go.RowKit Go.Proofs.YtbmdkibmfkmjoaaGreat.BM Go.Proofs.YtbmdkibmfkmjoaaGreat.LM Go.Proofs.YtbmdkibmfkmjoaaGreat.LeM Go.Proofs.YtbmdkibmfkmjoaaGreat.VaM Go.Proofs.YtbmdkibmfkmjoaaGreat.ExM Go.Proofs.YtbmdkibmfkmjoaaGreat.QyM
open Go.Proofs.YtbmdkibmfkmjoaaGreat.Ex (SlO slO_none)
open Go.Proofs.YtbmdkibmfkmjoaaGreat.Va (ret_v)

theorem elems_rng {p : Nat → Prop} {w : World} : ∀ {l : List St} {vs : List Value}, RG.Elems KSt p w l vs → ∀ x ∈ l, Rngs x.f ∧ Rngs x.h
  | [], _, _, x, hx => by cases hx
  | y :: l, _, ⟨_, _, _, ⟨A, c, B, d, _, h1, h2, _⟩, hr⟩, x, hx => by
    rcases List.mem_cons.1 hx with rfl | hx
    · exact ⟨fun z hz => (h1.2 z hz).2.1, fun z hz => (h2.2 z hz).2.1⟩
    · exact elems_rng hr x hx
theorem slSt_rng {w : World} {A : Option Addr} {p : List St} {c : Nat} (h : SlSt w A p c) {q : Q} (hq : q.p = p) : RngQ q := by
  obtain ⟨⟨vs, _, h2⟩, _⟩ := h
  intro x hx
  rw [hq] at hx
  exact elems_rng h2 x hx

/-- A query's box. -/
def BxQ5 (w : World) (b : Nat) (A : Option Addr) (n c : Nat) (x y z t : Int) : Prop := RG.BxN w b [.slice A n c, .int .i64 x, .int .i64 y, .int .i64 z, .int .i64 t]
theorem bxQ5_new (w : World) (A : Option Addr) (n c : Nat) (x y z t : Int) : BxQ5 (w.alloc (.cells #[.slice A n c, .int .i64 x, .int .i64 y, .int .i64 z, .int .i64 t] 25)) w.heap.size A n c x y z t :=
  RG.bxN_new w 25 [.slice A n c, .int .i64 x, .int .i64 y, .int .i64 z, .int .i64 t]
theorem BxQ5.kept {w w' : World} {b : Nat} {A : Option Addr} {n c : Nat} {x y z t : Int} (h : BxQ5 w b A n c x y z t) (hb : Below w.heap.size w w') : BxQ5 w' b A n c x y z t := RG.BxN.kept h hb
theorem below_box (w : World) (A : Option Addr) (n c : Nat) (x y z t : Int) : Below w.heap.size w (w.alloc (.cells #[.slice A n c, .int .i64 x, .int .i64 y, .int .i64 z, .int .i64 t] 25)) := (Below.refl w.heap.size w).alloc (Nat.le_refl _) _
end Go.Proofs.YtbmdkibmfkmjoaaGreat.Qy

namespace Go.Proofs.YtbmdkibmfkmjoaaGreat.Va
open Go.RowKit Go.Proofs.YtbmdkibmfkmjoaaGreat.BM Go.Proofs.YtbmdkibmfkmjoaaGreat.LM Go.Proofs.YtbmdkibmfkmjoaaGreat.LeM Go.Proofs.YtbmdkibmfkmjoaaGreat.LeZ Go.Proofs.YtbmdkibmfkmjoaaGreat.VaM

theorem refPut_sl (n : Nat) (w : World) (hn : n < 18446744073709551616) : Calls Tryz.prog 51 #[.int .u64 n] w (PutSl n w) := (LeG.refPut_any n w hn).mono fun _ _ h => putSl_of h

set_option maxRecDepth 100000 in
set_option maxHeartbeats 2000000 in
theorem refPut_any (k n : Int) (s : ByteArray) (w : World) (hr : Rng ⟨k, n, s⟩) :
    Calls Tryz.prog 53 #[.agg #[.int .i64 k, .int .i64 n, .string s]] w (Putted ⟨k, n, s⟩ w) := by
  have HB := Lib.hid ((Below.refl w.heap.size w).alloc (Nat.le_refl _) (.cells #[.int .i64 k, .int .i64 n, .string s] 78))
  have HX := Lib.hid (bx_new w (.int .i64 k) (.int .i64 n) (.string s))
  have HR := Lib.hid hr
  clear hr
  go_enter Tryz.func53, Tryz.ntmps53
  go_wp2_with fail
  refine (refMay_any k n s _).mono ?_
  rintro e w1 ⟨rfl, hb1⟩
  have HB1 := Lib.hid (bt HB.out hb1)
  have HX1 := Lib.hid (HX.out.kept hb1)
  clear hb1 HB HX
  by_cases hm : May ⟨k, n, s⟩
  · rw [decide_eq_true hm]
    have hN : num ⟨k, n, s⟩ < 18446744073709551616 := num_lt hm HR.out
    have hP := fun W => refPut_sl (num ⟨k, n, s⟩) W hN
    have hpv : pv ⟨k, n, s⟩ = [k] ++ putL (num ⟨k, n, s⟩) ++ bl s := by rw [pv, if_pos hm]; rfl
    have hlen := putL_len64 hN
    have hpos := putL_pos (num ⟨k, n, s⟩)
    have hk := may_kind hm
    have hsz := may_size hm
    simp only at hk hsz
    have hz := zig_rng (n := n) HR.out.1 HR.out.2
    have HZ := Lib.hid (fun W => refZig_any n W HR.out.1 HR.out.2)
    have hk0 : k = 0 → zig n = ((num ⟨k, n, s⟩ : Nat) : Int) := fun h => by
      rw [num, if_pos h]
      show zig n = ((zig n).toNat : Int)
      omega
    have hk2 : k = 2 → (s.size : Int) = ((num ⟨k, n, s⟩ : Nat) : Int) := fun h => by rw [num, if_neg (show ¬ k = 0 by omega), if_pos h]
    have hk1 : k ≠ 0 → k ≠ 2 → 0 ≤ n ∧ n = ((num ⟨k, n, s⟩ : Nat) : Int) := fun h h' => by
      have e : num ⟨k, n, s⟩ = n.toNat := by rw [num, if_neg h, if_neg h']
      rw [e]
      rcases hm with ⟨h1, _, _⟩ | ⟨_, h1 | ⟨_, h1⟩ | ⟨_, h1, h2⟩⟩
      · exact absurd h1 h'
      · exact absurd h1 h
      · replace h1 : n = 0 ∨ n = 1 := h1
        omega
      · replace h1 : 0 ≤ n := h1
        omega
    obtain ⟨N, hNd⟩ : ∃ N, N = num ⟨k, n, s⟩ := ⟨_, rfl⟩
    rw [← hNd] at hN hpv hlen hpos hk0 hk2 hk1
    simp only [← hNd] at hP
    have HPut := Lib.hid hP
    have HPv := Lib.hid hpv
    have HMay := Lib.hid hm
    have HK0 := Lib.hid hk0
    have HK1 := Lib.hid hk1
    have HK2 := Lib.hid hk2
    obtain ⟨L, hL⟩ : ∃ L, L = (putL N).length := ⟨_, rfl⟩
    rw [← hL] at hlen hpos
    have HL := Lib.hid hL
    obtain ⟨⟨p0, p1, p2⟩, _⟩ := HX1.out
    clear hP hpv hm hk0 hk1 hk2 hNd hL
    by_cases k0 : k = 0
    · have hz' := HK0.out k0
      subst k0
      go_wp2_with fail
      refine (HZ.out _).mono ?_
      rintro e w2 ⟨rfl, rfl⟩
      rw [hz']
      clear hz'
      go_wp2_with fail
      refine RegB.GS_start (fun x => Bx x w.heap.size (.int .i64 0) (.int .i64 n) (.string s)) (by kernel_rfl) (by repeat (first | exact Reg.frameless_bodyPost | refine Reg.frameless_then ?_ | refine Reg.frameless_inBlock ?_)) (fun W hW => HX1.out.kept hW) (fun W hW => ?_)
      have HW := Lib.hid hW
      have x0 : ∀ x : RegB.At (fun x => Bx x w.heap.size (.int .i64 0) (.int .i64 n) (.string s)), x.world.cell? ⟨w.heap.size, 0, none⟩ = some (.int .i64 0) := fun x => x.ok.1.1
      haveI : Nonempty (RegB.At (fun x => Bx x w.heap.size (.int .i64 0) (.int .i64 n) (.string s))) := ⟨⟨W, HX1.out.kept hW⟩⟩
      clear hW p0 p1 p2
      first | (refine RegB.GS_step (i := 0) rfl (by kernel_rfl) (by rfl) (fun K hK => ?_); go_big_quiet_op; refine hK _ ?_; clear hK K)
      first | (refine RegB.GS_step (i := 1) rfl (by kernel_rfl) (by rfl) (fun K hK => ?_); go_big_quiet_op; refine hK _ ?_; clear hK K)
      first | (refine RegB.GS_step (i := 2) rfl (by kernel_rfl) (by rfl) (fun K hK => ?_); go_big_quiet_op; refine hK _ ?_; clear hK K)
      first | (refine RegB.GS_step (i := 4) rfl (by kernel_rfl) (by rfl) (fun K hK => ?_); go_big_quiet_op; refine hK _ ?_; clear hK K)
      refine RegB.GS_fork (i := 3) (j := 5) rfl rfl (by kernel_rfl) (by rfl) (by rfl) (fun K hK => ?_) (fun K hK => ?_)
      focus
        go_simp
        refine hK _ _ ((HX1.out.kept HW.out).kept ((Below.refl _ _).alloc (Nat.le_refl _) _)) ?_
        clear hK K
        refine RegB.GS_event (i := 5) rfl (by kernel_rfl) (by rfl) (fun K hK => ?_)
        go_simp
        refine (HPut.out _).mono ?_
        rintro e w4 ⟨A, c, rfl, h4, _, hB4⟩
        rw [← HL.out]
        refine hK _ _ (((HX1.out.kept HW.out).kept ((Below.refl _ _).alloc (Nat.le_refl _) _)).kept hB4) ?_
        clear hK K
        have hown := RegA.own_below (World.ownsRow_lit (base := w1.heap.size) (e := 5) (size := 1) W #[.int .u8 0] 1 HW.out.size (by decide) rfl) hB4
        have hbel : Below w1.heap.size w1 w4 := bt HW.out (bt ((Below.refl _ W).alloc (Nat.le_refl _) (.cells #[.int .u8 0] 5)) hB4)
        obtain ⟨g, hg⟩ : ∃ g, g = W.heap.size := ⟨_, rfl⟩
        rw [← hg] at hown ⊢
        have HO := Lib.hid hown
        have HBel := Lib.hid hbel
        have H4 := Lib.hid h4
        clear hown hbel h4 hB4 hg
      rotate_left
      focus
        go_simp
        refine (HPut.out _).mono ?_
        rintro e w3 ⟨A, c, rfl, h3, _, hB3⟩
        rw [← HL.out]
        refine hK _ _ ((HX1.out.kept HW.out).kept hB3) ?_
        clear hK K
        refine RegB.GS_event (i := 3) rfl (by kernel_rfl) (by rfl) (fun K hK => ?_)
        go_simp
        refine hK _ _ (((HX1.out.kept HW.out).kept hB3).kept ((Below.refl _ _).alloc (Nat.le_refl _) _)) ?_
        clear hK K
        have hown := World.ownsRow_lit (base := w1.heap.size) (e := 5) (size := 1) w3 #[.int .u8 0] 1 (bt HW.out hB3).size (by decide) rfl
        have hbel : Below w1.heap.size w1 (w3.alloc (.cells #[.int .u8 0] 5)) := bt HW.out (bt hB3 ((Below.refl _ w3).alloc (Nat.le_refl _) (.cells #[.int .u8 0] 5)))
        have h4 := h3.kept ((Below.refl _ w3).alloc (Nat.le_refl _) (.cells #[.int .u8 0] 5))
        obtain ⟨g, hg⟩ : ∃ g, g = w3.heap.size := ⟨_, rfl⟩
        obtain ⟨w4, hw4⟩ : ∃ w4, w4 = w3.alloc (.cells #[.int .u8 0] 5) := ⟨_, rfl⟩
        rw [← hw4] at hown hbel h4 ⊢
        rw [← hg] at hown ⊢
        have HO := Lib.hid hown
        have HBel := Lib.hid hbel
        have H4 := Lib.hid h4
        clear hown hbel h4 hB3 h3 hg hw4
      all_goals
        have hsz1 := HBel.out.size
        refine RegB.GS_event (i := 6) rfl (by kernel_rfl) (by rfl) (fun K hK => ?_)
        refine RegA.op_append_b (.tmp 30) (.tmp 32) rfl w1.heap.size _ 1 [0] rfl HO.out A L c (putL N) rfl HL.out.symm H4.out.1 hpos (by omega) hsz1 ?_
        intro v5 w5 hown5 hgrow5
        have hB5 : Below w1.heap.size w1 w5 := HBel.out.grown hgrow5 hsz1 (fun q hq => (HO.out.lt q hq).1)
        refine hK _ _ (HX1.out.kept hB5) ?_
        clear hK K
        simp only [Act.put, List.setIfInBounds_toArray, List.set_cons_zero, List.set_cons_succ]
        first | (refine RegB.GS_step (i := 7) rfl (by kernel_rfl) (by rfl) (fun K hK => ?_); go_big_quiet_op; refine hK _ ?_; clear hK K)
        refine RegB.GS_done (by kernel_rfl) ?_
        obtain ⟨⟨p0, p1, p2⟩, _⟩ := HX1.out.kept hB5
        have hsz5 := hB5.size
        have HO5 := Lib.hid hown5
        have HB5 := Lib.hid hB5
        clear hown5 hB5 hgrow5 x0 p0 p1
        go_wp2_with (at_builtin; refine wp_append_s rfl (.tmp 34) (.tmp 36) 9 Tryz.underlying9 rfl w1.heap.size v5 (1 + L) ([0] ++ putL N) rfl HO5.out s rfl (by omega) hsz5 ?_; intro v6 w6 hown6 hgrow6; refine pause ?_)
        have hB6 : Below w1.heap.size w1 w6 := HB5.out.grown hgrow6 hsz5 (fun q hq => (HO5.out.lt q hq).1)
        rw [← HPv.out] at hown6
        obtain ⟨A6, c6, rfl, hl6, h6, h7⟩ := own_slB hown6 (pv_bytes _)
        have hszw := HB1.out.size
        have H7 := Lib.hid (show ∀ a, A6 = some a → w.heap.size ≤ a.block from fun a ha => by have := (h7 a ha).2.1; omega)
        have H6 := Lib.hid h6
        have HB6 := Lib.hid (bt HB1.out hB6)
        clear h6 h7 hB6 hown6 hgrow6 p2 hl6
        unfold Pause
        go_wp2_with fail
        go_ret2
        exact ⟨A6, c6, ret_v (putted_v HMay.out rfl A6 c6), H6.out, H7.out, HB6.out⟩
    · by_cases k2 : k = 2
      · have hz' := HK2.out k2
        subst k2
        go_wp2_with fail
        refine RegB.GS_start (fun x => Bx x w.heap.size (.int .i64 2) (.int .i64 n) (.string s)) (by kernel_rfl) (by repeat (first | exact Reg.frameless_bodyPost | refine Reg.frameless_then ?_ | refine Reg.frameless_inBlock ?_)) (fun W hW => HX1.out.kept hW) (fun W hW => ?_)
        have HW := Lib.hid hW
        have x0 : ∀ x : RegB.At (fun x => Bx x w.heap.size (.int .i64 2) (.int .i64 n) (.string s)), x.world.cell? ⟨w.heap.size, 0, none⟩ = some (.int .i64 2) := fun x => x.ok.1.1
        haveI : Nonempty (RegB.At (fun x => Bx x w.heap.size (.int .i64 2) (.int .i64 n) (.string s))) := ⟨⟨W, HX1.out.kept hW⟩⟩
        clear hW p0 p1 p2
        first | (refine RegB.GS_step (i := 0) rfl (by kernel_rfl) (by rfl) (fun K hK => ?_); go_big_quiet_op; refine hK _ ?_; clear hK K)
        first | (refine RegB.GS_step (i := 1) rfl (by kernel_rfl) (by rfl) (fun K hK => ?_); go_big_quiet_op; refine hK _ ?_; clear hK K)
        first | (refine RegB.GS_step (i := 2) rfl (by kernel_rfl) (by rfl) (fun K hK => ?_); go_big_quiet_op; refine hK _ ?_; clear hK K)
        first | (refine RegB.GS_step (i := 4) rfl (by kernel_rfl) (by rfl) (fun K hK => ?_); go_big_quiet_op; refine hK _ ?_; clear hK K)
        refine RegB.GS_fork (i := 3) (j := 5) rfl rfl (by kernel_rfl) (by rfl) (by rfl) (fun K hK => ?_) (fun K hK => ?_)
        focus
          go_simp
          refine hK _ _ ((HX1.out.kept HW.out).kept ((Below.refl _ _).alloc (Nat.le_refl _) _)) ?_
          clear hK K
          refine RegB.GS_event (i := 5) rfl (by kernel_rfl) (by rfl) (fun K hK => ?_)
          go_simp
          refine (HPut.out _).mono ?_
          rintro e w4 ⟨A, c, rfl, h4, _, hB4⟩
          rw [← HL.out]
          refine hK _ _ (((HX1.out.kept HW.out).kept ((Below.refl _ _).alloc (Nat.le_refl _) _)).kept hB4) ?_
          clear hK K
          have hown := RegA.own_below (World.ownsRow_lit (base := w1.heap.size) (e := 5) (size := 1) W #[.int .u8 2] 1 HW.out.size (by decide) rfl) hB4
          have hbel : Below w1.heap.size w1 w4 := bt HW.out (bt ((Below.refl _ W).alloc (Nat.le_refl _) (.cells #[.int .u8 2] 5)) hB4)
          obtain ⟨g, hg⟩ : ∃ g, g = W.heap.size := ⟨_, rfl⟩
          rw [← hg] at hown ⊢
          have HO := Lib.hid hown
          have HBel := Lib.hid hbel
          have H4 := Lib.hid h4
          clear hown hbel h4 hB4 hg
        rotate_left
        focus
          go_simp
          refine (HPut.out _).mono ?_
          rintro e w3 ⟨A, c, rfl, h3, _, hB3⟩
          rw [← HL.out]
          refine hK _ _ ((HX1.out.kept HW.out).kept hB3) ?_
          clear hK K
          refine RegB.GS_event (i := 3) rfl (by kernel_rfl) (by rfl) (fun K hK => ?_)
          go_simp
          refine hK _ _ (((HX1.out.kept HW.out).kept hB3).kept ((Below.refl _ _).alloc (Nat.le_refl _) _)) ?_
          clear hK K
          have hown := World.ownsRow_lit (base := w1.heap.size) (e := 5) (size := 1) w3 #[.int .u8 2] 1 (bt HW.out hB3).size (by decide) rfl
          have hbel : Below w1.heap.size w1 (w3.alloc (.cells #[.int .u8 2] 5)) := bt HW.out (bt hB3 ((Below.refl _ w3).alloc (Nat.le_refl _) (.cells #[.int .u8 2] 5)))
          have h4 := h3.kept ((Below.refl _ w3).alloc (Nat.le_refl _) (.cells #[.int .u8 2] 5))
          obtain ⟨g, hg⟩ : ∃ g, g = w3.heap.size := ⟨_, rfl⟩
          obtain ⟨w4, hw4⟩ : ∃ w4, w4 = w3.alloc (.cells #[.int .u8 2] 5) := ⟨_, rfl⟩
          rw [← hw4] at hown hbel h4 ⊢
          rw [← hg] at hown ⊢
          have HO := Lib.hid hown
          have HBel := Lib.hid hbel
          have H4 := Lib.hid h4
          clear hown hbel h4 hB3 h3 hg hw4
        all_goals
          have hsz1 := HBel.out.size
          refine RegB.GS_event (i := 6) rfl (by kernel_rfl) (by rfl) (fun K hK => ?_)
          refine RegA.op_append_b (.tmp 30) (.tmp 32) rfl w1.heap.size _ 1 [2] rfl HO.out A L c (putL N) rfl HL.out.symm H4.out.1 hpos (by omega) hsz1 ?_
          intro v5 w5 hown5 hgrow5
          have hB5 : Below w1.heap.size w1 w5 := HBel.out.grown hgrow5 hsz1 (fun q hq => (HO.out.lt q hq).1)
          refine hK _ _ (HX1.out.kept hB5) ?_
          clear hK K
          simp only [Act.put, List.setIfInBounds_toArray, List.set_cons_zero, List.set_cons_succ]
          first | (refine RegB.GS_step (i := 7) rfl (by kernel_rfl) (by rfl) (fun K hK => ?_); go_big_quiet_op; refine hK _ ?_; clear hK K)
          refine RegB.GS_done (by kernel_rfl) ?_
          obtain ⟨⟨p0, p1, p2⟩, _⟩ := HX1.out.kept hB5
          have hsz5 := hB5.size
          have HO5 := Lib.hid hown5
          have HB5 := Lib.hid hB5
          clear hown5 hB5 hgrow5 x0 p0 p1
          go_wp2_with (at_builtin; refine wp_append_s rfl (.tmp 34) (.tmp 36) 9 Tryz.underlying9 rfl w1.heap.size v5 (1 + L) ([2] ++ putL N) rfl HO5.out s rfl (by omega) hsz5 ?_; intro v6 w6 hown6 hgrow6; refine pause ?_)
          have hB6 : Below w1.heap.size w1 w6 := HB5.out.grown hgrow6 hsz5 (fun q hq => (HO5.out.lt q hq).1)
          rw [← HPv.out] at hown6
          obtain ⟨A6, c6, rfl, hl6, h6, h7⟩ := own_slB hown6 (pv_bytes _)
          have hszw := HB1.out.size
          have H7 := Lib.hid (show ∀ a, A6 = some a → w.heap.size ≤ a.block from fun a ha => by have := (h7 a ha).2.1; omega)
          have H6 := Lib.hid h6
          have HB6 := Lib.hid (bt HB1.out hB6)
          clear h6 h7 hB6 hown6 hgrow6 p2 hl6
          unfold Pause
          go_wp2_with fail
          go_ret2
          exact ⟨A6, c6, ret_v (putted_v HMay.out rfl A6 c6), H6.out, H7.out, HB6.out⟩
      · obtain ⟨hn0, hn1⟩ := HK1.out k0 k2
        have hnb : n ≤ 9223372036854775807 := HR.out.2
        subst hn1
        have b0 : (k == 0) = false := by simpa using k0
        have b2 : (k == 2) = false := by simpa using k2
        go_wp2_with fail
        refine RegB.GS_start (fun x => Bx x w.heap.size (.int .i64 k) (.int .i64 (N : Int)) (.string s)) (by kernel_rfl) (by repeat (first | exact Reg.frameless_bodyPost | refine Reg.frameless_then ?_ | refine Reg.frameless_inBlock ?_)) (fun W hW => HX1.out.kept hW) (fun W hW => ?_)
        have HW := Lib.hid hW
        have x0 : ∀ x : RegB.At (fun x => Bx x w.heap.size (.int .i64 k) (.int .i64 (N : Int)) (.string s)), x.world.cell? ⟨w.heap.size, 0, none⟩ = some (.int .i64 k) := fun x => x.ok.1.1
        haveI : Nonempty (RegB.At (fun x => Bx x w.heap.size (.int .i64 k) (.int .i64 (N : Int)) (.string s))) := ⟨⟨W, HX1.out.kept hW⟩⟩
        clear hW p0 p1 p2
        first | (refine RegB.GS_step (i := 0) rfl (by kernel_rfl) (by rfl) (fun K hK => ?_); go_big_quiet_op; refine hK _ ?_; clear hK K)
        first | (refine RegB.GS_step (i := 1) rfl (by kernel_rfl) (by rfl) (fun K hK => ?_); go_big_quiet_op; refine hK _ ?_; clear hK K)
        first | (refine RegB.GS_step (i := 2) rfl (by kernel_rfl) (by rfl) (fun K hK => ?_); go_big_quiet_op; refine hK _ ?_; clear hK K)
        first | (refine RegB.GS_step (i := 4) rfl (by kernel_rfl) (by rfl) (fun K hK => ?_); go_big_quiet_op; refine hK _ ?_; clear hK K)
        refine RegB.GS_fork (i := 3) (j := 5) rfl rfl (by kernel_rfl) (by rfl) (by rfl) (fun K hK => ?_) (fun K hK => ?_)
        focus
          go_simp
          refine hK _ _ ((HX1.out.kept HW.out).kept ((Below.refl _ _).alloc (Nat.le_refl _) _)) ?_
          clear hK K
          refine RegB.GS_event (i := 5) rfl (by kernel_rfl) (by rfl) (fun K hK => ?_)
          go_simp
          refine (HPut.out _).mono ?_
          rintro e w4 ⟨A, c, rfl, h4, _, hB4⟩
          rw [← HL.out]
          refine hK _ _ (((HX1.out.kept HW.out).kept ((Below.refl _ _).alloc (Nat.le_refl _) _)).kept hB4) ?_
          clear hK K
          have hown := RegA.own_below (World.ownsRow_lit (base := w1.heap.size) (e := 5) (size := 1) W #[.int .u8 k] 1 HW.out.size (by decide) rfl) hB4
          have hbel : Below w1.heap.size w1 w4 := bt HW.out (bt ((Below.refl _ W).alloc (Nat.le_refl _) (.cells #[.int .u8 k] 5)) hB4)
          obtain ⟨g, hg⟩ : ∃ g, g = W.heap.size := ⟨_, rfl⟩
          rw [← hg] at hown ⊢
          have HO := Lib.hid hown
          have HBel := Lib.hid hbel
          have H4 := Lib.hid h4
          clear hown hbel h4 hB4 hg
        rotate_left
        focus
          go_simp
          refine (HPut.out _).mono ?_
          rintro e w3 ⟨A, c, rfl, h3, _, hB3⟩
          rw [← HL.out]
          refine hK _ _ ((HX1.out.kept HW.out).kept hB3) ?_
          clear hK K
          refine RegB.GS_event (i := 3) rfl (by kernel_rfl) (by rfl) (fun K hK => ?_)
          go_simp
          refine hK _ _ (((HX1.out.kept HW.out).kept hB3).kept ((Below.refl _ _).alloc (Nat.le_refl _) _)) ?_
          clear hK K
          have hown := World.ownsRow_lit (base := w1.heap.size) (e := 5) (size := 1) w3 #[.int .u8 k] 1 (bt HW.out hB3).size (by decide) rfl
          have hbel : Below w1.heap.size w1 (w3.alloc (.cells #[.int .u8 k] 5)) := bt HW.out (bt hB3 ((Below.refl _ w3).alloc (Nat.le_refl _) (.cells #[.int .u8 k] 5)))
          have h4 := h3.kept ((Below.refl _ w3).alloc (Nat.le_refl _) (.cells #[.int .u8 k] 5))
          obtain ⟨g, hg⟩ : ∃ g, g = w3.heap.size := ⟨_, rfl⟩
          obtain ⟨w4, hw4⟩ : ∃ w4, w4 = w3.alloc (.cells #[.int .u8 k] 5) := ⟨_, rfl⟩
          rw [← hw4] at hown hbel h4 ⊢
          rw [← hg] at hown ⊢
          have HO := Lib.hid hown
          have HBel := Lib.hid hbel
          have H4 := Lib.hid h4
          clear hown hbel h4 hB3 h3 hg hw4
        all_goals
          have hsz1 := HBel.out.size
          refine RegB.GS_event (i := 6) rfl (by kernel_rfl) (by rfl) (fun K hK => ?_)
          refine RegA.op_append_b (.tmp 30) (.tmp 32) rfl w1.heap.size _ 1 [k] rfl HO.out A L c (putL N) rfl HL.out.symm H4.out.1 hpos (by omega) hsz1 ?_
          intro v5 w5 hown5 hgrow5
          have hB5 : Below w1.heap.size w1 w5 := HBel.out.grown hgrow5 hsz1 (fun q hq => (HO.out.lt q hq).1)
          refine hK _ _ (HX1.out.kept hB5) ?_
          clear hK K
          simp only [Act.put, List.setIfInBounds_toArray, List.set_cons_zero, List.set_cons_succ]
          first | (refine RegB.GS_step (i := 7) rfl (by kernel_rfl) (by rfl) (fun K hK => ?_); go_big_quiet_op; refine hK _ ?_; clear hK K)
          refine RegB.GS_done (by kernel_rfl) ?_
          obtain ⟨⟨p0, p1, p2⟩, _⟩ := HX1.out.kept hB5
          have hsz5 := hB5.size
          have HO5 := Lib.hid hown5
          have HB5 := Lib.hid hB5
          clear hown5 hB5 hgrow5 x0 p0 p1
          go_wp2_with (at_builtin; refine wp_append_s rfl (.tmp 34) (.tmp 36) 9 Tryz.underlying9 rfl w1.heap.size v5 (1 + L) ([k] ++ putL N) rfl HO5.out s rfl (by omega) hsz5 ?_; intro v6 w6 hown6 hgrow6; refine pause ?_)
          have hB6 : Below w1.heap.size w1 w6 := HB5.out.grown hgrow6 hsz5 (fun q hq => (HO5.out.lt q hq).1)
          rw [← HPv.out] at hown6
          obtain ⟨A6, c6, rfl, hl6, h6, h7⟩ := own_slB hown6 (pv_bytes _)
          have hszw := HB1.out.size
          have H7 := Lib.hid (show ∀ a, A6 = some a → w.heap.size ≤ a.block from fun a ha => by have := (h7 a ha).2.1; omega)
          have H6 := Lib.hid h6
          have HB6 := Lib.hid (bt HB1.out hB6)
          clear h6 h7 hB6 hown6 hgrow6 p2 hl6
          unfold Pause
          go_wp2_with fail
          go_ret2
          exact ⟨A6, c6, ret_v (putted_v HMay.out rfl A6 c6), H6.out, H7.out, HB6.out⟩
  · rw [decide_eq_false hm]
    have HMay := Lib.hid hm
    have hp : pv ⟨k, n, s⟩ = [] := by rw [pv, if_neg hm]
    have HP := Lib.hid hp
    clear hm hp
    go_wp2_with fail
    go_ret2
    exact ⟨none, 0, ret_v (putted_n HMay.out), by rw [HP.out]; exact slB_none _, (fun a ha => by cases ha), HB1.out⟩
end Go.Proofs.YtbmdkibmfkmjoaaGreat.Va

namespace Go.Proofs.YtbmdkibmfkmjoaaGreat.Ex
open Go.RowKit Go.Proofs.YtbmdkibmfkmjoaaGreat.BM Go.Proofs.YtbmdkibmfkmjoaaGreat.LM Go.Proofs.YtbmdkibmfkmjoaaGreat.LeM Go.Proofs.YtbmdkibmfkmjoaaGreat.ExM Go.Proofs.YtbmdkibmfkmjoaaGreat.EvM
open Go.Proofs.YtbmdkibmfkmjoaaGreat.VaM (V Rng putV putV_len putV_bytes)
open Go.Proofs.YtbmdkibmfkmjoaaGreat.Va (PutSl ret_v)

set_option maxRecDepth 100000 in
set_option maxHeartbeats 8000000 in
theorem refPutF_any (l : List O) (A : Option Addr) (c : Nat) (w : World) (hS : SlO w A l c) :
    Calls Tryz.prog 27 #[.slice A l.length c] w (PuttedF l w) := by
  have hm1 := refMay_any l A c w hS
  have hl := slO_len hS
  have HS := Lib.hid hS
  have hrn : ExM.Rngs l := hS.rngs
  by_cases hmay : ExM.May l
  · have HMay := Lib.hid hmay
    have hpv : ExM.pv l = pL l := by rw [ExM.pv, if_pos hmay]
    have hl12 := hmay.2
    have hok := fun x hx => hmay.ok (x := x) hx
    have hlen := fun j => (show (pOs (l.take j)).length ≤ 52 * 12 from Nat.le_trans (pOs_len (fun x hx => hok x (List.mem_of_mem_take hx)) (fun x hx => hrn x (List.mem_of_mem_take hx))) (Nat.mul_le_mul_left 52 (by rw [List.length_take]; omega)))
    rw [decide_eq_true hmay] at hm1
    have HPv := Lib.hid hpv
    have HOk := Lib.hid hok
    have HPl := Lib.hid (fun W => Va.refPut_sl l.length W (by omega))
    have hq3 := putL_len64 (n := l.length) (by omega)
    have HLe := Lib.hid hlen
    have HRn := Lib.hid hrn
    clear hpv hok hS hlen hrn hmay
    obtain ⟨P, hP⟩ : ∃ P, P = putL l.length := ⟨_, rfl⟩
    have HPre := Lib.hid hP
    obtain ⟨n, hn⟩ : ∃ n, n = l.length := ⟨_, rfl⟩
    rw [← hn] at hl hl12 hm1 HPl hq3 ⊢
    have HN := Lib.hid hn
    rw [← hn] at hP
    rw [← hP] at hq3
    have HPn := Lib.hid hP
    have HM1 := Lib.hid hm1
    clear hn hm1 hP
    go_enter Tryz.func27, Tryz.ntmps27
    go_wp2_with fail
    refine HM1.out.mono ?_
    rintro e w1 ⟨rfl, hb1⟩
    have HB1 := Lib.hid hb1
    clear hb1 HM1
    go_wp2_with fail
    refine (HPl.out w1).mono ?_
    rintro e w2 ⟨A2, c2, rfl, _, hown2, hb2⟩
    rw [← HPn.out] at hown2 ⊢
    have hsz : w.heap.size ≤ w1.heap.size := HB1.out.size
    have HO2 := Lib.hid hown2
    have HB2 := Lib.hid hb2
    clear hown2 hb2 HPl
    obtain ⟨m3, hm3⟩ : ∃ m, m = P.length := ⟨_, rfl⟩
    rw [← hm3] at HO2 hq3 ⊢
    have HM3 := Lib.hid hm3
    clear hm3
    go_wp2_with fail
    go_loopw [5, 6] (fun u i wr => ∃ (j k : Nat), i = .int .i64 j ∧ j ≤ n ∧ k = (P ++ pOs (l.take j)).length ∧ wr.ownsRow w1.heap.size 5 1 u k (cs (P ++ pOs (l.take j))) ∧ Below w1.heap.size w1 wr) (fun _ i _ => n - (intOf i).toNat)
    case atStart => exact ⟨0, m3, rfl, Nat.zero_le _, by simpa [pOs] using HM3.out, by simpa [pOs] using HO2.out, HB2.out⟩
    case round =>
      obtain ⟨j, k, rfl, hj, hk, hown, hbel⟩ := hrel
      have hk2 : k ≤ 700 := by
        rw [hk, List.length_append, ← HM3.out]
        have := HLe.out j
        omega
      have HO := Lib.hid hown
      have HK := Lib.hid hk
      have HBl2 := Lib.hid hbel
      clear hown hk hbel HO2 HB2
      by_cases hjn : j < n
      · obtain ⟨b, q, hix, hc, hfz⟩ := HS.out.at j (by rw [← HN.out]; exact hjn)
        have hfok := HOk.out _ (ExM.getD_mem (l := l) (i := j) (by rw [← HN.out]; exact hjn))
        have hsn := take_snocO (l := l) (j := j) (by rw [← HN.out]; exact hjn)
        obtain ⟨⟨fc, fa, fk, fn, fs⟩, hf⟩ : ∃ f, f = l.getD j o0 := ⟨_, rfl⟩
        rw [← hf] at hc hfok hsn hfz
        have hrg := hfz.2.1
        obtain ⟨c0, c1', c2', c3', c4'⟩ := hc wr (bt HB1.out HBl2.out)
        simp only at c0 c1' c2' c3' c4' hrg
        have hi := fun W => hix W n c hjn
        obtain ⟨k1, k2, k3, k4, _, hvm, _⟩ := hfok
        simp only at k1 k2 k3 k4 hvm
        have HSn := Lib.hid hsn
        have hc256 : fc % 256 = fc := by omega
        have ha256 : fa % 256 = fa := by omega
        have HC := Lib.hid hc
        have ha3 := (Below.refl wr.heap.size wr).alloc (Nat.le_refl _) (.cells #[.int .u8 fc] 5)
        have HNew := Lib.hid (isB_new wr [fc] (by intro x hx; simp only [List.mem_singleton] at hx; omega))
        have HO3 := Lib.hid (RegA.own_below HO.out ha3)
        have HB3 := Lib.hid (bt HBl2.out ha3)
        have hz3 := HB3.out.size
        clear hix hf hsn ha3 hfz hc
        go_wp2_with (at_builtin; refine wp_append_b rfl (.tmp 23) (.tmp 30) rfl w1.heap.size _ k _ rfl HO3.out (some ⟨wr.heap.size, 0, none⟩) 1 1 [fc] rfl rfl HNew.out (fun h => by cases h) (by omega) hz3 ?_; intro u4 w4 hown4 hgrow4; refine pause ?_)
        have hB4 : Below w1.heap.size w1 w4 := HB3.out.grown hgrow4 hz3 (fun q hq => (HO3.out.lt q hq).1)
        have HO4 := Lib.hid hown4
        have HB4 := Lib.hid hB4
        clear hown4 hgrow4 hB4 HO3 HB3 HNew c0 c1' c2' c3' c4'
        unfold Pause
        obtain ⟨c0, c1', c2', c3', c4'⟩ := HC.out w4 (bt HB1.out HB4.out)
        simp only at c0 c1' c2' c3' c4'
        by_cases h0 : fc = 0
        · have g0 : (fc == 0) = true := by simpa using h0
          have g1 : (fc == 1) = false := by rw [h0]; rfl
          have HpO := Lib.hid (pO_push (o := ⟨fc, fa, fk, fn, fs⟩) h0)
          have hput := fun W => Va.refPut_any fk fn fs W hrg
          have hpp := (show VaM.pv ⟨fk, fn, fs⟩ = putV ⟨fk, fn, fs⟩ from by rw [VaM.pv, if_pos hvm])
          unfold Va.Putted at hput
          rw [hpp, decide_eq_true hvm] at hput
          have hpl := (putV_len hvm hrg).2
          obtain ⟨m, hm⟩ : ∃ m, m = (putV ⟨fk, fn, fs⟩).length := ⟨_, rfl⟩
          rw [← hm] at hpl
          simp only [← hm] at hput
          have HPu := Lib.hid hput
          have HM := Lib.hid hm
          clear h0 hput hpp hm
          go_wp2_with fail
          refine (HPu.out _).mono ?_
          rintro e w5 ⟨A5, c5, rfl, hs5, _, hb5⟩
          have HO5 := Lib.hid (RegA.own_below HO4.out hb5)
          have HB5 := Lib.hid (bt HB4.out hb5)
          have HS5 := Lib.hid hs5
          have hz5 := HB5.out.size
          clear hs5 hb5 c0 c1' c2' c3' c4' HPu HO4
          go_wp2_with (at_builtin; refine wp_append_b rfl (.tmp 47) (.tmp 48) rfl w1.heap.size _ (k + 1) _ rfl HO5.out A5 m c5 (putV ⟨fk, fn, fs⟩) rfl HM.out.symm HS5.out.1 HS5.out.2.2.1 (by omega) hz5 ?_; intro u6 w6 hown6 hgrow6; refine pause ?_)
          have hB6 : Below w1.heap.size w1 w6 := HB5.out.grown hgrow6 hz5 (fun q hq => (HO5.out.lt q hq).1)
          have he6 : (P ++ pOs (l.take j) ++ [fc]) ++ putV ⟨fk, fn, fs⟩ = P ++ pOs (l.take (j + 1)) := by
            rw [HSn.out, pOs_snoc, HpO.out, List.append_assoc, List.append_assoc]
            rfl
          rw [he6] at hown6
          have hk6 : k + 1 + m = (P ++ pOs (l.take (j + 1))).length := by
            rw [← he6, List.length_append, List.length_append, ← HM.out, ← HK.out]
            rfl
          have HO6 := Lib.hid hown6
          have HB6 := Lib.hid hB6
          have HK6 := Lib.hid hk6
          clear hown6 hgrow6 hB6 he6 hk6
          unfold Pause
          obtain ⟨c0, c1', c2', c3', c4'⟩ := HC.out w6 (bt HB1.out HB6.out)
          simp only at c0 c1' c2' c3' c4'
          go_wp2_with fail
          go_roundw
          case rel => exact ⟨j + 1, k + 1 + m, by go_num, by omega, HK6.out, HO6.out, HB6.out⟩
          case measure => simp [intOf]; omega
        · have g0 : (fc == 0) = false := by simpa using h0
          by_cases h1 : fc = 1
          · have g1 : (fc == 1) = true := by simpa using h1
            have HpO := Lib.hid (pO_load (o := ⟨fc, fa, fk, fn, fs⟩) h1)
            have ha5 := (Below.refl w4.heap.size w4).alloc (Nat.le_refl _) (.cells #[.int .u8 fa] 5)
            have HNew := Lib.hid (isB_new w4 [fa] (by intro x hx; simp only [List.mem_singleton] at hx; omega))
            have HO5 := Lib.hid (RegA.own_below HO4.out ha5)
            have HB5 := Lib.hid (bt HB4.out ha5)
            have hz5 := HB5.out.size
            clear h0 h1 ha5
            go_wp2_with (at_builtin; refine wp_append_b rfl (.tmp 56) (.tmp 63) rfl w1.heap.size _ (k + 1) _ rfl HO5.out (some ⟨w4.heap.size, 0, none⟩) 1 1 [fa] rfl rfl HNew.out (fun h => by cases h) (by omega) hz5 ?_; intro u6 w6 hown6 hgrow6; refine pause ?_)
            have hB6 : Below w1.heap.size w1 w6 := HB5.out.grown hgrow6 hz5 (fun q hq => (HO5.out.lt q hq).1)
            have he6 : (P ++ pOs (l.take j) ++ [fc]) ++ [fa] = P ++ pOs (l.take (j + 1)) := by
              rw [HSn.out, pOs_snoc, HpO.out, List.append_assoc, List.append_assoc]
              rfl
            rw [he6] at hown6
            have hk6 : k + 1 + 1 = (P ++ pOs (l.take (j + 1))).length := by
              rw [← he6, List.length_append, List.length_append, ← HK.out]
              rfl
            have HO6 := Lib.hid hown6
            have HB6 := Lib.hid hB6
            have HK6 := Lib.hid hk6
            clear hown6 hgrow6 hB6 he6 hk6
            unfold Pause
            go_wp2_with fail
            go_roundw
            case rel => exact ⟨j + 1, k + 1 + 1, by go_num, by omega, HK6.out, HO6.out, HB6.out⟩
            case measure => simp [intOf]; omega
          · have g1 : (fc == 1) = false := by simpa using h1
            have HpO := Lib.hid (pO_none (o := ⟨fc, fa, fk, fn, fs⟩) h0 h1)
            have he6 : P ++ pOs (l.take j) ++ [fc] = P ++ pOs (l.take (j + 1)) := by
              rw [HSn.out, pOs_snoc, HpO.out, List.append_assoc]
            have hown6 := HO4.out
            rw [he6] at hown6
            have hk6 : k + 1 = (P ++ pOs (l.take (j + 1))).length := by
              rw [← he6, List.length_append, ← HK.out]
              rfl
            have HO6 := Lib.hid hown6
            have HK6 := Lib.hid hk6
            clear h0 h1 hown6 he6 hk6
            go_wp2_with fail
            go_roundw
            case rel => exact ⟨j + 1, k + 1, by go_num, by omega, HK6.out, HO6.out, HB4.out⟩
            case measure => simp [intOf]; omega
      · obtain rfl : j = n := by omega
        have hall : P ++ pOs (l.take j) = ExM.pv l := by
          rw [HPv.out, HN.out, List.take_length, HPre.out]
          rfl
        have hown := HO.out
        rw [hall] at hown
        obtain ⟨A5, c5, rfl, hl5, h5, h6⟩ := own_slB hown (ExM.pv_bytes _)
        have HS5 := Lib.hid h5
        have HD := Lib.hid (decide_eq_true HMay.out)
        have HFr := Lib.hid (fun a ha => ⟨Nat.le_trans hsz (h6 a ha).2.1, (h6 a ha).2.2⟩ : ∀ a, A5 = some a → w.heap.size ≤ a.block ∧ a.block < wr.heap.size)
        clear hall hown h5 h6 hl5
        go_wp2_with fail
        go_ret2
        exact ⟨A5, c5, ret_v (x := .tuple #[.slice A5 (ExM.pv l).length c5, .bool true]) (by rw [HD.out]), HS5.out, HFr.out, bt HB1.out HBl2.out⟩
  · have hpv : ExM.pv l = [] := by rw [ExM.pv, if_neg hmay]
    rw [decide_eq_false hmay] at hm1
    have HPv := Lib.hid hpv
    have HD := Lib.hid (decide_eq_false hmay)
    obtain ⟨n, hn⟩ : ∃ n, n = l.length := ⟨_, rfl⟩
    rw [← hn] at hm1 ⊢
    have HM1 := Lib.hid hm1
    clear hn hm1 hpv hmay hS hl hrn
    go_enter Tryz.func27, Tryz.ntmps27
    go_wp2_with fail
    refine HM1.out.mono ?_
    rintro e w1 ⟨rfl, hb1⟩
    have HB1 := Lib.hid hb1
    clear hb1 HM1
    go_wp2_with fail
    go_ret2
    exact ⟨none, 0, ret_v (by rw [HD.out, HPv.out]; rfl), by rw [HPv.out]; exact slB_none _, (fun a ha => by cases ha), HB1.out⟩

theorem refPut_any (l : List O) (A : Option Addr) (c : Nat) (w : World) (hS : SlO w A l c) : Calls Tryz.prog 27 #[.slice A l.length c] w (Putted l w) := (refPutF_any l A c w hS).mono fun _ _ h => putted_of h
end Go.Proofs.YtbmdkibmfkmjoaaGreat.Ex

namespace Go.Proofs.YtbmdkibmfkmjoaaGreat.Sc
open Go.RowKit Go.Proofs.YtbmdkibmfkmjoaaGreat.BM Go.Proofs.YtbmdkibmfkmjoaaGreat.LM Go.Proofs.YtbmdkibmfkmjoaaGreat.LeM Go.Proofs.YtbmdkibmfkmjoaaGreat.VaM Go.Proofs.YtbmdkibmfkmjoaaGreat.Va Go.Proofs.YtbmdkibmfkmjoaaGreat.ScM

theorem refPut_sl (n : Nat) (w : World) (hn : n < 18446744073709551616) : Calls Tryz.prog 51 #[.int .u64 n] w (PutSl n w) := (LeG.refPut_any n w hn).mono fun _ _ h => putSl_of h

set_option maxRecDepth 100000 in
theorem refText_any (s : ByteArray) (w : World) (hs : s.size ≤ 100000) : Calls Tryz.prog 28 #[.string s] w (Bys (pn s) w) := by
  have HP := Lib.hid (fun W => refPut_sl s.size W (by omega))
  have hl := putL_len64 (n := s.size) (by omega)
  obtain ⟨L, hL⟩ : ∃ L, L = (putL s.size).length := ⟨_, rfl⟩
  rw [← hL] at hl
  have HL := Lib.hid hL
  clear hL
  go_enter Tryz.func28, Tryz.ntmps28
  go_wp2_with fail
  refine (HP.out _).mono ?_
  rintro e w1 ⟨A, c, rfl, _, hown, hb⟩
  rw [← HL.out] at hown ⊢
  have HO := Lib.hid hown
  have HB := Lib.hid hb
  have hz := hb.size
  clear hown hb HP
  go_wp2_with (at_builtin; refine wp_append_s rfl (.tmp 6) (.tmp 7) 9 (by kernel_rfl) rfl w.heap.size _ L (putL s.size) rfl HO.out s rfl (by omega) (by omega) ?_; intro v1 w2 hown2 hgrow2; refine pause ?_)
  have hB2 : Below w.heap.size w w2 := HB.out.grown hgrow2 (by omega) (fun q hq => (HO.out.lt q hq).1)
  obtain ⟨A2, c2, rfl, hl2, h2, _⟩ := own_slB hown2 (pn_bytes s)
  have HO2 := Lib.hid hown2
  have HS := Lib.hid h2
  have HB2 := Lib.hid hB2
  have HL2 := Lib.hid hl2
  clear h2 hB2 hown2 hgrow2 hl2
  unfold Pause
  go_wp2_with fail
  go_ret
  refine ⟨A2, c2, rfl, HS.out, ?_, HB2.out⟩
  have h := HO2.out
  rw [HL2.out] at h
  exact h
end Go.Proofs.YtbmdkibmfkmjoaaGreat.Sc

namespace Go.Proofs.YtbmdkibmfkmjoaaGreat.Qy
open Go.RowKit Go.Proofs.YtbmdkibmfkmjoaaGreat.BM Go.Proofs.YtbmdkibmfkmjoaaGreat.LM Go.Proofs.YtbmdkibmfkmjoaaGreat.LeM Go.Proofs.YtbmdkibmfkmjoaaGreat.VaM Go.Proofs.YtbmdkibmfkmjoaaGreat.ExM Go.Proofs.YtbmdkibmfkmjoaaGreat.QyM
open Go.Proofs.YtbmdkibmfkmjoaaGreat.Ex (SlO slO_none slO_len)
open Go.Proofs.YtbmdkibmfkmjoaaGreat.Va (ret_v PutSl)
open Go.Proofs.YtbmdkibmfkmjoaaGreat.ScM (Nm pn pn_len pn_bytes)

set_option maxRecDepth 100000 in
theorem refNumber_any (n : Nat) (w : World) (hn : n ≤ 9223372036854775807) : Calls Tryz.prog 26 #[.int .i64 (n : Int)] w (PutSl n w) := by
  have HP := Lib.hid (fun W => Sc.refPut_sl n W (by omega))
  go_enter Tryz.func26, Tryz.ntmps26
  go_wp2_with fail
  refine (HP.out _).mono ?_
  rintro e w1 ⟨A, c, rfl, hs, ho, hb⟩
  go_wp2_with fail
  go_ret
  exact ⟨A, c, rfl, hs, ho, hb⟩

set_option maxRecDepth 100000 in
set_option maxHeartbeats 16000000 in
theorem refPut_any (q : Q) (A : Option Addr) (c : Nat) (w : World) (hT : SlSt w A q.p c) (hr : RngQ q) :
    Calls Tryz.prog 10 #[agQ q A c] w (Putted q w) := by
  have hlen := slSt_len hT
  have hm1 := fun W (h : Below w.heap.size w W) => refMay_any q A c W (hT.kept h)
  have hpvb := pv_bytes hr
  have hX0 := (bxQ_new w q A c).cells
  have ha := (Below.refl w.heap.size w).alloc (Nat.le_refl _) (.cells #[.slice A q.p.length c, .int .i64 q.w, .int .i64 q.a, .int .i64 q.i, .int .i64 q.f] 25)
  unfold agQ at hm1 ⊢
  unfold Putted
  by_cases hmay : QyM.May q
  · have hok := okQ_of hmay hr
    obtain ⟨ho1, ho2, ho3, ho4, ho5, ho6⟩ := hok
    have hmx : ∀ x ∈ q.p, ExM.May x.f ∧ (x.g = true → ExM.May x.h) ∧ (x.g = true → x.t.size ≤ 12) := fun x hx => ⟨(ho2 x hx).2.1.1, fun e => ((ho2 x hx).2.2.2.2.2 e).2.1, fun e => ((ho2 x hx).2.2.2.2.2 e).1⟩
    have hpv : QyM.pv q = pQ q := by rw [QyM.pv, if_pos hmay]
    have hpl := fun j => (show (Gr.puts pSt (q.p.take j)).length ≤ 1330 * 4 from Nat.le_trans (puts_len fun x hx => ho2 x (List.mem_of_mem_take hx)) (Nat.mul_le_mul_left 1330 (by rw [List.length_take]; omega)))
    simp only [decide_eq_true hmay] at hm1
    rw [decide_eq_true hmay, hpv]
    rw [hpv] at hpvb
    unfold pQ at hpvb ⊢
    obtain ⟨qp, qw, qa, qi, qf⟩ := q
    simp only at hT hlen hm1 hX0 ha ho1 ho2 ho3 ho4 ho5 ho6 hmx hpl hpvb ⊢
    obtain ⟨nw, rfl⟩ := Int.eq_ofNat_of_zero_le ho3.1
    obtain ⟨na, rfl⟩ := Int.eq_ofNat_of_zero_le ho4.1
    obtain ⟨ni, rfl⟩ := Int.eq_ofNat_of_zero_le ho5.1
    obtain ⟨nf, rfl⟩ := Int.eq_ofNat_of_zero_le ho6.1
    simp only [Int.toNat_natCast] at hpvb ⊢
    have hwn : nw ≤ 9223372036854775807 := by omega
    obtain ⟨n, hn⟩ : ∃ n, n = qp.length := ⟨_, rfl⟩
    simp only [← hn] at hlen hm1 hX0 ha ho1
    rw [← hn] at hpvb ⊢
    have hk4 : na ≤ 4 ∧ ni ≤ 4 ∧ nf ≤ 6 := ⟨by omega, by omega, by omega⟩
    have HN := Lib.hid hn
    have HT := Lib.hid hT
    have HOk := Lib.hid ho2
    have HMx := Lib.hid hmx
    have HPl := Lib.hid hpl
    have HPb := Lib.hid hpvb
    have HMay := Lib.hid hm1
    have HA0 := Lib.hid ha
    have HNum := Lib.hid refNumber_any
    obtain ⟨P, hP⟩ : ∃ P, P = putL n := ⟨_, rfl⟩
    have hP10 := putL_len64 (n := n) (by omega)
    rw [← hP] at hP10
    have HP := Lib.hid hP
    obtain ⟨p0, p1, p2, p3, p4⟩ := hX0
    clear hn hT ho2 hmx hpl hpvb hm1 ha hmay hpv ho3 ho4 ho5 ho6 hP hr
    go_enter Tryz.func10, Tryz.ntmps10
    go_wp2_with fail
    obtain ⟨w0, hw0⟩ : ∃ w0, w0 = w.alloc (.cells #[.slice A n c, .int .i64 (nw : Int), .int .i64 (na : Int), .int .i64 (ni : Int), .int .i64 (nf : Int)] 25) := ⟨_, rfl⟩
    rw [← hw0] at p0 p1 p2 p3 p4 HA0 ⊢
    have hg0 : ∀ v k, w0.cell? ⟨w.heap.size, k, none⟩ = some v → ∀ W, Below w0.heap.size w0 W → W.cell? ⟨w.heap.size, k, none⟩ = some v := fun v k h W hW => (hW.cell (p := ⟨w.heap.size, k, none⟩) (World.block_lt_of_cell? w0 _ h)).trans h
    have HP0 := Lib.hid (hg0 _ _ p0)
    have HP1 := Lib.hid (hg0 _ _ p1)
    have HP2 := Lib.hid (hg0 _ _ p2)
    have HP3 := Lib.hid (hg0 _ _ p3)
    have HP4 := Lib.hid (hg0 _ _ p4)
    clear hw0 hg0 p0 p1 p2 p3 p4
    refine (HMay.out w0 HA0.out).mono ?_
    rintro e w1 ⟨rfl, hb1⟩
    have HB1 := Lib.hid hb1
    have p0 := HP0.out w1 hb1
    clear hb1 HMay
    go_wp2_with fail
    refine (HNum.out n w1 hlen).mono ?_
    rintro e w2 ⟨A2, c2, rfl, _, hown2, hb2⟩
    rw [← HP.out] at hown2 ⊢
    obtain ⟨m3, hm3⟩ : ∃ m, m = P.length := ⟨_, rfl⟩
    rw [← hm3] at hown2 hP10 ⊢
    have HM3 := Lib.hid hm3
    have HS2 := Lib.hid (show PutS w1 (.slice A2 m3 c2) m3 P w2 from ⟨hown2, hb2⟩)
    clear hown2 hb2 hm3 p0
    go_wp2_with fail
    go_loopw [5, 6] (fun u i wr => ∃ (j k : Nat), i = .int .i64 j ∧ j ≤ n ∧ k = (P ++ Gr.puts pSt (qp.take j)).length ∧ PutS w1 u k (P ++ Gr.puts pSt (qp.take j)) wr) (fun _ i _ => n - (intOf i).toNat)
    case atStart => exact ⟨0, m3, rfl, Nat.zero_le _, by rw [List.take_zero, Gr.puts, List.append_nil]; exact HM3.out, by rw [List.take_zero, Gr.puts, List.append_nil]; exact HS2.out⟩
    case round =>
      obtain ⟨j, k, rfl, hj, hk, hputs⟩ := hrel
      have hk2 : k ≤ 5400 := by
        rw [hk, List.length_append, ← HM3.out]
        have := HPl.out j
        omega
      have HK := Lib.hid hk
      have HSr := Lib.hid hputs
      clear hk hputs HS2
      have hBw := bt HB1.out HSr.out.bel
      have p0 := HP0.out wr hBw
      by_cases hjn : j < n
      · obtain ⟨b1, q1, A1, c1, C1, d1, hix, hc, hfz⟩ := HT.out.at j (by rw [← HN.out]; exact hjn)
        have hok := HOk.out _ (getD_mem (p := qp) (j := j) (by rw [← HN.out]; exact hjn))
        have hmx := HMx.out _ (getD_mem (p := qp) (j := j) (by rw [← HN.out]; exact hjn))
        have hsn := take_snocSt (p := qp) (j := j) (by rw [← HN.out]; exact hjn)
        have hi' := fun W => hix W n c hjn
        have hW0 := bt HA0.out hBw
        obtain ⟨hcell, _, _⟩ := hc wr hW0
        have hops := fun W (h : Below w1.heap.size w1 W) => (hc W (bt HA0.out (bt HB1.out h))).2
        obtain ⟨x, hx⟩ : ∃ x, x = qp.getD j t0 := ⟨_, rfl⟩
        rw [← hx] at hcell hok hmx hsn
        simp only [← hx] at hops
        clear hx hc hix hfz hW0
        unfold CellSt at hcell
        have hpl1 := (pL_len hok.2.1.1 hok.2.1.2).2
        have hpn1 := pn_len hok.1
        have hno := @pSt_no x
        have hyes := @pSt_yes x
        have hpl2 : x.g = true → (pL x.h).length ≤ 634 := fun e => (pL_len (hok.2.2.2.2.2 e).2.1 (hok.2.2.2.2.2 e).2.2).2
        obtain ⟨xs, xf, xlo, xhi, xg, xt, xh⟩ := x
        obtain ⟨hs12, _, hlo, hhi, _, _⟩ := hok
        simp only at hcell hs12 hlo hhi hmx hsn hops hpl1 hpn1 hpl2 hno hyes
        obtain ⟨lo, rfl⟩ := Int.eq_ofNat_of_zero_le hlo.1
        obtain ⟨hi, rfl⟩ := Int.eq_ofNat_of_zero_le hhi.1
        simp only [Int.toNat_natCast] at hno hyes
        have hlo4 : lo ≤ 4 := by omega
        have hhi4 : hi ≤ 4 := by omega
        have hplo := putL_len64 (n := lo) (by omega)
        have hphi := putL_len64 (n := hi) (by omega)
        have HPut1 := Lib.hid (fun W (h : Below w1.heap.size w1 W) => Ex.refPutF_any xf A1 c1 W (hops W h).1)
        have HPut2 := Lib.hid (fun W (h : Below w1.heap.size w1 W) => Ex.refPutF_any xh C1 d1 W (hops W h).2)
        have hpv1 : ExM.pv xf = pL xf := by rw [ExM.pv, if_pos hmx.1]
        unfold Ex.PuttedF at HPut1 HPut2
        rw [hpv1, decide_eq_true hmx.1] at HPut1
        obtain ⟨n1, hn1⟩ : ∃ n, n = xf.length := ⟨_, rfl⟩
        obtain ⟨n2, hn2⟩ : ∃ n, n = xh.length := ⟨_, rfl⟩
        simp only [← hn1, ← hn2] at hcell
        rw [← hn1] at HPut1
        rw [← hn2] at HPut2
        obtain ⟨y0, y1, y2, y3, y4, y5, y6⟩ := hcell
        have HTx1 := Lib.hid (fun W => Sc.refText_any xs W (by omega))
        have HTx2 := Lib.hid (fun W (h : xt.size ≤ 12) => Sc.refText_any xt W (by omega))
        have HNo := Lib.hid hno
        have HYes := Lib.hid hyes
        have HSn := Lib.hid hsn
        have HMxx := Lib.hid hmx
        have HPl2 := Lib.hid hpl2
        obtain ⟨Y, hY⟩ : ∃ Y, Y = P ++ Gr.puts pSt (qp.take j) := ⟨_, rfl⟩
        rw [← hY] at HSr HK
        have HY := Lib.hid hY
        obtain ⟨m1, hm1⟩ : ∃ m, m = (pn xs).length := ⟨_, rfl⟩
        obtain ⟨m2, hm2⟩ : ∃ m, m = (pL xf).length := ⟨_, rfl⟩
        obtain ⟨m4, hm4⟩ : ∃ m, m = (putL lo).length := ⟨_, rfl⟩
        obtain ⟨m5, hm5⟩ : ∃ m, m = (putL hi).length := ⟨_, rfl⟩
        rw [← hm1] at hpn1
        replace hpn1 : m1 ≤ 13 := by omega
        rw [← hm2] at hpl1 HPut1
        rw [← hm4] at hplo
        rw [← hm5] at hphi
        unfold Sc.Bys at HTx1 HTx2
        rw [← hm1] at HTx1
        have HNlo := Lib.hid (fun W => HNum.out lo W (by omega))
        have HNhi := Lib.hid (fun W => HNum.out hi W (by omega))
        unfold PutSl at HNlo HNhi
        rw [← hm4] at HNlo
        rw [← hm5] at HNhi
        have HM1 := Lib.hid hm1
        have HM2 := Lib.hid hm2
        have HM4 := Lib.hid hm4
        have HM5 := Lib.hid hm5
        have ha10 := (Below.refl wr.heap.size wr).alloc (Nat.le_refl _) (.cells #[.string xs, .slice A1 n1 c1, .int .i64 (lo : Int), .int .i64 (hi : Int), .bool xg, .string xt, .slice C1 n2 d1] 47)
        have HX10 := Lib.hid (RG.bxN_new wr 47 [.string xs, .slice A1 n1 c1, .int .i64 (lo : Int), .int .i64 (hi : Int), .bool xg, .string xt, .slice C1 n2 d1])
        have HS10 := Lib.hid (HSr.out.kept ha10)
        have HNe10 := Lib.hid HSr.out.fresh
        have HW10 := Lib.hid ha10
        obtain ⟨x0, x1, x2, x3, x4, x5, x6⟩ := bx7 HX10.out
        obtain ⟨w10, hw10⟩ : ∃ w10, w10 = wr.alloc (.cells #[.string xs, .slice A1 n1 c1, .int .i64 (lo : Int), .int .i64 (hi : Int), .bool xg, .string xt, .slice C1 n2 d1] 47) := ⟨_, rfl⟩
        have HWe := Lib.hid hw10
        clear hpv1 hmx hno hyes hsn hops hpl2 hn1 hn2 hm1 hm2 hm4 hm5 hY ha10 hw10 hBw
        go_wp2_with fail
        rw [← HWe.out]
        simp only [List.toArray] at HX10
        have HX11 := Lib.hid (show RG.BxN w10 wr.heap.size [.string xs, .slice A1 n1 c1, .int .i64 (lo : Int), .int .i64 (hi : Int), .bool xg, .string xt, .slice C1 n2 d1] from by rw [HWe.out]; exact HX10.out)
        have HS11 := Lib.hid (show PutS w1 _ k Y w10 from by rw [HWe.out]; exact HS10.out)
        have HNe11 := HNe10
        clear HX10 HS10 HNe10 HW10 HWe y0 y1 y2 y3 y4 y5 y6 hi' p0 x0 x1 x2 x3 x4 x5 x6
        refine (HPut1.out w10 HS11.out.bel).mono ?_
        rintro e w12 ⟨A12, c12, rfl, hs12, hf12, hb12⟩
        have HS12 := Lib.hid (HS11.out.kept hb12)
        have HX12 := Lib.hid (HX11.out.kept hb12)
        have HBa_12 := Lib.hid hs12
        have HOa_12 := Lib.hid (off_new HS11.out hb12 hf12)
        clear hs12 hb12 hf12
        obtain ⟨x0, x1, x2, x3, x4, x5, x6⟩ := bx7 HX12.out
        go_wp2_with fail
        refine (HTx1.out w12).mono ?_
        rintro e w13 ⟨A13, c13, rfl, hs13, ho13, hb13⟩
        have HS13 := Lib.hid (HS12.out.kept hb13)
        have HX13 := Lib.hid (HX12.out.kept hb13)
        have HOa_13 := Lib.hid (HOa_12.out.kept hb13)
        have HBa_13 := Lib.hid (HBa_12.out.kept hb13)
        have HSb13 := Lib.hid hs13
        clear hs13 hb13 ho13
        clear x0 x1 x2 x3 x4 x5 x6
        have hz14 := HS13.out.size
        go_wp2_with (at_builtin; refine wp_append_bw rfl (.tmp 38) (.tmp 41) rfl w1.heap.size _ (k) (Y) rfl HS13.out.own A13 m1 c13 (pn xs) rfl HM1.out.symm HSb13.out.1 HSb13.out.2.2.1 (by omega) hz14 ?_; intro u14 w14 hown14 hg14 hw14; refine pause ?_)
        have HS14 := Lib.hid (HS13.out.grow hown14 hg14)
        have HX14 := Lib.hid (bxN_grow HX13.out HNe11.out hg14)
        have HNe14 := Lib.hid (ne_on hw14 (bx7_lt HX13.out) HNe11.out)
        have HOa_14 := Lib.hid (HOa_13.out.grow hw14 hg14)
        have HBa_14 := Lib.hid (slB_off HBa_13.out HOa_13.out hg14)
        clear hown14 hg14 hw14
        unfold Pause
        have hz15 := HS14.out.size
        go_wp2_with (at_builtin; refine wp_append_bw rfl (.tmp 43) (.tmp 44) rfl w1.heap.size _ (k + m1) (Y ++ pn xs) rfl HS14.out.own A12 m2 c12 (pL xf) rfl HM2.out.symm HBa_14.out.1 HBa_14.out.2.2.1 (by omega) hz15 ?_; intro u15 w15 hown15 hg15 hw15; refine pause ?_)
        have HS15 := Lib.hid (HS14.out.grow hown15 hg15)
        have HX15 := Lib.hid (bxN_grow HX14.out HNe14.out hg15)
        have HNe15 := Lib.hid (ne_on hw15 (bx7_lt HX14.out) HNe14.out)
        clear hown15 hg15 hw15
        unfold Pause
        obtain ⟨x0, x1, x2, x3, x4, x5, x6⟩ := bx7 HX15.out
        go_wp2_with fail
        refine (HNlo.out w15).mono ?_
        rintro e w16 ⟨A16, c16, rfl, hs16, ho16, hb16⟩
        have HS16 := Lib.hid (HS15.out.kept hb16)
        have HX16 := Lib.hid (HX15.out.kept hb16)
        have HSb16 := Lib.hid hs16
        clear hs16 hb16 ho16
        clear x0 x1 x2 x3 x4 x5 x6
        have hz17 := HS16.out.size
        go_wp2_with (at_builtin; refine wp_append_bw rfl (.tmp 46) (.tmp 49) rfl w1.heap.size _ (k + m1 + m2) (Y ++ pn xs ++ pL xf) rfl HS16.out.own A16 m4 c16 (putL lo) rfl HM4.out.symm HSb16.out.1 HSb16.out.2.2.1 (by omega) hz17 ?_; intro u17 w17 hown17 hg17 hw17; refine pause ?_)
        have HS17 := Lib.hid (HS16.out.grow hown17 hg17)
        have HX17 := Lib.hid (bxN_grow HX16.out HNe15.out hg17)
        have HNe17 := Lib.hid (ne_on hw17 (bx7_lt HX16.out) HNe15.out)
        clear hown17 hg17 hw17
        unfold Pause
        obtain ⟨x0, x1, x2, x3, x4, x5, x6⟩ := bx7 HX17.out
        go_wp2_with fail
        refine (HNhi.out w17).mono ?_
        rintro e w18 ⟨A18, c18, rfl, hs18, ho18, hb18⟩
        have HS18 := Lib.hid (HS17.out.kept hb18)
        have HX18 := Lib.hid (HX17.out.kept hb18)
        have HSb18 := Lib.hid hs18
        clear hs18 hb18 ho18
        clear x0 x1 x2 x3 x4 x5 x6
        have hz19 := HS18.out.size
        go_wp2_with (at_builtin; refine wp_append_bw rfl (.tmp 51) (.tmp 54) rfl w1.heap.size _ (k + m1 + m2 + m4) (Y ++ pn xs ++ pL xf ++ putL lo) rfl HS18.out.own A18 m5 c18 (putL hi) rfl HM5.out.symm HSb18.out.1 HSb18.out.2.2.1 (by omega) hz19 ?_; intro u19 w19 hown19 hg19 hw19; refine pause ?_)
        have HS19 := Lib.hid (HS18.out.grow hown19 hg19)
        have HX19 := Lib.hid (bxN_grow HX18.out HNe17.out hg19)
        have HNe19 := Lib.hid (ne_on hw19 (bx7_lt HX18.out) HNe17.out)
        clear hown19 hg19 hw19
        unfold Pause
        obtain ⟨x0, x1, x2, x3, x4, x5, x6⟩ := bx7 HX19.out
        cases xg
        · have hno := HNo.out rfl
          have ha20 := (Below.refl w19.heap.size w19).alloc (Nat.le_refl _) (.cells #[.int .u8 0] 5)
          have HN20 := Lib.hid (isB_new w19 [0] (by intro x hx; simp only [List.mem_singleton] at hx; omega))
          have HS20 := Lib.hid (HS19.out.kept ha20)
          have HX20 := Lib.hid (HX19.out.kept ha20)
          clear ha20
          have hz21 := HS20.out.size
          go_wp2_with (at_builtin; refine wp_append_bw rfl (.tmp 59) (.tmp 60) rfl w1.heap.size _ (k + m1 + m2 + m4 + m5) (Y ++ pn xs ++ pL xf ++ putL lo ++ putL hi) rfl HS20.out.own (some ⟨w19.heap.size, 0, none⟩) 1 1 ([0]) rfl rfl HN20.out (fun h => by cases h) (by omega) hz21 ?_; intro u21 w21 hown21 hg21 hw21; refine pause ?_)
          have HS21 := Lib.hid (HS20.out.grow hown21 hg21)
          have HX21 := Lib.hid (bxN_grow HX20.out HNe19.out hg21)
          have HNe21 := Lib.hid (ne_on hw21 (bx7_lt HX20.out) HNe19.out)
          clear hown21 hg21 hw21
          clear x0 x1 x2 x3 x4 x5 x6
          unfold Pause
          have he : Y ++ pn xs ++ pL xf ++ putL lo ++ putL hi ++ [0] = P ++ Gr.puts pSt (qp.take (j + 1)) := by
            rw [HSn.out, Gr.puts_snoc, hno, HY.out]
            simp only [List.append_assoc]
          have hfin := HS21.out
          rw [he] at hfin
          have HFin := Lib.hid hfin
          have HLn := Lib.hid (show k + m1 + m2 + m4 + m5 + 1 = (P ++ Gr.puts pSt (qp.take (j + 1))).length from by
            rw [← he]
            simp only [List.length_append, List.length_cons, List.length_nil, ← HM1.out, ← HM2.out, ← HM4.out, ← HM5.out, ← HK.out])
          clear he hfin hno
          go_wp2_with fail
          go_roundw
          case rel => exact ⟨j + 1, k + m1 + m2 + m4 + m5 + 1, by go_num, by omega, HLn.out, HFin.out⟩
          case measure => simp [intOf]; omega
        · have hyes := HYes.out rfl
          have hmh := HMxx.out.2.1 rfl
          have hmt := HMxx.out.2.2 rfl
          have hpl2 := HPl2.out rfl
          have hpn2 := pn_len hmt
          have hpv2 : ExM.pv xh = pL xh := by rw [ExM.pv, if_pos hmh]
          rw [hpv2, decide_eq_true hmh] at HPut2
          obtain ⟨m6, hm6⟩ : ∃ m, m = (pn xt).length := ⟨_, rfl⟩
          obtain ⟨m7, hm7⟩ : ∃ m, m = (pL xh).length := ⟨_, rfl⟩
          rw [← hm6] at hpn2
          replace hpn2 : m6 ≤ 13 := by omega
          rw [← hm7] at hpl2 HPut2
          have HTxx := Lib.hid (fun W => HTx2.out W hmt)
          rw [← hm6] at HTxx
          have HM6 := Lib.hid hm6
          have HM7 := Lib.hid hm7
          clear hm6 hm7 hpv2 hmh
          go_wp2_with fail
          refine (HPut2.out w19 HS19.out.bel).mono ?_
          rintro e w20 ⟨A20, c20, rfl, hs20, hf20, hb20⟩
          have HS20 := Lib.hid (HS19.out.kept hb20)
          have HX20 := Lib.hid (HX19.out.kept hb20)
          have HBb_20 := Lib.hid hs20
          have HOb_20 := Lib.hid (off_new HS19.out hb20 hf20)
          clear hs20 hb20 hf20
          clear x0 x1 x2 x3 x4 x5 x6
          have ha21 := (Below.refl w20.heap.size w20).alloc (Nat.le_refl _) (.cells #[.int .u8 1] 5)
          have HN21 := Lib.hid (isB_new w20 [1] (by intro x hx; simp only [List.mem_singleton] at hx; omega))
          have HS21 := Lib.hid (HS20.out.kept ha21)
          have HX21 := Lib.hid (HX20.out.kept ha21)
          have HOb_21 := Lib.hid (HOb_20.out.kept ha21)
          have HBb_21 := Lib.hid (HBb_20.out.kept ha21)
          clear ha21
          have hz22 := HS21.out.size
          go_wp2_with (at_builtin; refine wp_append_bw rfl (.tmp 68) (.tmp 69) rfl w1.heap.size _ (k + m1 + m2 + m4 + m5) (Y ++ pn xs ++ pL xf ++ putL lo ++ putL hi) rfl HS21.out.own (some ⟨w20.heap.size, 0, none⟩) 1 1 ([1]) rfl rfl HN21.out (fun h => by cases h) (by omega) hz22 ?_; intro u22 w22 hown22 hg22 hw22; refine pause ?_)
          have HS22 := Lib.hid (HS21.out.grow hown22 hg22)
          have HX22 := Lib.hid (bxN_grow HX21.out HNe19.out hg22)
          have HNe22 := Lib.hid (ne_on hw22 (bx7_lt HX21.out) HNe19.out)
          have HOb_22 := Lib.hid (HOb_21.out.grow hw22 hg22)
          have HBb_22 := Lib.hid (slB_off HBb_21.out HOb_21.out hg22)
          clear hown22 hg22 hw22
          unfold Pause
          obtain ⟨x0, x1, x2, x3, x4, x5, x6⟩ := bx7 HX22.out
          go_wp2_with fail
          refine (HTxx.out w22).mono ?_
          rintro e w23 ⟨A23, c23, rfl, hs23, ho23, hb23⟩
          have HS23 := Lib.hid (HS22.out.kept hb23)
          have HX23 := Lib.hid (HX22.out.kept hb23)
          have HOb_23 := Lib.hid (HOb_22.out.kept hb23)
          have HBb_23 := Lib.hid (HBb_22.out.kept hb23)
          have HSb23 := Lib.hid hs23
          clear hs23 hb23 ho23
          clear x0 x1 x2 x3 x4 x5 x6
          have hz24 := HS23.out.size
          go_wp2_with (at_builtin; refine wp_append_bw rfl (.tmp 71) (.tmp 74) rfl w1.heap.size _ (k + m1 + m2 + m4 + m5 + 1) (Y ++ pn xs ++ pL xf ++ putL lo ++ putL hi ++ [1]) rfl HS23.out.own A23 m6 c23 (pn xt) rfl HM6.out.symm HSb23.out.1 HSb23.out.2.2.1 (by omega) hz24 ?_; intro u24 w24 hown24 hg24 hw24; refine pause ?_)
          have HS24 := Lib.hid (HS23.out.grow hown24 hg24)
          have HX24 := Lib.hid (bxN_grow HX23.out HNe22.out hg24)
          have HNe24 := Lib.hid (ne_on hw24 (bx7_lt HX23.out) HNe22.out)
          have HOb_24 := Lib.hid (HOb_23.out.grow hw24 hg24)
          have HBb_24 := Lib.hid (slB_off HBb_23.out HOb_23.out hg24)
          clear hown24 hg24 hw24
          unfold Pause
          have hz25 := HS24.out.size
          go_wp2_with (at_builtin; refine wp_append_bw rfl (.tmp 76) (.tmp 77) rfl w1.heap.size _ (k + m1 + m2 + m4 + m5 + 1 + m6) (Y ++ pn xs ++ pL xf ++ putL lo ++ putL hi ++ [1] ++ pn xt) rfl HS24.out.own A20 m7 c20 (pL xh) rfl HM7.out.symm HBb_24.out.1 HBb_24.out.2.2.1 (by omega) hz25 ?_; intro u25 w25 hown25 hg25 hw25; refine pause ?_)
          have HS25 := Lib.hid (HS24.out.grow hown25 hg25)
          have HX25 := Lib.hid (bxN_grow HX24.out HNe24.out hg25)
          have HNe25 := Lib.hid (ne_on hw25 (bx7_lt HX24.out) HNe24.out)
          clear hown25 hg25 hw25
          unfold Pause
          have he : Y ++ pn xs ++ pL xf ++ putL lo ++ putL hi ++ [1] ++ pn xt ++ pL xh = P ++ Gr.puts pSt (qp.take (j + 1)) := by
            rw [HSn.out, Gr.puts_snoc, hyes, HY.out]
            simp only [List.append_assoc]
          have hfin := HS25.out
          rw [he] at hfin
          have HFin := Lib.hid hfin
          have HLn := Lib.hid (show k + m1 + m2 + m4 + m5 + 1 + m6 + m7 = (P ++ Gr.puts pSt (qp.take (j + 1))).length from by
            rw [← he]
            simp only [List.length_append, List.length_cons, List.length_nil, ← HM1.out, ← HM2.out, ← HM4.out, ← HM5.out, ← HM6.out, ← HM7.out, ← HK.out])
          clear he hfin hyes
          go_wp2_with fail
          go_roundw
          case rel => exact ⟨j + 1, k + m1 + m2 + m4 + m5 + 1 + m6 + m7, by go_num, by omega, HLn.out, HFin.out⟩
          case measure => simp [intOf]; omega
      · obtain rfl : j = n := by omega
        have hall : P ++ Gr.puts pSt (qp.take j) = P ++ Gr.puts pSt qp := by rw [HN.out, List.take_length]
        rw [hall] at HSr HK
        obtain ⟨Z, hZ⟩ : ∃ Z, Z = P ++ Gr.puts pSt qp := ⟨_, rfl⟩
        rw [← hZ] at HSr HK
        have HZ := Lib.hid hZ
        have p1 := HP1.out wr hBw
        clear hall hZ hBw
        have hq0 := putL_len64 (n := nw) (by omega)
        obtain ⟨e0, hm0⟩ : ∃ m, m = (putL nw).length := ⟨_, rfl⟩
        have HC0 := Lib.hid (fun W => HNum.out nw W (by omega))
        unfold PutSl at HC0
        rw [← hm0] at HC0 hq0
        have HE0 := Lib.hid hm0
        clear hm0
        go_wp2_with fail
        refine (HC0.out _).mono ?_
        rintro e v0 ⟨B0, c0, rfl, hs0, _, hb0⟩
        have HSc0 := Lib.hid (HSr.out.kept hb0)
        have HSe0 := Lib.hid hs0
        have hzz0 := HSc0.out.size
        clear hs0 hb0 p1 HC0
        go_wp2_with (at_builtin; refine wp_append_bw rfl (.tmp 79) (.tmp 82) rfl w1.heap.size _ (k) (Z) rfl HSc0.out.own B0 e0 c0 (putL nw) rfl HE0.out.symm HSe0.out.1 HSe0.out.2.2.1 (by omega) hzz0 ?_; intro uu0 vv0 hown0 hg0 hw0; refine pause ?_)
        have HSt0 := Lib.hid (HSc0.out.grow hown0 hg0)
        clear hown0 hg0 hw0
        unfold Pause
        have p2 := HP2.out vv0 (bt HB1.out HSt0.out.bel)
        have hq1 := putL_len64 (n := na) (by omega)
        obtain ⟨e1, hm1⟩ : ∃ m, m = (putL na).length := ⟨_, rfl⟩
        have HC1 := Lib.hid (fun W => HNum.out na W (by omega))
        unfold PutSl at HC1
        rw [← hm1] at HC1 hq1
        have HE1 := Lib.hid hm1
        clear hm1
        go_wp2_with fail
        refine (HC1.out _).mono ?_
        rintro e v1 ⟨B1, c1, rfl, hs1, _, hb1⟩
        have HSc1 := Lib.hid (HSt0.out.kept hb1)
        have HSe1 := Lib.hid hs1
        have hzz1 := HSc1.out.size
        clear hs1 hb1 p2 HC1
        go_wp2_with (at_builtin; refine wp_append_bw rfl (.tmp 84) (.tmp 87) rfl w1.heap.size _ (k + e0) (Z ++ putL nw) rfl HSc1.out.own B1 e1 c1 (putL na) rfl HE1.out.symm HSe1.out.1 HSe1.out.2.2.1 (by omega) hzz1 ?_; intro uu1 vv1 hown1 hg1 hw1; refine pause ?_)
        have HSt1 := Lib.hid (HSc1.out.grow hown1 hg1)
        clear hown1 hg1 hw1
        unfold Pause
        have p3 := HP3.out vv1 (bt HB1.out HSt1.out.bel)
        have hq2 := putL_len64 (n := ni) (by omega)
        obtain ⟨e2, hm2⟩ : ∃ m, m = (putL ni).length := ⟨_, rfl⟩
        have HC2 := Lib.hid (fun W => HNum.out ni W (by omega))
        unfold PutSl at HC2
        rw [← hm2] at HC2 hq2
        have HE2 := Lib.hid hm2
        clear hm2
        go_wp2_with fail
        refine (HC2.out _).mono ?_
        rintro e v2 ⟨B2, c2, rfl, hs2, _, hb2⟩
        have HSc2 := Lib.hid (HSt1.out.kept hb2)
        have HSe2 := Lib.hid hs2
        have hzz2 := HSc2.out.size
        clear hs2 hb2 p3 HC2
        go_wp2_with (at_builtin; refine wp_append_bw rfl (.tmp 89) (.tmp 92) rfl w1.heap.size _ (k + e0 + e1) (Z ++ putL nw ++ putL na) rfl HSc2.out.own B2 e2 c2 (putL ni) rfl HE2.out.symm HSe2.out.1 HSe2.out.2.2.1 (by omega) hzz2 ?_; intro uu2 vv2 hown2 hg2 hw2; refine pause ?_)
        have HSt2 := Lib.hid (HSc2.out.grow hown2 hg2)
        clear hown2 hg2 hw2
        unfold Pause
        have p4 := HP4.out vv2 (bt HB1.out HSt2.out.bel)
        have hq3 := putL_len64 (n := nf) (by omega)
        obtain ⟨e3, hm3⟩ : ∃ m, m = (putL nf).length := ⟨_, rfl⟩
        have HC3 := Lib.hid (fun W => HNum.out nf W (by omega))
        unfold PutSl at HC3
        rw [← hm3] at HC3 hq3
        have HE3 := Lib.hid hm3
        clear hm3
        go_wp2_with fail
        refine (HC3.out _).mono ?_
        rintro e v3 ⟨B3, c3, rfl, hs3, _, hb3⟩
        have HSc3 := Lib.hid (HSt2.out.kept hb3)
        have HSe3 := Lib.hid hs3
        have hzz3 := HSc3.out.size
        clear hs3 hb3 p4 HC3
        go_wp2_with (at_builtin; refine wp_append_bw rfl (.tmp 94) (.tmp 97) rfl w1.heap.size _ (k + e0 + e1 + e2) (Z ++ putL nw ++ putL na ++ putL ni) rfl HSc3.out.own B3 e3 c3 (putL nf) rfl HE3.out.symm HSe3.out.1 HSe3.out.2.2.1 (by omega) hzz3 ?_; intro uu3 vv3 hown3 hg3 hw3; refine pause ?_)
        have HSt3 := Lib.hid (HSc3.out.grow hown3 hg3)
        clear hown3 hg3 hw3
        unfold Pause
        have he : Z ++ putL nw ++ putL na ++ putL ni ++ putL nf = P ++ (Gr.puts pSt qp ++ (putL nw ++ (putL na ++ (putL ni ++ putL nf)))) := by
          rw [HZ.out]
          simp only [List.append_assoc]
        have hfin := HSt3.out.own
        rw [he] at hfin
        have hpb := HPb.out
        rw [← HP.out] at hpb
        obtain ⟨A9, c9, hu9, hl9, h9, _⟩ := own_slB hfin hpb
        have HS9 := Lib.hid h9
        have HB9 := Lib.hid (bt HA0.out (bt HB1.out HSt3.out.bel))
        subst hu9
        clear he hfin hpb h9 hl9
        go_wp2_with fail
        go_ret2
        exact ⟨A9, c9, ret_v (by rw [← HP.out]; rfl), (by rw [← HP.out]; exact HS9.out), HB9.out⟩
  · have hpv : QyM.pv q = [] := by rw [QyM.pv, if_neg hmay]
    simp only [decide_eq_false hmay] at hm1
    rw [decide_eq_false hmay, hpv]
    obtain ⟨qp, qw, qa, qi, qf⟩ := q
    simp only at hT hlen hm1 hX0 ha
    simp only
    obtain ⟨n, hn⟩ : ∃ n, n = qp.length := ⟨_, rfl⟩
    simp only [← hn] at hlen hm1 hX0 ha
    rw [← hn]
    have HMay := Lib.hid hm1
    have HA0 := Lib.hid ha
    obtain ⟨p0, p1, p2, p3, p4⟩ := hX0
    clear hn hT hm1 ha hmay hpv hpvb hr
    go_enter Tryz.func10, Tryz.ntmps10
    go_wp2_with fail
    refine (HMay.out _ HA0.out).mono ?_
    rintro e w1 ⟨rfl, hb1⟩
    have HB1 := Lib.hid (bt HA0.out hb1)
    clear hb1 HMay p0 p1 p2 p3 p4
    go_wp2_with fail
    go_ret2
    exact ⟨none, 0, rfl, slB_none _, HB1.out⟩
end Go.Proofs.YtbmdkibmfkmjoaaGreat.Qy

namespace Go.Proofs.YtbmdkibmfkmjoaaGreat.Sc
open Go.RowKit Go.Proofs.YtbmdkibmfkmjoaaGreat.BM Go.Proofs.YtbmdkibmfkmjoaaGreat.VaM Go.Proofs.YtbmdkibmfkmjoaaGreat.Va Go.Proofs.YtbmdkibmfkmjoaaGreat.ScM

set_option maxRecDepth 100000 in
set_option maxHeartbeats 4000000 in
theorem refMay_any (s : Sc) (A : Option Addr) (c : Nat) (w : World) (hS : SlF w A s.f c) (hz : Fine s) :
    Calls Tryz.prog 62 #[.agg #[.string s.s, .int .i64 s.v, .slice A s.f.length c]] w fun e w' => e = .returned (.bool (decide (May s))) ∧ Below w.heap.size w w' := by
  obtain ⟨nm, v, l⟩ := s
  simp only at hS ⊢
  have hl := slF_len hS
  have HN := Lib.hid (fun W => refName_any nm W hz.1)
  have hmay : May ⟨nm, v, l⟩ ↔ Nm nm ∧ 1 ≤ v ∧ v ≤ 1000 ∧ l.length ≤ 6 ∧ Gd l l.length := Iff.rfl
  obtain ⟨n, hn⟩ : ∃ n, n = l.length := ⟨_, rfl⟩
  rw [← hn] at hl hmay ⊢
  have HLen := Lib.hid hn
  have HS := Lib.hid hS
  have HMay := Lib.hid hmay
  have HX0 := Lib.hid (bx_new_t w 40 (.string nm) (.int .i64 v) (.slice A n c))
  have HB0 := Lib.hid ((Below.refl w.heap.size w).alloc (Nat.le_refl _) (.cells #[.string nm, .int .i64 v, .slice A n c] 40))
  clear hn hS hmay hz
  obtain ⟨⟨p0, p1, p2⟩, _⟩ := HX0.out
  go_enter Tryz.func62, Tryz.ntmps62
  go_wp2_with fail
  refine (HN.out _).mono ?_
  rintro e w1 ⟨rfl, rfl⟩
  obtain ⟨w1, hw1⟩ : ∃ w1, w1 = w.alloc (.cells #[.string nm, .int .i64 v, .slice A n c] 40) := ⟨_, rfl⟩
  rw [← hw1] at HB0 HX0 p0 p1 p2 ⊢
  clear HN hw1
  have hways : ¬ Nm nm ∨ (Nm nm ∧ v < 1) ∨ (Nm nm ∧ 1 ≤ v ∧ 1000 < v) ∨ (Nm nm ∧ 1 ≤ v ∧ v ≤ 1000 ∧ 6 < n) ∨ (Nm nm ∧ 1 ≤ v ∧ v ≤ 1000 ∧ n ≤ 6) := by
    by_cases h : Nm nm
    · simp only [h, true_and, not_true, false_or]
      omega
    · exact Or.inl h
  rcases hways with m1 | ⟨m1, m2⟩ | ⟨m1, m2, m3⟩ | ⟨m1, m2, m3, m4⟩ | ⟨m1, m2, m3, m4⟩
  · rw [decide_eq_false m1]
    have HM := Lib.hid (show ¬ May ⟨nm, v, l⟩ from fun h => m1 (HMay.out.1 h).1)
    clear m1
    go_wp2_with fail
    go_ret
    exact ⟨ret_v (x := .bool false) (by rw [decide_eq_false HM.out]), HB0.out⟩
  · rw [decide_eq_true m1]
    have HM := Lib.hid (show ¬ May ⟨nm, v, l⟩ from fun h => by have := (HMay.out.1 h).2.1; omega)
    clear m1
    go_wp2_with fail
    go_ret
    exact ⟨ret_v (x := .bool false) (by rw [decide_eq_false HM.out]), HB0.out⟩
  · rw [decide_eq_true m1]
    have HM := Lib.hid (show ¬ May ⟨nm, v, l⟩ from fun h => by have := (HMay.out.1 h).2.2.1; omega)
    clear m1
    go_wp2_with fail
    go_ret
    exact ⟨ret_v (x := .bool false) (by rw [decide_eq_false HM.out]), HB0.out⟩
  · rw [decide_eq_true m1]
    have HM := Lib.hid (show ¬ May ⟨nm, v, l⟩ from fun h => by have := (HMay.out.1 h).2.2.2.1; omega)
    clear m1
    go_wp2_with fail
    go_ret
    exact ⟨ret_v (x := .bool false) (by rw [decide_eq_false HM.out]), HB0.out⟩
  · rw [decide_eq_true m1]
    have HM := Lib.hid (show May ⟨nm, v, l⟩ ↔ Gd l n from ⟨fun h => (HMay.out.1 h).2.2.2.2, fun h => HMay.out.2 ⟨m1, m2, m3, m4, h⟩⟩)
    clear m1 HMay
    go_wp2_with fail
    clear p0 p1 p2
    go_loopw [4] (fun i wr => ∃ j : Nat, i = .int .i64 j ∧ j ≤ n ∧ Gd l j ∧ Below w1.heap.size w1 wr) (fun i _ => n - (intOf i).toNat)
    case atStart => exact ⟨0, rfl, Nat.zero_le _, fun r hr => absurd hr (Nat.not_lt_zero r), Below.refl _ _⟩
    case round =>
      obtain ⟨j, rfl, hj, hgood, hbel⟩ := hrel
      have HG := Lib.hid hgood
      have HBl := Lib.hid hbel
      clear hgood hbel
      obtain ⟨⟨_, _, x2⟩, _⟩ := HX0.out.kept HBl.out
      by_cases hjn : j < n
      · obtain ⟨b, q, hix, hc, hsz⟩ := HS.out.at j (by rw [← HLen.out]; exact hjn)
        have hiff : GdAt l j ↔ FOk (l.getD j d0) ∧ ¬ Has (l.take j) (l.getD j d0).s := Iff.rfl
        obtain ⟨⟨fs, fk⟩, hf⟩ : ∃ f, f = l.getD j d0 := ⟨_, rfl⟩
        rw [← hf] at hc hsz hiff
        obtain ⟨c0, c1⟩ := hc wr (bt HB0.out HBl.out)
        simp only at c0 c1 hsz hiff
        rw [has_take (by rw [← HLen.out]; exact hj)] at hiff
        have hi := fun W => hix W n c hjn
        have HIff := Lib.hid hiff
        have HC := Lib.hid hc
        have HNf := Lib.hid (fun W => refName_any fs W hsz)
        clear hc hix hf hiff
        go_wp2_with fail
        refine (HNf.out _).mono ?_
        rintro e w2 ⟨rfl, rfl⟩
        have hfw : ¬ Nm fs ∨ (Nm fs ∧ fk < 0) ∨ (Nm fs ∧ 0 ≤ fk ∧ 4 ≤ fk) ∨ (Nm fs ∧ 0 ≤ fk ∧ fk < 4) := by
          by_cases h : Nm fs
          · simp only [h, true_and, not_true, false_or]
            omega
          · exact Or.inl h
        rcases hfw with k1 | ⟨k1, k2⟩ | ⟨k1, k2, k3⟩ | ⟨k1, k2, k3⟩
        · rw [decide_eq_false k1]
          have HNo := Lib.hid (show ¬ May ⟨nm, v, l⟩ from fun h => k1 (HIff.out.1 (HM.out.1 h j hjn)).1.1)
          clear k1
          go_wp2_with fail
          go_ret
          exact ⟨ret_v (x := .bool false) (by rw [decide_eq_false HNo.out]), bt HB0.out HBl.out⟩
        · rw [decide_eq_true k1]
          have HNo := Lib.hid (show ¬ May ⟨nm, v, l⟩ from fun h => by have := (HIff.out.1 (HM.out.1 h j hjn)).1.2.1; simp only at this; omega)
          clear k1
          go_wp2_with fail
          go_ret
          exact ⟨ret_v (x := .bool false) (by rw [decide_eq_false HNo.out]), bt HB0.out HBl.out⟩
        · rw [decide_eq_true k1]
          have HNo := Lib.hid (show ¬ May ⟨nm, v, l⟩ from fun h => by have := (HIff.out.1 (HM.out.1 h j hjn)).1.2.2; simp only at this; omega)
          clear k1
          go_wp2_with fail
          go_ret
          exact ⟨ret_v (x := .bool false) (by rw [decide_eq_false HNo.out]), bt HB0.out HBl.out⟩
        · have HOk := Lib.hid (show FOk ⟨fs, fk⟩ from ⟨k1, k2, k3⟩)
          rw [decide_eq_true k1]
          clear k1
          go_wp2_with fail
          clear c0 c1 x2
          go_loopw [6] (fun i wt => ∃ r : Nat, i = .int .i64 r ∧ r ≤ j ∧ (∀ x, x < r → (l.getD x d0).s ≠ fs) ∧ Below w1.heap.size w1 wt) (fun i _ => j - (intOf i).toNat)
          case atStart => exact ⟨0, rfl, Nat.zero_le _, fun r hr => absurd hr (Nat.not_lt_zero r), HBl.out⟩
          case round =>
            obtain ⟨r, rfl, hr, hne, hbel⟩ := hrel
            have HNe := Lib.hid hne
            have HBt := Lib.hid hbel
            clear hne hbel
            by_cases hrj : r < j
            · obtain ⟨b', q', hix', hc', _⟩ := HS.out.at r (by rw [← HLen.out]; omega)
              obtain ⟨⟨gs, gk⟩, hg⟩ : ∃ f, f = l.getD r d0 := ⟨_, rfl⟩
              rw [← hg] at hc'
              have HGs := Lib.hid hg
              have hi' := fun W => hix' W n c (by omega)
              obtain ⟨⟨_, _, x2⟩, _⟩ := HX0.out.kept HBt.out
              obtain ⟨c0, _⟩ := HC.out wr (bt HB0.out HBt.out)
              obtain ⟨g0, _⟩ := hc' wr (bt HB0.out HBt.out)
              simp only at c0 g0
              clear hc' hix' hg
              by_cases he : gs = fs
              · have hee : (gs.toList == fs.toList) = true := by rw [he]; simp
                have HNo := Lib.hid (show ¬ May ⟨nm, v, l⟩ from fun h => (HIff.out.1 (HM.out.1 h j hjn)).2 r hrj (by rw [← HGs.out]; exact he))
                clear he
                go_wp2_with fail
                go_quiet (fail)
                go_wp2_with fail
                go_ret
                exact ⟨ret_v (x := .bool false) (by rw [decide_eq_false HNo.out]), below_drewN (bt HB0.out HBt.out) _⟩
              · have hee := str_ne he
                have HE := Lib.hid he
                clear he
                go_wp2_with fail
                go_quiet (fail)
                go_wp2_with fail
                go_roundw
                case rel =>
                  refine ⟨r + 1, by go_num, by omega, fun x hx => ?_, below_drewN HBt.out _⟩
                  by_cases e : x = r
                  · rw [e, ← HGs.out]
                    exact HE.out
                  · exact HNe.out x (by omega)
                case measure => simp [intOf]; omega
            · obtain rfl : r = j := by omega
              have HGo := Lib.hid (HG.out.succ (HIff.out.2 ⟨HOk.out, HNe.out⟩))
              go_wp2_with fail
              go_roundw
              case rel => exact ⟨r + 1, by go_num, by omega, HGo.out, HBt.out⟩
              case measure => simp [intOf]; omega
      · obtain rfl : j = n := by omega
        have HYes := Lib.hid (HM.out.2 HG.out)
        go_wp2_with fail
        go_ret
        exact ⟨ret_v (x := .bool true) (by rw [decide_eq_true HYes.out]), bt HB0.out HBl.out⟩
end Go.Proofs.YtbmdkibmfkmjoaaGreat.Sc

namespace Go.Proofs.YtbmdkibmfkmjoaaGreat.Rg
open Go.RowKit Go.Proofs.YtbmdkibmfkmjoaaGreat.BM Go.Proofs.YtbmdkibmfkmjoaaGreat.VaM Go.Proofs.YtbmdkibmfkmjoaaGreat.Va Go.Proofs.YtbmdkibmfkmjoaaGreat.Sc Go.Proofs.YtbmdkibmfkmjoaaGreat.RgM
open Go.Proofs.YtbmdkibmfkmjoaaGreat.ScM (Sc)

set_option maxRecDepth 100000 in
set_option maxHeartbeats 1000000 in
theorem refAt_any (l : List Sc) (nm : ByteArray) (A : Option Addr) (c : Nat) (w : World) (hS : SlS w A l c) :
    Calls Tryz.prog 63 #[.slice A l.length c, .string nm] w fun e w' => e = .returned (.int .i64 (atI l nm)) ∧ w = w' := by
  have hl := slS_len hS
  have hyes := fun j => @atI_some l nm j
  have hno := @atI_none l nm
  obtain ⟨R, hR⟩ : ∃ R, R = atI l nm := ⟨_, rfl⟩
  rw [← hR] at hno ⊢
  simp only [← hR] at hyes
  obtain ⟨n, hn⟩ : ∃ n, n = l.length := ⟨_, rfl⟩
  rw [← hn] at hl hno ⊢
  simp only [← hn] at hyes
  have HLen := Lib.hid hn
  have HS := Lib.hid hS
  have HYes := Lib.hid hyes
  have HNo := Lib.hid hno
  clear hn hS hyes hno hR
  go_enter Tryz.func63, Tryz.ntmps63
  go_wp2_with fail
  go_loopw [5] (fun i wr => ∃ j : Nat, i = .int .i64 j ∧ j ≤ n ∧ (∀ r, r < j → (l.getD r s0).s ≠ nm) ∧ wr = w) (fun i _ => n - (intOf i).toNat)
  case atStart => exact ⟨0, rfl, Nat.zero_le _, fun r hr => absurd hr (Nat.not_lt_zero r), rfl⟩
  case round =>
    obtain ⟨j, rfl, hj, hne, rfl⟩ := hrel
    have HNe := Lib.hid hne
    clear hne
    by_cases hjn : j < n
    · obtain ⟨b, q, A1, c1, hix, hc, _⟩ := HS.out.at j (by rw [← HLen.out]; exact hjn)
      obtain ⟨fs, hf⟩ : ∃ f, f = (l.getD j s0).s := ⟨_, rfl⟩
      obtain ⟨⟨x0, _⟩, _⟩ := hc wr (Below.refl _ _)
      rw [← hf] at x0
      have hi := fun W => hix W n c hjn
      have HF := Lib.hid hf
      clear hc hix hf
      by_cases he : fs = nm
      · have hee : (fs.toList == nm.toList) = true := by rw [he]; simp
        have HR := Lib.hid (show (j : Int) = R from (HYes.out j hjn (by rw [← HF.out]; exact he) HNe.out).symm)
        clear he
        go_wp2_with fail
        go_ret
        exact ⟨ret_v (x := .int .i64 (j : Int)) (by rw [HR.out]), rfl⟩
      · have hee := str_ne he
        have HE := Lib.hid he
        clear he
        go_wp2_with fail
        go_roundw
        case rel =>
          refine ⟨j + 1, by go_num, by omega, fun r hr => ?_, by trivial⟩
          by_cases e : r = j
          · rw [e, ← HF.out]
            exact HE.out
          · exact HNe.out r (by omega)
        case measure => simp [intOf]; omega
    · obtain rfl : j = n := by omega
      have HR := Lib.hid (show (-1 : Int) = R from (HNo.out HNe.out).symm)
      go_wp2_with fail
      go_ret
      exact ⟨ret_v (x := .int .i64 (-1)) (by rw [HR.out]), rfl⟩

set_option maxRecDepth 100000 in
set_option maxHeartbeats 2000000 in
theorem refMay_any (l : List Sc) (A : Option Addr) (c : Nat) (w : World) (hS : SlS w A l c) :
    Calls Tryz.prog 37 #[.slice A l.length c] w fun e w' => e = .returned (.bool (decide (May l))) ∧ Below w.heap.size w w' := by
  have hl := slS_len hS
  have hmay : May l ↔ LGd l l.length ∧ l.length ≤ 8 := Iff.rfl
  have hat := fun W (h : Below w.heap.size w W) nm => refAt_any l nm A c W (hS.kept h)
  have hself := fun j => @at_self l j
  obtain ⟨n, hn⟩ : ∃ n, n = l.length := ⟨_, rfl⟩
  rw [← hn] at hl hmay ⊢
  simp only [← hn] at hat hself
  have HLen := Lib.hid hn
  have HS := Lib.hid hS
  have HMay := Lib.hid hmay
  have HAt := Lib.hid hat
  have HSelf := Lib.hid hself
  clear hn hS hmay hat hself
  go_enter Tryz.func37, Tryz.ntmps37
  go_wp2_with fail
  go_loopw [3] (fun i wr => ∃ j : Nat, i = .int .i64 j ∧ j ≤ n ∧ LGd l j ∧ Below w.heap.size w wr) (fun i _ => n - (intOf i).toNat)
  case atStart => exact ⟨0, rfl, Nat.zero_le _, fun r hr => absurd hr (Nat.not_lt_zero r), Below.refl _ _⟩
  case round =>
    obtain ⟨j, rfl, hj, hgood, hbel⟩ := hrel
    have HG := Lib.hid hgood
    have HBl := Lib.hid hbel
    clear hgood hbel
    by_cases hjn : j < n
    · obtain ⟨b, q, A1, c1, hix, hc, hfine⟩ := HS.out.at j (by rw [← HLen.out]; exact hjn)
      obtain ⟨i0, hi0, hs0⟩ := HSelf.out j hjn
      have hiff : (ScM.May (l.getD j s0) ∧ At l (l.getD j s0).s = some j) ↔ ScM.May (l.getD j s0) ∧ i0 = j := by rw [hs0]; simp
      have hats : atI l (l.getD j s0).s = (i0 : Int) := by unfold atI; rw [hs0]
      obtain ⟨f, hf⟩ : ∃ f, f = l.getD j s0 := ⟨_, rfl⟩
      rw [← hf] at hc hfine hiff hats
      obtain ⟨⟨x0, x1, x2⟩, y0⟩ := hc wr HBl.out
      have HC := Lib.hid hc
      have HM5 := Lib.hid (fun W (h : Below w.heap.size w W) => Go.Proofs.YtbmdkibmfkmjoaaGreat.Sc.refMay_any f A1 c1 W (hc W h).2 hfine)
      have hi := fun W => hix W n c hjn
      have HF := Lib.hid hf
      have HIff := Lib.hid hiff
      have HAts := Lib.hid hats
      clear hc hix hf hs0 y0 hfine hiff hats
      obtain ⟨fs, fv, ff⟩ := f
      simp only at x0 x1 x2 HM5 HAts HC
      obtain ⟨k, hk⟩ : ∃ k, k = ff.length := ⟨_, rfl⟩
      simp only [← hk] at x0 x1 x2 HM5
      clear hk
      go_wp2_with fail
      refine (HM5.out wr HBl.out).mono ?_
      rintro e w2 ⟨rfl, hb2⟩
      have HB2 := Lib.hid (bt HBl.out hb2)
      clear hb2 x0 x1 x2
      by_cases hm5 : ScM.May ⟨fs, fv, ff⟩
      · rw [decide_eq_true hm5]
        have HM := Lib.hid hm5
        clear hm5
        obtain ⟨⟨x0, x1, x2⟩, _⟩ := HC.out w2 HB2.out
        simp only at x0 x1 x2
        have HAt2 := Lib.hid (HAt.out w2 HB2.out fs)
        rw [HAts.out] at HAt2
        go_wp2_with fail
        refine HAt2.out.mono ?_
        rintro e w3 ⟨rfl, rfl⟩
        by_cases hlt : i0 < j
        · have hd : decide (i0 < j) = true := decide_eq_true hlt
          have HNo := Lib.hid (show ¬ May l from fun h => by
            have h1 := (HMay.out.1 h).1 j hjn
            rw [← HF.out] at h1
            have := (HIff.out.1 h1).2
            omega)
          clear hlt
          go_wp2_with fail
          go_ret
          exact ⟨ret_v (x := .bool false) (by rw [decide_eq_false HNo.out]), HB2.out⟩
        · have hd : decide (i0 < j) = false := decide_eq_false hlt
          have HGo := Lib.hid (HG.out.succ (by rw [← HF.out]; exact HIff.out.2 ⟨HM.out, by omega⟩))
          clear hlt
          go_wp2_with fail
          go_roundw
          case rel => exact ⟨j + 1, by go_num, by omega, HGo.out, HB2.out⟩
          case measure => simp [intOf]; omega
      · rw [decide_eq_false hm5]
        have HNo := Lib.hid (show ¬ May l from fun h => hm5 (by
          have h1 := (HMay.out.1 h).1 j hjn
          rw [← HF.out] at h1
          exact (HIff.out.1 h1).1))
        clear hm5
        go_wp2_with fail
        go_ret
        exact ⟨ret_v (x := .bool false) (by rw [decide_eq_false HNo.out]), HB2.out⟩
    · obtain rfl : j = n := by omega
      have HYes := Lib.hid (show May l ↔ j ≤ 8 from ⟨fun h => (HMay.out.1 h).2, fun h => HMay.out.2 ⟨HG.out, h⟩⟩)
      by_cases h8 : j ≤ 8
      · have hd : decide ((j : Int) ≤ 8) = true := by rw [decide_eq_true_iff]; omega
        have HY := Lib.hid (HYes.out.2 h8)
        clear h8
        go_wp2_with fail
        go_ret
        exact ⟨ret_v (x := .bool true) (by rw [decide_eq_true HY.out]), HBl.out⟩
      · have hd : decide ((j : Int) ≤ 8) = false := by rw [decide_eq_false_iff_not]; omega
        have HY := Lib.hid (fun h => h8 (HYes.out.1 h))
        clear h8
        go_wp2_with fail
        go_ret
        exact ⟨ret_v (x := .bool false) (by rw [decide_eq_false HY.out]), HBl.out⟩
end Go.Proofs.YtbmdkibmfkmjoaaGreat.Rg

namespace Go.Proofs.YtbmdkibmfkmjoaaGreat.Rg
open Go.RowKit Go.Proofs.YtbmdkibmfkmjoaaGreat.BM Go.Proofs.YtbmdkibmfkmjoaaGreat.VaM Go.Proofs.YtbmdkibmfkmjoaaGreat.Va Go.Proofs.YtbmdkibmfkmjoaaGreat.Sc Go.Proofs.YtbmdkibmfkmjoaaGreat.RgM
open Go.Proofs.YtbmdkibmfkmjoaaGreat.ScM (Sc)

set_option maxRecDepth 100000 in
set_option maxHeartbeats 2000000 in
theorem refFind_any (l : List Sc) (nm : ByteArray) (A : Option Addr) (c : Nat) (w : World) (hS : SlS w A l c) :
    Calls Tryz.prog 39 #[.slice A l.length c, .string nm] w (Found l nm w) := by
  have hB1 := (Below.refl w.heap.size w).alloc (Nat.le_refl _) (.cells #[.string ⟨#[]⟩, .int .i64 0, .slice none 0 0] 40)
  have HZ1 := Lib.hid (bx_new_t w 40 (.string ⟨#[]⟩) (.int .i64 0) (.slice none 0 0))
  have hat := fun W (h : Below w.heap.size w W) => refAt_any l nm A c W (hS.kept h)
  have HB1 := Lib.hid hB1
  have HAt := Lib.hid hat
  obtain ⟨n, hn⟩ : ∃ n, n = l.length := ⟨_, rfl⟩
  rw [← hn] at HAt ⊢
  have HLen := Lib.hid hn
  have HS := Lib.hid hS
  clear hn hS hat hB1
  go_enter Tryz.func39, Tryz.ntmps39
  go_wp2_with fail
  obtain ⟨w1, hw1⟩ : ∃ w1, w1 = w.alloc (.cells #[.string ⟨#[]⟩, .int .i64 0, .slice none 0 0] 40) := ⟨_, rfl⟩
  rw [← hw1] at HB1 HZ1 ⊢
  clear hw1
  refine (HAt.out w1 HB1.out).mono ?_
  rintro e w2 ⟨rfl, rfl⟩
  cases h : At l nm with
  | none =>
    have hi : atI l nm = -1 := by unfold atI; rw [h]
    rw [hi]
    have HFi := Lib.hid (find_no h)
    clear h hi
    have hst := bx_store HZ1.out (.string ⟨#[]⟩) (.int .i64 0) (.slice none 0 0)
    obtain ⟨⟨g0, g1, g2⟩, _⟩ := hst
    have G0 := Lib.hid g0
    have G1 := Lib.hid g1
    have G2 := Lib.hid g2
    have HF := Lib.hid (stored3 HB1.out (Nat.le_refl _) (.string ⟨#[]⟩) (.int .i64 0) (.slice none 0 0))
    obtain ⟨⟨p0, p1, p2⟩, p3, p4, p5⟩ := HZ1.out
    clear g0 g1 g2
    go_wp2_with fail
    obtain ⟨W2, hW2⟩ : ∃ W2, W2 = ((w1.setCell ⟨w.heap.size, 0, none⟩ (.string ⟨#[]⟩)).setCell ⟨w.heap.size, 1, none⟩ (.int .i64 0)).setCell ⟨w.heap.size, 2, none⟩ (.slice none 0 0) := ⟨_, rfl⟩
    rw [← hW2] at HF G0 G1 G2 ⊢
    have g0 := G0.out
    have g1 := G1.out
    have g2 := G2.out
    clear hW2 p0 p1 p2 p3 p4 p5
    exact bodyPost_ret (v := .tuple #[.agg #[.string ⟨#[]⟩, .int .i64 0, .slice none 0 0], .bool false]) (by simp [results, Tryz.results39, go_sem, g0, g1, g2]) rfl ⟨none, 0, ret_v (by rw [HFi.out]; rfl), (by rw [HFi.out]; exact slF_none _), (by rw [HFi.out]; exact fine_s0), HF.out⟩
  | some i =>
    have hi : atI l nm = (i : Int) := by unfold atI; rw [h]
    rw [hi]
    have HFi := Lib.hid (find_of h)
    have hlt := (at_some.1 h).1
    obtain ⟨b, q, A1, c1, hix, hc, hfine⟩ := HS.out.at i hlt
    obtain ⟨⟨x0, x1, x2⟩, _⟩ := hc w1 HB1.out
    have y0 := (hc w (Below.refl _ _)).2
    rw [← HLen.out] at hlt
    have hi' := fun W => hix W n c hlt
    have hd : decide ((i : Int) < 0) = false := by rw [decide_eq_false_iff_not]; omega
    clear h hi hix hc
    obtain ⟨f, hf⟩ : ∃ f, f = l.getD i s0 := ⟨_, rfl⟩
    rw [← hf] at x0 x1 x2 y0 hfine HFi
    clear hf
    obtain ⟨fs, fv, ff⟩ := f
    simp only at x0 x1 x2 y0
    obtain ⟨k, hk⟩ : ∃ k, k = ff.length := ⟨_, rfl⟩
    rw [← hk] at x2
    have HK := Lib.hid hk
    have HFine := Lib.hid hfine
    have hst := bx_store HZ1.out (.string fs) (.int .i64 fv) (.slice A1 k c1)
    obtain ⟨⟨g0, g1, g2⟩, _⟩ := hst
    have G0 := Lib.hid g0
    have G1 := Lib.hid g1
    have G2 := Lib.hid g2
    have HF := Lib.hid (stored3 HB1.out (Nat.le_refl _) (.string fs) (.int .i64 fv) (.slice A1 k c1))
    have HY := Lib.hid y0
    obtain ⟨⟨p0, p1, p2⟩, p3, p4, p5⟩ := HZ1.out
    clear g0 g1 g2 hk hfine y0
    go_wp2_with fail
    obtain ⟨W2, hW2⟩ : ∃ W2, W2 = ((w1.setCell ⟨w.heap.size, 0, none⟩ (.string fs)).setCell ⟨w.heap.size, 1, none⟩ (.int .i64 fv)).setCell ⟨w.heap.size, 2, none⟩ (.slice A1 k c1) := ⟨_, rfl⟩
    rw [← hW2] at HF G0 G1 G2 ⊢
    have g0 := G0.out
    have g1 := G1.out
    have g2 := G2.out
    clear hW2 p0 p1 p2 p3 p4 p5 x0 x1 x2
    exact bodyPost_ret (v := .tuple #[.agg #[.string fs, .int .i64 fv, .slice A1 k c1], .bool true]) (by simp [results, Tryz.results39, go_sem, g0, g1, g2]) rfl ⟨A1, c1, ret_v (by rw [HFi.out, ← HK.out]), (by rw [HFi.out]; exact HY.out.kept HF.out), (by rw [HFi.out]; exact HFine.out), HF.out⟩
end Go.Proofs.YtbmdkibmfkmjoaaGreat.Rg
