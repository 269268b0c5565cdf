/- Several texts in one: what this layer has; what each asks is said at each theorem. -/
import Derived.Test.YtbmdkibmfkmjoaaGreatExprTwo
import Derived.Test.YtbmdkibmfkmjoaaGreatExprPile
import Derived.Test.YtbmdkibmfkmjoaaGreatOpRow
import Derived.Test.YtbmdkibmfkmjoaaGreatRegionB
import Derived.Test.YtbmdkibmfkmjoaaGreatExprMath
import Derived.Test.YtbmdkibmfkmjoaaGreatSchemaMath
import Derived.Test.YtbmdkibmfkmjoaaGreatSlB
import Derived.Test.YtbmdkibmfkmjoaaGreatBx
import Derived.Test.YtbmdkibmfkmjoaaGreatLeMem
import Derived.Test.YtbmdkibmfkmjoaaGreatLeZigMath
import Derived.BigQuiet
import Derived.Deep.QuietTactic
import Derived.Test.YtbmdkibmfkmjoaaGreatRegion
import Derived.Test.YtbmdkibmfkmjoaaGreatStrCore
import Derived.Test.YtbmdkibmfkmjoaaGreatStrMem
import Derived.Test.YtbmdkibmfkmjoaaGreatPutSl
import Derived.Test.YtbmdkibmfkmjoaaGreatRowG
import Derived.Test.YtbmdkibmfkmjoaaGreatLeMath
import Derived.Test.YtbmdkibmfkmjoaaGreatValueRefMay
import Derived.Test.YtbmdkibmfkmjoaaGreatLeZig
import Derived.Test.YtbmdkibmfkmjoaaGreatValueHeld

namespace Go.Proofs.YtbmdkibmfkmjoaaGreat.Ex
open Go.RowKit Go.Proofs.YtbmdkibmfkmjoaaGreat.BM Go.Proofs.YtbmdkibmfkmjoaaGreat.VaM Go.Proofs.YtbmdkibmfkmjoaaGreat.Va Go.Proofs.YtbmdkibmfkmjoaaGreat.ExM Go.Proofs.YtbmdkibmfkmjoaaGreat.EvM

section
variable {vs : List V} {kb : Bool} {o : O} {p : List V}
theorem step_push (h : o.c = 0) : ExM.step vs kb o p = .ok (p ++ [o.v]) := by rw [ExM.step, if_pos h]
theorem step_load (h : o.c = 1) : ExM.step vs kb o p = if o.a.toNat < vs.length then .ok (p ++ [vs.getD o.a.toNat v0]) else .error 3 := by rw [ExM.step, if_neg (by omega), if_pos h]
theorem step_not (h : o.c = 9) : ExM.step vs kb o p = if p.length < 1 then .error 2 else if (p.getD (p.length - 1) v0).k ≠ 1 then .error 5 else .ok (p.take (p.length - 1) ++ [truth (decide ((p.getD (p.length - 1) v0).n = 0))]) := by rw [ExM.step, if_neg (by omega), if_neg (by omega), if_pos h]
theorem step_two (h0 : o.c ≠ 0) (h1 : o.c ≠ 1) (h9 : o.c ≠ 9) : ExM.step vs kb o p = if p.length < 2 then .error 2 else if (two o.c (p.getD (p.length - 2) v0) (p.getD (p.length - 1) v0)).2 = 0 ∨ (kb = true ∧ (two o.c (p.getD (p.length - 2) v0) (p.getD (p.length - 1) v0)).2 = 6) then .ok (p.take (p.length - 2) ++ [(two o.c (p.getD (p.length - 2) v0) (p.getD (p.length - 1) v0)).1]) else .error (two o.c (p.getD (p.length - 2) v0) (p.getD (p.length - 1) v0)).2 := by
  rw [ExM.step, if_neg h0, if_neg h1, if_neg h9]
end

theorem run_drop (vs : List V) (kb : Bool) (l : List O) (j : Nat) (p : List V) (hj : j < l.length) : ExM.run vs kb (l.drop j) p = match ExM.step vs kb (l.getD j o0) p with
    | .error e => .error e
    | .ok q => ExM.run vs kb (l.drop (j + 1)) q := by
  rw [List.drop_eq_getElem_cons hj, ExM.run, List.getD_eq_getElem?_getD, List.getElem?_eq_getElem hj]
  rfl

theorem run_err {vs : List V} {kb : Bool} {l : List O} {j : Nat} {p : List V} {e : Int} {R : V × Int} (hj : j < l.length) (h : fin (ExM.run vs kb (l.drop j) p) = R) (hs : ExM.step vs kb (l.getD j o0) p = .error e) : R = (v0, e) := by
  rw [run_drop vs kb l j p hj, hs] at h
  exact h.symm

theorem run_ok {vs : List V} {kb : Bool} {l : List O} {j : Nat} {p q : List V} {R : V × Int} (hj : j < l.length) (h : fin (ExM.run vs kb (l.drop j) p) = R) (hs : ExM.step vs kb (l.getD j o0) p = .ok q) : fin (ExM.run vs kb (l.drop (j + 1)) q) = R := by
  rw [run_drop vs kb l j p hj, hs] at h
  exact h

theorem two_rng (c : Int) {a b : V} : Rng (two c a b).1 := by
  have h0 : Rng v0 := ⟨by decide, by decide⟩
  have ht : ∀ x : Bool, Rng (truth x) := fun x => by cases x <;> exact ⟨by decide, by decide⟩
  unfold two
  split
  · exact h0
  · split
    · exact ht _
    · split
      · split
        · exact h0
        · exact ht _
      · split
        · split
          · exact h0
          · exact ht _
        · split
          · exact h0
          · split
            · rename_i h
              exact fits_iff.1 h
            · exact h0

theorem ne_own {A : Option Addr} {lo g g8 t c : Nat} (h : ∀ a, A = some a → lo ≤ a.block ∧ a.block < g) (hg : g < g8) : some g8 ≠ Value.ownBlock (.slice A t c) := by
  cases A with
  | none => intro h; cases h
  | some a =>
    intro k
    have h1 := (h a rfl).2
    have h2 : some g8 = some a.block := k
    injection h2 with h2
    omega

theorem way_good {kb : Bool} {r : Int} (h : r = 0 ∨ (kb = true ∧ r = 6)) : (kb = true ∧ r = 0) ∨ (kb = false ∧ r = 0) ∨ (kb = true ∧ r = 6) := by
  rcases h with h | ⟨h1, h2⟩
  · cases kb
    · exact Or.inr (Or.inl ⟨rfl, h⟩)
    · exact Or.inl ⟨rfl, h⟩
  · exact Or.inr (Or.inr ⟨h1, h2⟩)

theorem way_bad {kb : Bool} {r : Int} (h : kb = true → (r == 6) = false) : (kb = true ∧ (r == 6) = false) ∨ kb = false := by
  cases kb
  · exact Or.inr rfl
  · exact Or.inl ⟨rfl, h rfl⟩

/-- What two ways lead to. -/
theorem midway {P Q : Nat → World → Prop} {G : Prop} (h : (∀ g w, P g w → Q g w) → G) (k : ∀ g w, P g w → Q g w) : G := h k

/-- The pile, as the loop carries it. -/
structure St (base : Nat) (w1 : World) (vs : List V) (kb : Bool) (l : List O) (R : V × Int) (j : Nat) (p : List V) (u : Value) (wr : World) : Prop where
  few : p.length ≤ j
  pile : Pile base p u wr
  run : fin (ExM.run vs kb (l.drop j) p) = R
  bel : Below base w1 wr

set_option maxRecDepth 100000 in
set_option maxHeartbeats 16000000 in
theorem through_any (vs : List V) (l : List O) (kb : Bool) (A : Option Addr) (c : Nat) (B : Option Addr) (d : Nat) (w : World) (hV : SlV w A vs c) (hO : SlO w B l d) (hvm : ∀ x ∈ vs, VaM.May x) (hom : ∀ x ∈ l, Ok x) (hlen : l.length ≤ 12) :
    Calls Tryz.prog 91 #[.slice A vs.length c, .slice B l.length d, .bool kb] w (TwoV (through vs l kb) w) := by
  have hlv := slV_len hV
  have hvat := fun k (hk : k < vs.length) => hV.at v0 k hk
  have hvmm := fun k (hk : k < vs.length) => hvm _ (EvM.getD_mem (l := vs) (i := k) hk)
  have hok := fun j (hj : j < l.length) => hom _ (ExM.getD_mem (l := l) (i := j) hj)
  have herr := fun j p e R => @run_err vs kb l j p e R
  have hrok := fun j p q R => @run_ok vs kb l j p q R
  obtain ⟨R, hR⟩ : ∃ R, R = through vs l kb := ⟨_, rfl⟩
  have hst : fin (ExM.run vs kb (l.drop 0) []) = R := by rw [hR]; rfl
  have hend : ∀ p, fin (ExM.run vs kb (l.drop l.length) p) = R → R = if p.length = 1 then (p.getD 0 v0, 0) else (v0, 2) := fun p h => by
    rw [List.drop_length] at h
    exact h.symm
  rw [← hR]
  obtain ⟨n, hn⟩ : ∃ n, n = l.length := ⟨_, rfl⟩
  obtain ⟨vn, hvn⟩ : ∃ n, n = vs.length := ⟨_, rfl⟩
  rw [← hn, ← hvn]
  rw [← hn] at hlen
  rw [← hvn] at hlv
  simp only [← hn] at hok herr hrok hend
  simp only [← hvn] at hvat hvmm
  have HVn := Lib.hid hvn
  have HLen := Lib.hid hn
  have HVat := Lib.hid hvat
  have HVm := Lib.hid hvmm
  have HOk := Lib.hid hok
  have HErr := Lib.hid herr
  have HRok := Lib.hid hrok
  have HEnd := Lib.hid hend
  have HO := Lib.hid hO
  have HSt := Lib.hid hst
  have HZ1 := Lib.hid (bx_new_t w 78 (.int .i64 0) (.int .i64 0) (.string ⟨#[]⟩))
  have HB1 := Lib.hid ((Below.refl w.heap.size w).alloc (Nat.le_refl _) (.cells #[.int .i64 0, .int .i64 0, .string ⟨#[]⟩] 78))
  have HW1 := Lib.hid (show w.heap.size < (w.alloc (.cells #[.int .i64 0, .int .i64 0, .string ⟨#[]⟩] 78)).heap.size from by simp)
  clear hV hO hvm hom hvat hvmm hok herr hrok hst hend hR hn hvn
  go_enter Tryz.func91, Tryz.ntmps91
  go_wp2_with fail
  obtain ⟨w1, hw1⟩ : ∃ w1, w1 = w.alloc (.cells #[.int .i64 0, .int .i64 0, .string ⟨#[]⟩] 78) := ⟨_, rfl⟩
  rw [← hw1] at HZ1 HB1 HW1 ⊢
  clear hw1
  go_loopw [8, 9] (fun u i wr => ∃ (j : Nat) (p : List V), i = .int .i64 j ∧ j ≤ n ∧ St w1.heap.size w1 vs kb l R j p u wr) (fun _ i _ => n - (intOf i).toNat)
  case atStart => exact ⟨0, [], rfl, Nat.zero_le _, Nat.le_refl _, pile_nil _ _, HSt.out, Below.refl _ _⟩
  case round =>
    obtain ⟨j, p, rfl, hj, hst⟩ := hrel
    have HBl := Lib.hid (show Below w1.heap.size w1 wr from hst.bel)
    have HRun := Lib.hid hst.run
    have hfew := hst.few
    obtain ⟨A0, c0, rfl, hS, hA⟩ := hst.pile.sl
    have HP := Lib.hid hst.pile
    have HZr := Lib.hid (HZ1.out.kept HBl.out)
    have HSl := Lib.hid hS
    have HAb := Lib.hid hA
    obtain ⟨m, hm⟩ : ∃ m, m = p.length := ⟨_, rfl⟩
    rw [← hm] at hfew HP ⊢
    have HM := Lib.hid hm
    clear hst hS hA hm
    by_cases hjn : j < n
    · obtain ⟨b, q, hix, hc, hfz⟩ := HO.out.at j (by rw [← HLen.out]; exact hjn)
      have hokx := HOk.out j hjn
      have herr := fun e => HErr.out j p e R hjn HRun.out
      have hrok := fun q => HRok.out j p q R hjn HRun.out
      obtain ⟨f, hf⟩ : ∃ f, f = l.getD j o0 := ⟨_, rfl⟩
      rw [← hf] at hc hfz hokx
      simp only [← hf] at herr hrok
      obtain ⟨x0, x1, x2, x3, x4⟩ := hc wr (bt HB1.out HBl.out)
      have hi := fun W => hix W n d hjn
      obtain ⟨fc, fa, fk, fn, fs⟩ := f
      simp only at x0 x1 x2 x3 x4
      obtain ⟨k1, k2, k3, k4, k5, k6, k7⟩ := hokx
      simp only at k1 k2 k3 k4 k5 k6 k7
      have HEr := Lib.hid herr
      have HRo := Lib.hid hrok
      have HMx := Lib.hid (show VaM.May ⟨fk, fn, fs⟩ ∧ Rng ⟨fk, fn, fs⟩ from ⟨k6, hfz.2.1⟩)
      have ha := (Below.refl wr.heap.size wr).alloc (Nat.le_refl _) (.cells #[.int .i64 fc, .int .i64 fa, .int .i64 fk, .int .i64 fn, .string fs] 80)
      have HX2 := Lib.hid (bxO_new wr ⟨fc, fa, fk, fn, fs⟩)
      have HB2 := Lib.hid (show Below w1.heap.size w1 (wr.alloc (.cells #[.int .i64 fc, .int .i64 fa, .int .i64 fk, .int .i64 fn, .string fs] 80)) from bt HBl.out ha)
      have HP2 := Lib.hid (HP.out.kept ha)
      have HZ2 := Lib.hid (HZr.out.kept ha)
      have HSl2 := Lib.hid (HSl.out.kept ha)
      have hs2 : (wr.alloc (.cells #[.int .i64 fc, .int .i64 fa, .int .i64 fk, .int .i64 fn, .string fs] 80)).heap.size = wr.heap.size + 1 := by simp
      obtain ⟨p0, p1, p2, p3, p4⟩ := HX2.out.cells
      simp only at p0 p1 p2 p3 p4
      clear hc hix hf hfz ha herr hrok k5 k6 k7 HZr HP HSl
      by_cases h0 : fc = 0
      · have g0 : (fc == 0) = true := by simpa using h0
        have H0 := Lib.hid h0
        clear h0
        have ha3 := (Below.refl (wr.alloc (.cells #[.int .i64 fc, .int .i64 fa, .int .i64 fk, .int .i64 fn, .string fs] 80)).heap.size (wr.alloc (.cells #[.int .i64 fc, .int .i64 fa, .int .i64 fk, .int .i64 fn, .string fs] 80))).alloc (Nat.le_refl _) (.cells #[.int .i64 fk, .int .i64 fn, .string fs] 78)
        have hn3 := one_new (wr.alloc (.cells #[.int .i64 fc, .int .i64 fa, .int .i64 fk, .int .i64 fn, .string fs] 80)) ⟨fk, fn, fs⟩
        simp only [hs2] at hn3
        have HN3 := Lib.hid hn3
        have HP3 := Lib.hid (HP2.out.kept ha3)
        have HB3 := Lib.hid (bt HB2.out ha3)
        have hz3 := HB3.out.size
        have HGo := Lib.hid (HRo.out _ (step_push H0.out))
        have HMm := Lib.hid (HMx.out)
        have hp3 := HP3.out.1
        rw [← HM.out] at hp3
        have HPo := Lib.hid hp3
        clear ha3 hn3 hp3 hs2
        go_wp2_with (at_builtin; refine wp_append_v rfl (.tmp 29) (.tmp 32) rfl w1.heap.size _ m p rfl HPo.out (some ⟨wr.heap.size + 1, 0, none⟩) 1 1 [⟨fk, fn, fs⟩] rfl rfl HN3.out (by omega) hz3 ?_; intro u4 w4 hown4 hgrow4; refine pause ?_)
        have HB4 := Lib.hid (HB3.out.grown hgrow4 hz3 (fun q hq => (HP3.out.1.lt q hq).1))
        have HSt4 := Lib.hid (show St w1.heap.size w1 vs kb l R (j + 1) (p ++ [⟨fk, fn, fs⟩]) u4 w4 from ⟨by rw [List.length_append, ← HM.out]; simp; omega, ⟨by rw [List.length_append, ← HM.out]; exact hown4, fun y hy => by
          rcases List.mem_append.1 hy with hy | hy
          · exact HP3.out.2 y hy
          · rw [List.mem_singleton.1 hy]
            exact HMm.out⟩, HGo.out, HB4.out⟩)
        clear hown4 hgrow4
        unfold Pause
        go_wp2_with fail
        go_roundw
        case rel => exact ⟨j + 1, _, by go_num, by omega, HSt4.out⟩
        case measure => simp [intOf]; omega
      · have g0 : (fc == 0) = false := by simpa using h0
        by_cases h1 : fc = 1
        · have g1 : (fc == 1) = true := by simpa using h1
          have H1 := Lib.hid h1
          clear h1
          have hld := step_load (vs := vs) (kb := kb) (p := p) (o := ⟨fc, fa, fk, fn, fs⟩) H1.out
          rw [← HVn.out] at hld
          simp only at hld
          by_cases hv : fa.toNat < vn
          · have g2 : decide ((vn : Int) ≤ fa) = false := by rw [decide_eq_false_iff_not]; omega
            rw [if_pos hv] at hld
            have hix2 : ∀ j : Nat, (j : Int) = fa.toNat → (.int .i64 fa : Value) = .int .i64 (j : Int) := fun j h => by
              rw [h, Int.toNat_of_nonneg k3]
            obtain ⟨b2, q2, hi2, hc2, _, hr2⟩ := HVat.out fa.toNat hv
            have hm2 := HVm.out fa.toNat hv
            have hi3 := fun W => hi2 W vn c hv
            rw [← hix2 fa.toNat rfl] at hi3
            obtain ⟨⟨ek, en, es⟩, he⟩ : ∃ e, e = vs.getD fa.toNat v0 := ⟨_, rfl⟩
            rw [← he] at hld hc2 hr2 hm2
            obtain ⟨y0, y1, y2⟩ := hc2 (wr.alloc (.cells #[.int .i64 fc, .int .i64 fa, .int .i64 fk, .int .i64 fn, .string fs] 80)) (bt HB1.out HB2.out)
            simp only at y0 y1 y2
            clear hix2 hi2 hc2 he
            have ha3 := (Below.refl (wr.alloc (.cells #[.int .i64 fc, .int .i64 fa, .int .i64 fk, .int .i64 fn, .string fs] 80)).heap.size (wr.alloc (.cells #[.int .i64 fc, .int .i64 fa, .int .i64 fk, .int .i64 fn, .string fs] 80))).alloc (Nat.le_refl _) (.cells #[.int .i64 ek, .int .i64 en, .string es] 78)
            have hn3 := one_new (wr.alloc (.cells #[.int .i64 fc, .int .i64 fa, .int .i64 fk, .int .i64 fn, .string fs] 80)) ⟨ek, en, es⟩
            simp only [hs2] at hn3
            have HN3 := Lib.hid hn3
            have HP3 := Lib.hid (HP2.out.kept ha3)
            have HB3 := Lib.hid (bt HB2.out ha3)
            have hz3 := HB3.out.size
            have HGo := Lib.hid (HRo.out _ hld)
            have HMm := Lib.hid (And.intro hm2 hr2)
            have hp3 := HP3.out.1
            rw [← HM.out] at hp3
            have HPo := Lib.hid hp3
            clear ha3 hn3 hp3 hs2
            go_wp2_with (at_builtin; refine wp_append_v rfl (.tmp 43) (.tmp 49) rfl w1.heap.size _ m p rfl HPo.out (some ⟨wr.heap.size + 1, 0, none⟩) 1 1 [⟨ek, en, es⟩] rfl rfl HN3.out (by omega) hz3 ?_; intro u4 w4 hown4 hgrow4; refine pause ?_)
            have HB4 := Lib.hid (HB3.out.grown hgrow4 hz3 (fun q hq => (HP3.out.1.lt q hq).1))
            have HSt4 := Lib.hid (show St w1.heap.size w1 vs kb l R (j + 1) (p ++ [⟨ek, en, es⟩]) u4 w4 from ⟨by rw [List.length_append, ← HM.out]; simp; omega, ⟨by rw [List.length_append, ← HM.out]; exact hown4, fun y hy => by
              rcases List.mem_append.1 hy with hy | hy
              · exact HP3.out.2 y hy
              · rw [List.mem_singleton.1 hy]
                exact HMm.out⟩, HGo.out, HB4.out⟩)
            clear hown4 hgrow4
            unfold Pause
            go_wp2_with fail
            go_roundw
            case rel => exact ⟨j + 1, _, by go_num, by omega, HSt4.out⟩
            case measure => simp [intOf]; omega
          · have g2 : decide ((vn : Int) ≤ fa) = true := by rw [decide_eq_true_iff]; omega
            rw [if_neg hv] at hld
            clear hs2
            have HRe := Lib.hid (HEr.out 3 hld)
            have hst := bx_store HZ2.out (.int .i64 0) (.int .i64 0) (.string ⟨#[]⟩)
            obtain ⟨⟨g0, g1, g2⟩, _⟩ := hst
            have G0 := Lib.hid g0
            have G1 := Lib.hid g1
            have G2 := Lib.hid g2
            have HF := Lib.hid (stored3 (bt HB1.out HB2.out) (Nat.le_refl _) (.int .i64 0) (.int .i64 0) (.string ⟨#[]⟩))
            obtain ⟨⟨z0, z1, z2⟩, z3, z4, z5⟩ := HZ2.out
            clear g0 g1 g2
            go_wp2_with fail
            obtain ⟨W2, hW2⟩ : ∃ W2, W2 = (((wr.alloc (.cells #[.int .i64 fc, .int .i64 fa, .int .i64 fk, .int .i64 fn, .string fs] 80)).setCell ⟨w.heap.size, 0, none⟩ (.int .i64 0)).setCell ⟨w.heap.size, 1, none⟩ (.int .i64 0)).setCell ⟨w.heap.size, 2, none⟩ (.string ⟨#[]⟩) := ⟨_, rfl⟩
            rw [← hW2] at HF G0 G1 G2 ⊢
            have g0 := G0.out
            have g1 := G1.out
            have g2 := G2.out
            clear hW2 z0 z1 z2 z3 z4 z5
            exact bodyPost_ret (v := .tuple #[.agg #[.int .i64 0, .int .i64 0, .string ⟨#[]⟩], .int .i64 3]) (by simp [results, Tryz.results91, go_sem, g0, g1, g2]) rfl ⟨ret_v (by rw [HRe.out]; rfl), HF.out⟩
        · have g1 : (fc == 1) = false := by simpa using h1
          by_cases h9 : fc = 9
          · have g9 : (fc == 9) = true := by simpa using h9
            have H9 := Lib.hid h9
            clear h9
            have hno := step_not (vs := vs) (kb := kb) (p := p) (o := ⟨fc, fa, fk, fn, fs⟩) H9.out
            rw [← HM.out] at hno
            by_cases hm1 : m < 1
            · have g2 : decide ((m : Int) < 1) = true := by rw [decide_eq_true_iff]; omega
              rw [if_pos hm1] at hno
              clear hs2
              have HRe := Lib.hid (HEr.out 2 hno)
              have hst := bx_store HZ2.out (.int .i64 0) (.int .i64 0) (.string ⟨#[]⟩)
              obtain ⟨⟨g0, g1, g2⟩, _⟩ := hst
              have G0 := Lib.hid g0
              have G1 := Lib.hid g1
              have G2 := Lib.hid g2
              have HF := Lib.hid (stored3 (bt HB1.out HB2.out) (Nat.le_refl _) (.int .i64 0) (.int .i64 0) (.string ⟨#[]⟩))
              obtain ⟨⟨z0, z1, z2⟩, z3, z4, z5⟩ := HZ2.out
              clear g0 g1 g2
              go_wp2_with fail
              obtain ⟨W2, hW2⟩ : ∃ W2, W2 = (((wr.alloc (.cells #[.int .i64 fc, .int .i64 fa, .int .i64 fk, .int .i64 fn, .string fs] 80)).setCell ⟨w.heap.size, 0, none⟩ (.int .i64 0)).setCell ⟨w.heap.size, 1, none⟩ (.int .i64 0)).setCell ⟨w.heap.size, 2, none⟩ (.string ⟨#[]⟩) := ⟨_, rfl⟩
              rw [← hW2] at HF G0 G1 G2 ⊢
              have g0 := G0.out
              have g1 := G1.out
              have g2 := G2.out
              clear hW2 z0 z1 z2 z3 z4 z5
              exact bodyPost_ret (v := .tuple #[.agg #[.int .i64 0, .int .i64 0, .string ⟨#[]⟩], .int .i64 2]) (by simp [results, Tryz.results91, go_sem, g0, g1, g2]) rfl ⟨ret_v (by rw [HRe.out]; rfl), HF.out⟩
            · have g2 : decide ((m : Int) < 1) = false := by rw [decide_eq_false_iff_not]; omega
              rw [if_neg hm1] at hno
              have hm1' : m - 1 < p.length := by rw [← HM.out]; omega
              obtain ⟨b2, q2, hi2, hc2, _, hr2⟩ := HSl2.out.at v0 (m - 1) hm1'
              have hi3 := fun W => hi2 W m c0 (by omega)
              rw [show ((m - 1 : Nat) : Int) = (m : Int) - 1 from by omega] at hi3
              obtain ⟨⟨ek, en, es⟩, he⟩ : ∃ e, e = p.getD (m - 1) v0 := ⟨_, rfl⟩
              rw [← he] at hno hc2
              obtain ⟨y0, y1, y2⟩ := hc2 (wr.alloc (.cells #[.int .i64 fc, .int .i64 fa, .int .i64 fk, .int .i64 fn, .string fs] 80)) (Below.refl _ _)
              simp only at y0 y1 y2 hno
              clear hi2 hc2 hr2 he
              by_cases hk : ek = 1
              · have g3 : (ek != 1) = false := by rw [hk]; rfl
                rw [if_neg (fun h => h hk)] at hno
                clear hk
                obtain ⟨z, hz⟩ : ∃ z, (en == 0) = z := ⟨_, rfl⟩
                rw [show decide (en = 0) = z from by rw [← hz]; rfl] at hno
                have HGo := Lib.hid (HRo.out _ hno)
                clear hno hs2 HEr HRo
                go_wp2_with fail
                refine (truth_any z _).mono ?_
                rintro e w4 ⟨rfl, hb4⟩
                have HB4 := Lib.hid (bt HB2.out hb4)
                have hp4 := HP2.out.kept hb4
                rw [HM.out] at hp4
                obtain ⟨gg, qq, hA0, hgb, hi5, ⟨o0, o1, o2, e0', e1', e2'⟩, ⟨f0, f1, f2⟩, hset⟩ := hp4.store (m - 1) hm1'
                obtain ⟨hp5, hgr5⟩ := hset (truth z) (truth_may z) (by cases z <;> exact ⟨by decide, by decide⟩)
                have hb5 := HB4.out.grown hgr5 HB4.out.size (fun q hq => by injection hq with hq; omega)
                rw [take_snocV' (by rw [← HM.out]; omega)] at hp5
                rw [← HM.out] at hi5 hp5
                rw [show ((m - 1 : Nat) : Int) = (m : Int) - 1 from by omega] at hi5
                have e := (hi3 w4).symm.trans (hi5 w4)
                simp only [Result.ok.injEq, Value.pointer.injEq, Option.some.injEq, Addr.mk.injEq, and_true] at e
                obtain ⟨rfl, rfl⟩ := e
                clear hi5
                obtain ⟨tn, htn⟩ : ∃ t, t = (truth z).n := ⟨_, rfl⟩
                have HTn := Lib.hid htn
                rw [← htn] at hp5 hb5 ⊢
                have HP5 := Lib.hid hp5
                have HB5 := Lib.hid hb5
                clear hp4 hset hp5 hgr5 hb5 hb4 htn hA0
                have HSt4 := Lib.hid (show St w1.heap.size w1 vs kb l R (j + 1) (p.take (m - 1) ++ [truth z]) (.slice A0 m c0) (((w4.setCell ⟨b2, q2, none⟩ (.int .i64 1)).setCell ⟨b2, q2 + 1, none⟩ (.int .i64 tn)).setCell ⟨b2, q2 + 2, none⟩ (.string ⟨#[]⟩)) from ⟨by rw [List.length_append, List.length_take, ← HM.out]; simp; omega, HP5.out, HGo.out, HB5.out⟩)
                go_wp2_with fail
                go_roundw
                case rel => exact ⟨j + 1, _, by go_num, by omega, HSt4.out⟩
                case measure => simp [intOf]; omega
              · have g3 : (ek != 1) = true := by rw [bne_iff_ne]; exact hk
                rw [if_pos hk] at hno
                clear hs2
                have HRe := Lib.hid (HEr.out 5 hno)
                have hst := bx_store HZ2.out (.int .i64 0) (.int .i64 0) (.string ⟨#[]⟩)
                obtain ⟨⟨g0, g1, g2⟩, _⟩ := hst
                have G0 := Lib.hid g0
                have G1 := Lib.hid g1
                have G2 := Lib.hid g2
                have HF := Lib.hid (stored3 (bt HB1.out HB2.out) (Nat.le_refl _) (.int .i64 0) (.int .i64 0) (.string ⟨#[]⟩))
                obtain ⟨⟨z0, z1, z2⟩, z3, z4, z5⟩ := HZ2.out
                clear g0 g1 g2
                go_wp2_with fail
                obtain ⟨W2, hW2⟩ : ∃ W2, W2 = (((wr.alloc (.cells #[.int .i64 fc, .int .i64 fa, .int .i64 fk, .int .i64 fn, .string fs] 80)).setCell ⟨w.heap.size, 0, none⟩ (.int .i64 0)).setCell ⟨w.heap.size, 1, none⟩ (.int .i64 0)).setCell ⟨w.heap.size, 2, none⟩ (.string ⟨#[]⟩) := ⟨_, rfl⟩
                rw [← hW2] at HF G0 G1 G2 ⊢
                have g0 := G0.out
                have g1 := G1.out
                have g2 := G2.out
                clear hW2 z0 z1 z2 z3 z4 z5
                exact bodyPost_ret (v := .tuple #[.agg #[.int .i64 0, .int .i64 0, .string ⟨#[]⟩], .int .i64 5]) (by simp [results, Tryz.results91, go_sem, g0, g1, g2]) rfl ⟨ret_v (by rw [HRe.out]; rfl), HF.out⟩
          · have g9 : (fc == 9) = false := by simpa using h9
            have htw := step_two (vs := vs) (kb := kb) (p := p) (o := ⟨fc, fa, fk, fn, fs⟩) h0 h1 h9
            rw [← HM.out] at htw
            by_cases hm2 : m < 2
            · have g2 : decide ((m : Int) < 2) = true := by rw [decide_eq_true_iff]; omega
              rw [if_pos hm2] at htw
              clear hs2
              have HRe := Lib.hid (HEr.out 2 htw)
              have hst := bx_store HZ2.out (.int .i64 0) (.int .i64 0) (.string ⟨#[]⟩)
              obtain ⟨⟨g0, g1, g2⟩, _⟩ := hst
              have G0 := Lib.hid g0
              have G1 := Lib.hid g1
              have G2 := Lib.hid g2
              have HF := Lib.hid (stored3 (bt HB1.out HB2.out) (Nat.le_refl _) (.int .i64 0) (.int .i64 0) (.string ⟨#[]⟩))
              obtain ⟨⟨z0, z1, z2⟩, z3, z4, z5⟩ := HZ2.out
              clear g0 g1 g2
              go_wp2_with fail
              obtain ⟨W2, hW2⟩ : ∃ W2, W2 = (((wr.alloc (.cells #[.int .i64 fc, .int .i64 fa, .int .i64 fk, .int .i64 fn, .string fs] 80)).setCell ⟨w.heap.size, 0, none⟩ (.int .i64 0)).setCell ⟨w.heap.size, 1, none⟩ (.int .i64 0)).setCell ⟨w.heap.size, 2, none⟩ (.string ⟨#[]⟩) := ⟨_, rfl⟩
              rw [← hW2] at HF G0 G1 G2 ⊢
              have g0 := G0.out
              have g1 := G1.out
              have g2 := G2.out
              clear hW2 z0 z1 z2 z3 z4 z5
              exact bodyPost_ret (v := .tuple #[.agg #[.int .i64 0, .int .i64 0, .string ⟨#[]⟩], .int .i64 2]) (by simp [results, Tryz.results91, go_sem, g0, g1, g2]) rfl ⟨ret_v (by rw [HRe.out]; rfl), HF.out⟩
            · have g2 : decide ((m : Int) < 2) = false := by rw [decide_eq_false_iff_not]; omega
              rw [if_neg hm2] at htw
              have hm1' : m - 1 < p.length := by rw [← HM.out]; omega
              have hm2' : m - 2 < p.length := by rw [← HM.out]; omega
              obtain ⟨b2, q2, hi2, hc2, _, hr2⟩ := HSl2.out.at v0 (m - 1) hm1'
              obtain ⟨b3, q3, hi3, hc3, _, hr3⟩ := HSl2.out.at v0 (m - 2) hm2'
              have hy2 := (HP2.out.2 _ (EvM.getD_mem (l := p) (i := m - 1) hm1')).1
              have hy3 := (HP2.out.2 _ (EvM.getD_mem (l := p) (i := m - 2) hm2')).1
              have hi4 := fun W => hi2 W m c0 (by omega)
              have hi5 := fun W => hi3 W m c0 (by omega)
              rw [show ((m - 1 : Nat) : Int) = (m : Int) - 1 from by omega] at hi4
              rw [show ((m - 2 : Nat) : Int) = (m : Int) - 2 from by omega] at hi5
              obtain ⟨e2, he2⟩ : ∃ e, e = p.getD (m - 1) v0 := ⟨_, rfl⟩
              obtain ⟨e3, he3⟩ : ∃ e, e = p.getD (m - 2) v0 := ⟨_, rfl⟩
              rw [← he2] at hc2 hr2 hy2
              rw [← he3] at hc3 hr3 hy3
              rw [← he2, ← he3] at htw
              have htv := fun W => two_any fc e3 e2 W hy3 hy2 hr3 hr2
              have hym := two_may fc e3 e2
              have hyr := @two_rng fc e3 e2
              simp only at htw
              obtain ⟨Y, hY⟩ : ∃ Y, Y = two fc e3 e2 := ⟨_, rfl⟩
              rw [← hY] at htw hym hyr
              simp only [← hY] at htv
              clear hY he2 he3 hi2 hi3 hy2 hy3 hr2 hr3
              obtain ⟨⟨yk, yn, ys⟩, r⟩ := Y
              unfold TwoV at htv
              simp only at htw hym hyr htv
              obtain ⟨ak, an, az⟩ := e3
              obtain ⟨bk, bn, bz⟩ := e2
              have HTv := Lib.hid htv
              have HYm := Lib.hid (And.intro hym hyr)
              have HTw := Lib.hid htw
              clear htw hym hyr htv
              go_wp2_with fail
              obtain ⟨w2, hw2⟩ : ∃ w2, w2 = (wr.alloc (.cells #[.int .i64 fc, .int .i64 fa, .int .i64 fk, .int .i64 fn, .string fs] 80)) := ⟨_, rfl⟩
              obtain ⟨g, hg⟩ : ∃ g, g = wr.heap.size := ⟨_, rfl⟩
              rw [← hw2] at HX2 HB2 HP2 HZ2 HSl2 hs2 ⊢
              simp only [← hw2] at hc2 hc3
              have HC2 := Lib.hid hc2
              have HC3 := Lib.hid hc3
              clear hc2 hc3
              have hAb := HAb.out
              rw [← hg] at HX2 hs2 hAb ⊢
              have HS2 := Lib.hid hs2
              clear hs2
              have HAg := Lib.hid (show ∀ a, A0 = some a → w1.heap.size ≤ a.block ∧ a.block < g from hAb)
              clear hw2 hg hAb HAb p0 p1 p2 p3 p4 x0 x1 x2 x3 x4
              have HCap := Lib.hid (show m ≤ c0 from by rw [HM.out]; exact HSl2.out.1.2.1)
              apply midway (P := fun g8 w8 => Bx w8 g8 (.int .i64 yk) (.int .i64 yn) (.string ys) ∧ Below w2.heap.size w2 w8 ∧ g < g8)
              case h =>
                intro key
                refine RegB.GS_start (fun x => Below w2.heap.size w2 x) (by kernel_rfl) (by repeat (first | with_reducible exact Reg.frameless_bodyPost | with_reducible refine Reg.frameless_then ?_ | with_reducible refine Reg.frameless_inBlock ?_ | refine Reg.frameless_then ?_ | refine Reg.frameless_inBlock ?_)) (fun W hW => hW) (fun W hW => ?_)
                have HW := Lib.hid hW
                have x0 : ∀ x : RegB.At (fun x => Below w2.heap.size w2 x), x.world.cell? ⟨g, 0, none⟩ = some (.int .i64 fc) := fun x => (HX2.out.kept x.ok).cells.1
                have x1 : ∀ x : RegB.At (fun x => Below w2.heap.size w2 x), x.world.cell? ⟨b3, q3, none⟩ = some (.int .i64 ak) := fun x => (HC3.out x.world x.ok).1
                have x2 : ∀ x : RegB.At (fun x => Below w2.heap.size w2 x), x.world.cell? ⟨b3, q3 + 1, none⟩ = some (.int .i64 an) := fun x => (HC3.out x.world x.ok).2.1
                have x3 : ∀ x : RegB.At (fun x => Below w2.heap.size w2 x), x.world.cell? ⟨b3, q3 + 2, none⟩ = some (.string az) := fun x => (HC3.out x.world x.ok).2.2
                have x4 : ∀ x : RegB.At (fun x => Below w2.heap.size w2 x), x.world.cell? ⟨b2, q2, none⟩ = some (.int .i64 bk) := fun x => (HC2.out x.world x.ok).1
                have x5 : ∀ x : RegB.At (fun x => Below w2.heap.size w2 x), x.world.cell? ⟨b2, q2 + 1, none⟩ = some (.int .i64 bn) := fun x => (HC2.out x.world x.ok).2.1
                have x6 : ∀ x : RegB.At (fun x => Below w2.heap.size w2 x), x.world.cell? ⟨b2, q2 + 2, none⟩ = some (.string bz) := fun x => (HC2.out x.world x.ok).2.2
                haveI : Nonempty (RegB.At (fun x => Below w2.heap.size w2 x)) := ⟨⟨W, hW⟩⟩
                clear hW
                first | (refine RegB.GS_step (i := 0) rfl (by kernel_rfl) (by rfl) (fun K hK => ?_); go_big_quiet_op; refine hK _ ?_; clear hK K)
                first | (refine RegB.GS_step (i := 1) rfl (by kernel_rfl) (by rfl) (fun K hK => ?_); go_big_quiet_op; refine hK _ ?_; clear hK K)
                first | (refine RegB.GS_step (i := 2) rfl (by kernel_rfl) (by rfl) (fun K hK => ?_); go_big_quiet_op; refine hK _ ?_; clear hK K)
                first | (refine RegB.GS_step (i := 3) rfl (by kernel_rfl) (by rfl) (fun K hK => ?_); go_big_quiet_op; refine hK _ ?_; clear hK K)
                first | (refine RegB.GS_step (i := 4) rfl (by kernel_rfl) (by rfl) (fun K hK => ?_); go_big_quiet_op; refine hK _ ?_; clear hK K)
                first | (refine RegB.GS_step (i := 5) rfl (by kernel_rfl) (by rfl) (fun K hK => ?_); go_big_quiet_op; refine hK _ ?_; clear hK K)
                first | (refine RegB.GS_step (i := 6) rfl (by kernel_rfl) (by rfl) (fun K hK => ?_); go_big_quiet_op; refine hK _ ?_; clear hK K)
                first | (refine RegB.GS_step (i := 7) rfl (by kernel_rfl) (by rfl) (fun K hK => ?_); go_big_quiet_op; refine hK _ ?_; clear hK K)
                first | (refine RegB.GS_step (i := 8) rfl (by kernel_rfl) (by rfl) (fun K hK => ?_); go_big_quiet_op; refine hK _ ?_; clear hK K)
                first | (refine RegB.GS_step (i := 9) rfl (by kernel_rfl) (by rfl) (fun K hK => ?_); go_big_quiet_op; refine hK _ ?_; clear hK K)
                first | (refine RegB.GS_step (i := 10) rfl (by kernel_rfl) (by rfl) (fun K hK => ?_); go_big_quiet_op; refine hK _ ?_; clear hK K)
                first | (refine RegB.GS_step (i := 11) rfl (by kernel_rfl) (by rfl) (fun K hK => ?_); go_big_quiet_op; refine hK _ ?_; clear hK K)
                refine RegB.GS_fork (i := 12) (j := 16) rfl rfl (by kernel_rfl) (by rfl) (by rfl) (fun K hK => ?_) (fun K hK => ?_)
                · go_simp
                  refine (HTv.out _).mono ?_
                  rintro e w5 ⟨rfl, hb5⟩
                  refine hK _ _ (bt HW.out hb5) ?_
                  clear hK K
                  first | (refine RegB.GS_step (i := 13) rfl (by kernel_rfl) (by rfl) (fun K hK => ?_); go_big_quiet_op; refine hK _ ?_; clear hK K)
                  first | (refine RegB.GS_step (i := 14) rfl (by kernel_rfl) (by rfl) (fun K hK => ?_); go_big_quiet_op; refine hK _ ?_; clear hK K)
                  first | (refine RegB.GS_step (i := 15) rfl (by kernel_rfl) (by rfl) (fun K hK => ?_); go_big_quiet_op; refine hK _ ?_; clear hK K)
                  refine RegB.GS_event (i := 16) rfl (by kernel_rfl) (by rfl) (fun K hK => ?_)
                  go_simp
                  refine hK _ _ (bt HW.out (bt hb5 ((Below.refl _ _).alloc (Nat.le_refl _) _))) ?_
                  clear hK K
                  refine RegB.GS_event (i := 17) rfl (by kernel_rfl) (by rfl) (fun K hK => ?_)
                  go_simp
                  refine hK _ _ (bt HW.out (bt hb5 ((Below.refl _ _).alloc (Nat.le_refl _) _))) ?_
                  clear hK K
                  first | (refine RegB.GS_step (i := 18) rfl (by kernel_rfl) (by rfl) (fun K hK => ?_); go_big_quiet_op; refine hK _ ?_; clear hK K)
                  refine RegB.GS_done (by kernel_rfl) ?_
                  have HX8 := Lib.hid (bx_new_t w5 78 (.int .i64 yk) (.int .i64 yn) (.string ys))
                  have HB8 := Lib.hid (show Below w2.heap.size w2 (w5.alloc (.cells #[.int .i64 yk, .int .i64 yn, .string ys] 78)) from bt HW.out (bt hb5 ((Below.refl _ _).alloc (Nat.le_refl _) _)))
                  have hg8 : g < w5.heap.size := by have := (bt HW.out hb5).size; have := HS2.out; omega
                  obtain ⟨g8, hgg⟩ : ∃ g, g = w5.heap.size := ⟨_, rfl⟩
                  obtain ⟨w8, hw8⟩ : ∃ w8, w8 = w5.alloc (.cells #[.int .i64 yk, .int .i64 yn, .string ys] 78) := ⟨_, rfl⟩
                  rw [← hw8] at HX8 HB8 ⊢
                  rw [← hgg] at HX8 hg8 ⊢
                  exact key g8 w8 ⟨HX8.out, HB8.out, hg8⟩
                · go_simp
                  refine hK _ _ (bt HW.out ((Below.refl _ _).alloc (Nat.le_refl _) _)) ?_
                  clear hK K
                  refine RegB.GS_event (i := 12) rfl (by kernel_rfl) (by rfl) (fun K hK => ?_)
                  go_simp
                  refine (HTv.out _).mono ?_
                  rintro e w5 ⟨rfl, hb5⟩
                  refine hK _ _ (bt HW.out (bt ((Below.refl _ _).alloc (Nat.le_refl _) _) hb5)) ?_
                  clear hK K
                  first | (refine RegB.GS_step (i := 13) rfl (by kernel_rfl) (by rfl) (fun K hK => ?_); go_big_quiet_op; refine hK _ ?_; clear hK K)
                  first | (refine RegB.GS_step (i := 14) rfl (by kernel_rfl) (by rfl) (fun K hK => ?_); go_big_quiet_op; refine hK _ ?_; clear hK K)
                  first | (refine RegB.GS_step (i := 15) rfl (by kernel_rfl) (by rfl) (fun K hK => ?_); go_big_quiet_op; refine hK _ ?_; clear hK K)
                  have hz5 := (bx_new_t W 78 (.int .i64 0) (.int .i64 0) (.string ⟨#[]⟩)).kept hb5
                  have hst5 := stored3 (b := W.heap.size) (bt HW.out (bt ((Below.refl W.heap.size W).alloc (Nat.le_refl _) (.cells #[.int .i64 0, .int .i64 0, .string ⟨#[]⟩] 78)) hb5)) HW.out.size (.int .i64 yk) (.int .i64 yn) (.string ys)
                  have hbx5 := bx_store hz5 (.int .i64 yk) (.int .i64 yn) (.string ys)
                  obtain ⟨⟨z0, z1, z2⟩, z3, z4, z5⟩ := hz5
                  refine RegB.GS_event (i := 17) rfl (by kernel_rfl) (by rfl) (fun K hK => ?_)
                  go_simp
                  refine hK _ _ hst5 ?_
                  clear hK K z0 z1 z2 z3 z4 z5
                  first | (refine RegB.GS_step (i := 18) rfl (by kernel_rfl) (by rfl) (fun K hK => ?_); go_big_quiet_op; refine hK _ ?_; clear hK K)
                  refine RegB.GS_done (by kernel_rfl) ?_
                  have HX8 := Lib.hid hbx5
                  have HB8 := Lib.hid hst5
                  have hg8 : g < W.heap.size := by have := HW.out.size; have := HS2.out; omega
                  obtain ⟨g8, hgg⟩ : ∃ g, g = W.heap.size := ⟨_, rfl⟩
                  rw [← hgg] at HX8 HB8 hg8 ⊢
                  obtain ⟨w8, hw8⟩ : ∃ w8, w8 = ((w5.setCell ⟨g8, 0, none⟩ (.int .i64 yk)).setCell ⟨g8, 1, none⟩ (.int .i64 yn)).setCell ⟨g8, 2, none⟩ (.string ys) := ⟨_, rfl⟩
                  rw [← hw8] at HX8 HB8 ⊢
                  exact key g8 w8 ⟨HX8.out, HB8.out, hg8⟩
              case k =>
                intro g8 w8 hkey
                have HX8 := Lib.hid hkey.1
                have HB8 := Lib.hid hkey.2.1
                have hg8 := hkey.2.2
                clear hkey HC2 HC3 hi hi4 hi5 HX2 HSl2 HTv HVat HVm HOk HErr HRok HSt
                have HB9 := Lib.hid (bt HB2.out HB8.out)
                have HP9 := Lib.hid (HP2.out.kept HB8.out)
                have HZ9 := Lib.hid (HZ2.out.kept HB8.out)
                by_cases hgo : r = 0 ∨ (kb = true ∧ r = 6)
                · skip
                  have hcap : m ≤ c0 := HCap.out
                  have hsl := fun W => tyV.cut W A0 m c0 (m - 2) (by omega)
                  rw [show ((m - 2 : Nat) : Int) = (m : Int) - 2 from by omega] at hsl
                  have hp9 := HP9.out
                  rw [HM.out] at hp9
                  have hpc := hp9.cut (m - 2) (by rw [← HM.out]; omega)
                  have htl : (p.take (m - 2)).length = m - 2 := by rw [List.length_take, ← HM.out]; omega
                  obtain ⟨t, ht⟩ : ∃ t, t = m - 2 := ⟨_, rfl⟩
                  rw [← ht] at hpc htl
                  simp only [← ht] at hsl
                  have HGo := Lib.hid (HRo.out _ (by rw [HTw.out, if_pos hgo]))
                  rw [← ht] at HGo
                  have HPc := Lib.hid hpc
                  have HTl := Lib.hid htl
                  have htj : t ≤ j := by omega
                  have HNe := Lib.hid (ne_own (t := t) (c := c0) HAg.out hg8)
                  have hway := way_good hgo
                  clear hp9 hpc htl ht hgo
                  rcases hway with ⟨rfl, rfl⟩ | ⟨rfl, rfl⟩ | ⟨rfl, rfl⟩
                  all_goals
                    go_wp2_with fail
                    refine RegB.GS_start (fun x => Bx x g8 (.int .i64 yk) (.int .i64 yn) (.string ys)) (by kernel_rfl) (by repeat (first | with_reducible exact Reg.frameless_bodyPost | with_reducible refine Reg.frameless_then ?_ | with_reducible refine Reg.frameless_inBlock ?_ | refine Reg.frameless_then ?_ | refine Reg.frameless_inBlock ?_)) (fun W hW => HX8.out.kept hW) (fun W hW => ?_)
                    have HW := Lib.hid hW
                    have x0 : ∀ x : RegB.At (fun x => Bx x g8 (.int .i64 yk) (.int .i64 yn) (.string ys)), x.world.cell? ⟨g8, 0, none⟩ = some (.int .i64 yk) := fun x => x.ok.1.1
                    have x1 : ∀ x : RegB.At (fun x => Bx x g8 (.int .i64 yk) (.int .i64 yn) (.string ys)), x.world.cell? ⟨g8, 1, none⟩ = some (.int .i64 yn) := fun x => x.ok.1.2.1
                    have x2 : ∀ x : RegB.At (fun x => Bx x g8 (.int .i64 yk) (.int .i64 yn) (.string ys)), x.world.cell? ⟨g8, 2, none⟩ = some (.string ys) := fun x => x.ok.1.2.2
                    haveI : Nonempty (RegB.At (fun x => Bx x g8 (.int .i64 yk) (.int .i64 yn) (.string ys))) := ⟨⟨W, HX8.out.kept hW⟩⟩
                    clear hW
                    first | (refine RegB.GS_step (i := 0) rfl (by kernel_rfl) (by rfl) (fun K hK => ?_); go_big_quiet_op; refine hK _ ?_; clear hK K)
                    first | (refine RegB.GS_step (i := 1) rfl (by kernel_rfl) (by rfl) (fun K hK => ?_); go_big_quiet_op; refine hK _ ?_; clear hK K)
                    first | (refine RegB.GS_step (i := 2) rfl (by kernel_rfl) (by rfl) (fun K hK => ?_); go_big_quiet_op; refine hK _ ?_; clear hK K)
                    first | (refine RegB.GS_step (i := 3) rfl (by kernel_rfl) (by rfl) (fun K hK => ?_); go_big_quiet_op; refine hK _ ?_; clear hK K)
                    first | (refine RegB.GS_step (i := 4) rfl (by kernel_rfl) (by rfl) (fun K hK => ?_); go_big_quiet_op; refine hK _ ?_; clear hK K)
                    refine RegB.GS_event (i := 5) rfl (by kernel_rfl) (by rfl) (fun K hK => ?_)
                    go_simp
                    have ha10 := (Below.refl W.heap.size W).alloc (Nat.le_refl _) (.cells #[.int .i64 yk, .int .i64 yn, .string ys] 78)
                    refine hK _ _ ((HX8.out.kept HW.out).kept ha10) ?_
                    clear hK K
                    have hn10 := one_new W ⟨yk, yn, ys⟩
                    have hp10 := (HPc.out.kept HW.out).kept ha10
                    have hb10 := bt HB9.out (bt HW.out ha10)
                    have hz10 := hb10.size
                    have ho10 := hp10.1
                    rw [HTl.out] at ho10
                    refine RegB.GS_event (i := 6) rfl (by kernel_rfl) (by rfl) (fun K hK => ?_)
                    refine op_append_v (.tmp 108) (.tmp 110) rfl w1.heap.size (.slice A0 t c0) t (p.take t) rfl ho10 (some ⟨W.heap.size, 0, none⟩) 1 1 [⟨yk, yn, ys⟩] rfl rfl hn10 (by omega) hz10 ?_
                    intro u11 w11 hown11 hgrow11
                    refine hK _ _ (((HX8.out.kept HW.out).kept ha10).grown hgrow11 HNe.out) ?_
                    clear hK K
                    simp only [Act.put, List.setIfInBounds_toArray, List.set_cons_zero, List.set_cons_succ]
                    first | (refine RegB.GS_step (i := 7) rfl (by kernel_rfl) (by rfl) (fun K hK => ?_); go_big_quiet_op; refine hK _ ?_; clear hK K)
                    refine RegB.GS_done (by kernel_rfl) ?_
                    have HB11 := Lib.hid (hb10.grown hgrow11 hz10 (fun q hq => (hp10.1.lt q hq).1))
                    have HSt11 := Lib.hid (show St w1.heap.size w1 vs _ l R (j + 1) (p.take t ++ [⟨yk, yn, ys⟩]) u11 w11 from ⟨by rw [List.length_append, HTl.out]; simp; omega, ⟨by rw [List.length_append, HTl.out]; exact hown11, fun y hy => by
                      rcases List.mem_append.1 hy with hy | hy
                      · exact HPc.out.2 y hy
                      · rw [List.mem_singleton.1 hy]
                        exact HYm.out⟩, HGo.out, HB11.out⟩)
                    clear hown11 hgrow11 hn10 hp10 ho10 hb10 hz10 ha10 x0 x1 x2 hsl
                    go_wp2_with fail
                    go_roundw
                    case rel => exact ⟨j + 1, _, by go_num, by omega, HSt11.out⟩
                    case measure => simp [intOf]; omega
                · have HBad := Lib.hid (by rw [HTw.out, if_neg hgo] : ExM.step vs kb ⟨fc, fa, fk, fn, fs⟩ p = .error r)
                  have hr0 : (r != 0) = true := by rw [bne_iff_ne]; exact fun h => hgo (Or.inl h)
                  have hr6 : kb = true → (r == 6) = false := fun h => by rw [beq_eq_false_iff_ne]; exact fun k => hgo (Or.inr ⟨h, k⟩)
                  have HErr2 := Lib.hid (HEr.out r HBad.out)
                  clear hgo HBad
                  have hway := way_bad hr6
                  clear hr6
                  rcases hway with ⟨rfl, hr6⟩ | rfl
                  all_goals
                    have HRe := Lib.hid (HErr2.out)
                    have hst := bx_store HZ9.out (.int .i64 0) (.int .i64 0) (.string ⟨#[]⟩)
                    obtain ⟨⟨g0, g1, g2⟩, _⟩ := hst
                    have G0 := Lib.hid g0
                    have G1 := Lib.hid g1
                    have G2 := Lib.hid g2
                    have HF := Lib.hid (stored3 (bt HB1.out HB9.out) (Nat.le_refl _) (.int .i64 0) (.int .i64 0) (.string ⟨#[]⟩))
                    obtain ⟨⟨z0, z1, z2⟩, z3, z4, z5⟩ := HZ9.out
                    clear g0 g1 g2
                    go_wp2_with fail
                    obtain ⟨W2, hW2⟩ : ∃ W2, W2 = ((w8.setCell ⟨w.heap.size, 0, none⟩ (.int .i64 0)).setCell ⟨w.heap.size, 1, none⟩ (.int .i64 0)).setCell ⟨w.heap.size, 2, none⟩ (.string ⟨#[]⟩) := ⟨_, rfl⟩
                    rw [← hW2] at HF G0 G1 G2 ⊢
                    have g0 := G0.out
                    have g1 := G1.out
                    have g2 := G2.out
                    clear hW2 z0 z1 z2 z3 z4 z5
                    exact bodyPost_ret (v := .tuple #[.agg #[.int .i64 0, .int .i64 0, .string ⟨#[]⟩], .int .i64 r]) (by simp [results, Tryz.results91, go_sem, g0, g1, g2]) rfl ⟨ret_v (by rw [HRe.out]; rfl), HF.out⟩
    · obtain rfl : j = n := by omega
      have hend := HEnd.out p HRun.out
      by_cases h1 : m = 1
      · have g1 : ((m : Int) != 1) = false := by rw [h1]; rfl
        rw [if_pos (by rw [← HM.out]; exact h1)] at hend
        obtain ⟨b2, q2, hi2, hc2, _, _⟩ := HSl.out.at v0 0 (by rw [← HM.out]; omega)
        have hi3 := fun W => hi2 W m c0 (by omega)
        rw [show ((0 : Nat) : Int) = 0 from rfl] at hi3
        obtain ⟨⟨ek, en, es⟩, he⟩ : ∃ e, e = p.getD 0 v0 := ⟨_, rfl⟩
        rw [← he] at hend hc2
        obtain ⟨y0, y1, y2⟩ := hc2 wr (Below.refl _ _)
        simp only at y0 y1 y2
        have HRe := Lib.hid hend
        have hst := bx_store HZr.out (.int .i64 ek) (.int .i64 en) (.string es)
        obtain ⟨⟨g0, g1', g2⟩, _⟩ := hst
        have G0 := Lib.hid g0
        have G1 := Lib.hid g1'
        have G2 := Lib.hid g2
        have HF := Lib.hid (stored3 (bt HB1.out HBl.out) (Nat.le_refl _) (.int .i64 ek) (.int .i64 en) (.string es))
        obtain ⟨⟨z0, z1, z2⟩, z3, z4, z5⟩ := HZr.out
        clear g0 g1' g2 h1 hend he hi2 hc2
        go_wp2_with fail
        obtain ⟨W2, hW2⟩ : ∃ W2, W2 = ((wr.setCell ⟨w.heap.size, 0, none⟩ (.int .i64 ek)).setCell ⟨w.heap.size, 1, none⟩ (.int .i64 en)).setCell ⟨w.heap.size, 2, none⟩ (.string es) := ⟨_, rfl⟩
        rw [← hW2] at HF G0 G1 G2 ⊢
        have g0 := G0.out
        have g1 := G1.out
        have g2 := G2.out
        clear hW2 z0 z1 z2 z3 z4 z5
        exact bodyPost_ret (v := .tuple #[.agg #[.int .i64 ek, .int .i64 en, .string es], .int .i64 0]) (by simp [results, Tryz.results91, go_sem, g0, g1, g2]) rfl ⟨ret_v (by rw [HRe.out]), HF.out⟩
      · have g1 : ((m : Int) != 1) = true := by rw [bne_iff_ne]; omega
        rw [if_neg (by rw [← HM.out]; exact h1)] at hend
        clear h1
        have HRe := Lib.hid (hend)
        have hst := bx_store HZr.out (.int .i64 0) (.int .i64 0) (.string ⟨#[]⟩)
        obtain ⟨⟨g0, g1, g2⟩, _⟩ := hst
        have G0 := Lib.hid g0
        have G1 := Lib.hid g1
        have G2 := Lib.hid g2
        have HF := Lib.hid (stored3 (bt HB1.out HBl.out) (Nat.le_refl _) (.int .i64 0) (.int .i64 0) (.string ⟨#[]⟩))
        obtain ⟨⟨z0, z1, z2⟩, z3, z4, z5⟩ := HZr.out
        clear g0 g1 g2
        go_wp2_with fail
        obtain ⟨W2, hW2⟩ : ∃ W2, W2 = ((wr.setCell ⟨w.heap.size, 0, none⟩ (.int .i64 0)).setCell ⟨w.heap.size, 1, none⟩ (.int .i64 0)).setCell ⟨w.heap.size, 2, none⟩ (.string ⟨#[]⟩) := ⟨_, rfl⟩
        rw [← hW2] at HF G0 G1 G2 ⊢
        have g0 := G0.out
        have g1 := G1.out
        have g2 := G2.out
        clear hW2 z0 z1 z2 z3 z4 z5
        exact bodyPost_ret (v := .tuple #[.agg #[.int .i64 0, .int .i64 0, .string ⟨#[]⟩], .int .i64 2]) (by simp [results, Tryz.results91, go_sem, g0, g1, g2]) rfl ⟨ret_v (by rw [HRe.out]; rfl), HF.out⟩
end Go.Proofs.YtbmdkibmfkmjoaaGreat.Ex

namespace Go.Proofs.YtbmdkibmfkmjoaaGreat.ExM
open Go.RowKit Go.Proofs.YtbmdkibmfkmjoaaGreat.BM Go.Proofs.YtbmdkibmfkmjoaaGreat.LeM Go.Proofs.YtbmdkibmfkmjoaaGreat.VaM Go.Proofs.YtbmdkibmfkmjoaaGreat.EvM Go.Proofs.YtbmdkibmfkmjoaaGreat.ScM

def pO (o : O) : List Int := o.c :: (if o.c = 0 then putV o.v else if o.c = 1 then [o.a] else [])
def pOs : List O → List Int
  | [] => []
  | o :: l => pO o ++ pOs l
def pL (l : List O) : List Int := putL l.length ++ pOs l

/-- Numbers that are ints. -/
def Rngs (l : List O) : Prop := ∀ x ∈ l, Rng x.v

theorem pOs_app (l m : List O) : pOs (l ++ m) = pOs l ++ pOs m := by
  induction l with
  | nil => rfl
  | cons o l ih => simp only [List.cons_append, pOs, ih, List.append_assoc]

theorem pOs_snoc (l : List O) (o : O) : pOs (l ++ [o]) = pOs l ++ pO o := by rw [pOs_app, pOs, pOs, List.append_nil]

theorem pO_bytes {o : O} (h : Ok o) : ∀ x ∈ pO o, (0 : Int) ≤ x ∧ x < 256 := by
  intro x hx
  unfold pO at hx
  rcases List.mem_cons.1 hx with rfl | hx
  · have h1 := h.1
    have h2 := h.2.1
    omega
  · split at hx
    · exact putV_bytes h.2.2.2.2.2.1 x hx
    · split at hx
      · obtain rfl : x = o.a := by simpa using hx
        have h1 := h.2.2.1
        have h2 := h.2.2.2.1
        omega
      · cases hx

theorem pO_len {o : O} (h : Ok o) (hr : Rng o.v) : 1 ≤ (pO o).length ∧ (pO o).length ≤ 52 := by
  unfold pO
  rw [List.length_cons]
  split
  · have := putV_len h.2.2.2.2.2.1 hr
    omega
  · split
    · simp
    · simp

theorem pOs_bytes : ∀ {l : List O}, (∀ x ∈ l, Ok x) → ∀ y ∈ pOs l, (0 : Int) ≤ y ∧ y < 256
  | [], _, y, hy => by cases hy
  | o :: l, h, y, hy => by
    rw [pOs] at hy
    rcases List.mem_append.1 hy with hy | hy
    · exact pO_bytes (h o (by simp)) y hy
    · exact pOs_bytes (fun x hx => h x (by simp [hx])) y hy

theorem pOs_len : ∀ {l : List O}, (∀ x ∈ l, Ok x) → Rngs l → (pOs l).length ≤ 52 * l.length
  | [], _, _ => by simp [pOs]
  | o :: l, h, hr => by
    have h1 := (pO_len (h o (by simp)) (hr o (by simp))).2
    have h2 := pOs_len (l := l) (fun x hx => h x (by simp [hx])) (fun x hx => hr x (by simp [hx]))
    rw [pOs, List.length_append, List.length_cons]
    omega

theorem pL_bytes {l : List O} (h : May l) : ∀ x ∈ pL l, (0 : Int) ≤ x ∧ x < 256 := bytes_app (putL_bytes _) (pOs_bytes fun _ hx => h.ok hx)

theorem pL_len {l : List O} (h : May l) (hr : Rngs l) : 1 ≤ (pL l).length ∧ (pL l).length ≤ 634 := by
  have h1 := pOs_len (fun _ hx => h.ok hx) hr
  have h2 := h.2
  have h3 := putL_len64 (n := l.length) (by omega)
  have h4 := putL_pos l.length
  rw [pL, List.length_append]
  omega

/-- A part. -/
def gO : List Int → Option (O × Nat)
  | [] => none
  | c :: r => if c = 0 then match getP r with
      | some (v, m) => some (⟨0, 0, v⟩, 1 + m)
      | none => none
    else if c = 1 then match r with
      | a :: _ => some (⟨1, a, v0⟩, 2)
      | [] => none
    else some (⟨c, 0, v0⟩, 1)

theorem gO_push (r : List Int) : gO (0 :: r) = match getP r with
    | some (v, m) => some (⟨0, 0, v⟩, 1 + m)
    | none => none := by
  simp only [gO, if_true]
theorem gO_other {c : Int} (r : List Int) (h0 : c ≠ 0) (h1 : c ≠ 1) : gO (c :: r) = some (⟨c, 0, v0⟩, 1) := by
  simp only [gO, if_neg h0, if_neg h1]

/-- So many parts. -/
def gOs : Nat → List Int → Option (List O × Nat)
  | 0, _ => some ([], 0)
  | n + 1, xs =>
    match gO xs with
    | some (x, m) => match gOs n (xs.drop m) with
      | some (l, k) => some (x :: l, m + k)
      | none => none
    | none => none

/-- An expression. -/
def gL (xs : List Int) : Option (List O × Nat) :=
  match getS xs with
  | none => none
  | some (n, u) =>
    if n ≤ 12 then
      match gOs n (xs.drop u) with
      | none => none
      | some (l, k) => if May l then some (l, u + k) else none
    else none

theorem rng_v0 : Rng v0 := ⟨by decide, by decide⟩

theorem gO_some {xs : List Int} (hb : ∀ x ∈ xs, (0 : Int) ≤ x ∧ x < 256) {o : O} {m : Nat} (h : gO xs = some (o, m)) : Rng o.v ∧ 1 ≤ m ∧ m ≤ xs.length ∧ pO o = xs.take m := by
  cases xs with
  | nil => cases h
  | cons c r =>
    have hr : ∀ x ∈ r, (0 : Int) ≤ x ∧ x < 256 := fun x hx => hb x (List.mem_cons_of_mem _ hx)
    simp only [gO] at h
    by_cases h0 : c = 0
    · rw [if_pos h0] at h
      cases hg : getP r with
      | none => rw [hg] at h; cases h
      | some p =>
        obtain ⟨v, a⟩ := p
        rw [hg] at h
        simp only [Option.some.injEq, Prod.mk.injEq] at h
        obtain ⟨rfl, rfl⟩ := h
        obtain ⟨h1, h2, h3, h4⟩ := getP_some hr hg
        refine ⟨h1, by omega, by rw [List.length_cons]; omega, ?_⟩
        rw [pO, if_pos rfl, h4, h0, Nat.add_comm, List.take_succ_cons]
    · rw [if_neg h0] at h
      by_cases h1 : c = 1
      · rw [if_pos h1] at h
        cases r with
        | nil => cases h
        | cons a r =>
          simp only [Option.some.injEq, Prod.mk.injEq] at h
          obtain ⟨rfl, rfl⟩ := h
          refine ⟨rng_v0, by omega, by simp, ?_⟩
          rw [h1]
          rfl
      · rw [if_neg h1] at h
        simp only [Option.some.injEq, Prod.mk.injEq] at h
        obtain ⟨rfl, rfl⟩ := h
        refine ⟨rng_v0, by omega, by simp, ?_⟩
        rw [pO, if_neg h0, if_neg h1]
        rfl

theorem gO_app {o : O} (hm : Ok o) (hr : Rng o.v) {ys : List Int} (hb : ∀ x ∈ ys, (0 : Int) ≤ x ∧ x < 256) : gO (pO o ++ ys) = some (o, (pO o).length) := by
  obtain ⟨c, a, v⟩ := o
  obtain ⟨h1, h2, h3, h4, h5, h6, h7⟩ := hm
  simp only at h1 h2 h3 h4 h5 h6 h7 hr
  unfold pO
  simp only
  by_cases h0 : c = 0
  · subst h0
    obtain rfl : a = 0 := by omega
    rw [if_pos rfl, List.cons_append, gO_push, getP_app hr h6 ys hb]
    simp only [List.length_cons]
    rw [Nat.add_comm]
  · rw [if_neg h0]
    obtain rfl : v = v0 := by
      rcases h7 with h | h
      · exact absurd h h0
      · exact h
    by_cases g1 : c = 1
    · subst g1
      rfl
    · obtain rfl : a = 0 := by omega
      rw [if_neg g1, List.cons_append, gO_other _ h0 g1]
      rfl

theorem gOs_some : ∀ (n : Nat) {xs : List Int} (_ : ∀ x ∈ xs, (0 : Int) ≤ x ∧ x < 256) {l : List O} {m : Nat} (_ : gOs n xs = some (l, m)),
    l.length = n ∧ Rngs l ∧ m ≤ xs.length ∧ pOs l = xs.take m
  | 0, xs, hb, l, m, h => by
    simp only [gOs, Option.some.injEq, Prod.mk.injEq] at h
    obtain ⟨rfl, rfl⟩ := h
    exact ⟨rfl, (fun f hf => by cases hf), Nat.zero_le _, rfl⟩
  | n + 1, xs, hb, l, m, h => by
    simp only [gOs] at h
    cases hg : gO xs with
    | none => rw [hg] at h; cases h
    | some p =>
      obtain ⟨x, a⟩ := p
      rw [hg] at h
      simp only at h
      obtain ⟨h1, h2, h3, h4⟩ := gO_some hb hg
      cases hr : gOs n (xs.drop a) with
      | none => rw [hr] at h; cases h
      | some q =>
        obtain ⟨r, k⟩ := q
        rw [hr] at h
        simp only [Option.some.injEq, Prod.mk.injEq] at h
        obtain ⟨rfl, rfl⟩ := h
        obtain ⟨g1, g2, g3, g4⟩ := gOs_some n (bytes_drop hb a) hr
        rw [List.length_drop] at g3
        refine ⟨by rw [List.length_cons, g1], ?_, by omega, ?_⟩
        · intro y hy
          rcases List.mem_cons.1 hy with rfl | hy
          · exact h1
          · exact g2 y hy
        · rw [pOs, h4, g4, List.take_add]

theorem gOs_app : ∀ (l : List O) (_ : ∀ x ∈ l, Rng x.v ∧ Ok x) {ys : List Int} (_ : ∀ x ∈ ys, (0 : Int) ≤ x ∧ x < 256), gOs l.length (pOs l ++ ys) = some (l, (pOs l).length)
  | [], _, ys, _ => rfl
  | x :: l, h, ys, hb => by
    have hx := h x (by simp)
    have hl : ∀ g ∈ l, Rng g.v ∧ Ok g := fun g hg => h g (by simp [hg])
    have hb' := bytes_app (pOs_bytes (fun g hg => (hl g hg).2)) hb
    simp only [List.length_cons, gOs, pOs]
    rw [List.append_assoc, gO_app hx.2 hx.1 hb']
    simp only
    rw [List.drop_left, gOs_app l hl hb]
    simp only [List.length_append]

theorem gL_some {xs : List Int} (hb : ∀ x ∈ xs, (0 : Int) ≤ x ∧ x < 256) {l : List O} {m : Nat} (h : gL xs = some (l, m)) : May l ∧ Rngs l ∧ m ≤ xs.length ∧ pL l = xs.take m := by
  unfold gL at h
  cases h2 : getS xs with
  | none => rw [h2] at h; cases h
  | some p =>
    obtain ⟨n, u⟩ := p
    rw [h2] at h
    simp only at h
    obtain ⟨b1, b2, b3⟩ := (getS_iff _ hb n u).1 h2
    by_cases hn : n ≤ 12
    · rw [if_pos hn] at h
      cases h4 : gOs n (xs.drop u) with
      | none => rw [h4] at h; cases h
      | some p =>
        obtain ⟨r, j⟩ := p
        rw [h4] at h
        simp only at h
        by_cases hm : May r
        · rw [if_pos hm] at h
          simp only [Option.some.injEq, Prod.mk.injEq] at h
          obtain ⟨rfl, rfl⟩ := h
          obtain ⟨d1, d2, d3, d4⟩ := gOs_some n (bytes_drop hb u) h4
          rw [List.length_drop] at d3
          refine ⟨hm, d2, by omega, ?_⟩
          rw [pL, d1, b3, d4, List.take_add]
        · rw [if_neg hm] at h
          cases h
    · rw [if_neg hn] at h
      cases h

/-- What is put is got, whatever stands behind. -/
theorem gL_app {l : List O} (hm : May l) (hr : Rngs l) {ys : List Int} (hb : ∀ x ∈ ys, (0 : Int) ≤ x ∧ x < 256) : gL (pL l ++ ys) = some (l, (pL l).length) := by
  have hf : ∀ x ∈ l, Ok x := fun f hf => hm.ok hf
  have b4 := bytes_app (pOs_bytes hf) hb
  have hl := hm.2
  unfold gL pL
  rw [List.append_assoc, getS_put (by omega) _ b4]
  simp only
  rw [if_pos hl, List.drop_left, gOs_app l (fun x hx => ⟨hr x hx, hf x hx⟩) hb]
  simp only
  rw [if_pos hm, List.length_append]

theorem gL_put {xs : List Int} (hb : ∀ x ∈ xs, (0 : Int) ≤ x ∧ x < 256) {l : List O} {m : Nat} (hs : May l) (hr : Rngs l) (hm : m ≤ xs.length) (hp : pL l = xs.take m) : gL xs = some (l, m) := by
  have h := gL_app hs hr (bytes_drop hb m)
  have hl := congrArg List.length hp
  rw [List.length_take, Nat.min_eq_left hm] at hl
  rw [hl, hp, List.take_append_drop] at h
  exact h

theorem pL_inj {a b : List O} (ma : May a) (mb : May b) (ra : Rngs a) (rb : Rngs b) (h : pL a = pL b) : a = b := by
  have h1 := gL_put (pL_bytes ma) (m := (pL a).length) ma ra (Nat.le_refl _) (by rw [List.take_length])
  have h2 := gL_put (pL_bytes mb) (m := (pL b).length) mb rb (Nat.le_refl _) (by rw [List.take_length])
  rw [h, h2] at h1
  simp only [Option.some.injEq, Prod.mk.injEq] at h1
  exact h1.1.symm

/-- What Put answers: the bytes. -/
def pv (l : List O) : List Int := if May l then pL l else []

theorem pv_bytes (l : List O) : ∀ x ∈ pv l, (0 : Int) ≤ x ∧ x < 256 := by
  unfold pv
  split
  · exact pL_bytes (by assumption)
  · simp

theorem pv_len {l : List O} (hr : Rngs l) : (pv l).length ≤ 634 := by
  unfold pv
  split
  · exact (pL_len (by assumption) hr).2
  · simp

/-- What Get answers. -/
def gotL : Option (List O × Nat) → List O × Nat × Bool
  | some (l, m) => (l, m, true)
  | none => ([], 0, false)
end Go.Proofs.YtbmdkibmfkmjoaaGreat.ExM

namespace Go.Proofs.YtbmdkibmfkmjoaaGreat.Gr
open Go.RowKit Go.Proofs.YtbmdkibmfkmjoaaGreat.BM Go.Proofs.YtbmdkibmfkmjoaaGreat.LeM Go.Proofs.YtbmdkibmfkmjoaaGreat.ScM

/-- Bytes. -/
def By (xs : List Int) : Prop := ∀ x ∈ xs, (0 : Int) ≤ x ∧ x < 256
theorem By.drop {xs : List Int} (h : By xs) (k : Nat) : By (xs.drop k) := bytes_drop h k
theorem By.app {xs ys : List Int} (h : By xs) (k : By ys) : By (xs ++ ys) := bytes_app h k

/-- How a part is put, and got: what is got is put as the same bytes, and what is put is got, whatever stands behind. -/
structure Law {α : Type} (g : List Int → Option (α × Nat)) (p : α → List Int) (ok : α → Prop) : Prop where
  some : ∀ {xs : List Int} {a : α} {m : Nat}, By xs → g xs = some (a, m) → ok a ∧ m ≤ xs.length ∧ p a = xs.take m
  app : ∀ {a : α} {ys : List Int}, ok a → By ys → g (p a ++ ys) = Option.some (a, (p a).length)
  bytes : ∀ {a : α}, ok a → By (p a)

section
variable {α β : Type} {g : List Int → Option (α × Nat)} {p : α → List Int} {ok : α → Prop}

/-- Bytes that begin by a part's are got as it. -/
theorem Law.put (h : Law g p ok) {xs : List Int} (hb : By xs) {a : α} {m : Nat} (ha : ok a) (hp : p a = xs.take m) (hm : m ≤ xs.length) : g xs = Option.some (a, m) := by
  have h1 := h.app (ys := xs.drop m) ha (hb.drop m)
  rw [hp, List.take_append_drop, List.length_take, Nat.min_eq_left hm] at h1
  exact h1

/-- A beginning is none. -/
theorem Law.cut (h : Law g p ok) {a : α} (ha : ok a) (k : Nat) (hk : k < (p a).length) : g ((p a).take k) = none := by
  cases hg : g ((p a).take k) with
  | none => rfl
  | some q =>
    obtain ⟨b, m⟩ := q
    obtain ⟨h1, h2, h3⟩ := h.some (fun x hx => h.bytes ha x (List.mem_of_mem_take hx)) hg
    rw [List.length_take] at h2
    rw [List.take_take, Nat.min_eq_left (by omega)] at h3
    have h4 := h.app (ys := (p a).drop m) h1 ((h.bytes ha).drop m)
    have h5 := h.app (ys := []) ha (fun x hx => by cases hx)
    rw [List.append_nil] at h5
    rw [h3, List.take_append_drop, h5] at h4
    injection h4 with h4
    injection h4 with h4 h6
    rw [List.length_take] at h6
    omega

/-- What is put of two is the same just if they are. -/
theorem Law.inj (h : Law g p ok) {a b : α} (ha : ok a) (hb : ok b) (e : p a = p b) : a = b := by
  have h1 := h.app (ys := []) ha (fun x hx => by cases hx)
  have h2 := h.app (ys := []) hb (fun x hx => by cases hx)
  rw [List.append_nil] at h1 h2
  rw [e, h2] at h1
  injection h1 with h1
  injection h1 with h1
  exact h1.symm

/-- One part, and then another one, that hangs on it. -/
def bind (g : List Int → Option (α × Nat)) (k : α → List Int → Option (β × Nat)) (xs : List Int) : Option ((α × β) × Nat) :=
  match g xs with
  | none => none
  | some (a, m) => match k a (xs.drop m) with
    | none => none
    | some (b, n) => some ((a, b), m + n)

theorem bind_none {k : α → List Int → Option (β × Nat)} {xs : List Int} (h : g xs = none) : bind g k xs = none := by rw [bind, h]
theorem bind_some {k : α → List Int → Option (β × Nat)} {xs : List Int} {a : α} {m : Nat} (h : g xs = some (a, m)) : bind g k xs = match k a (xs.drop m) with
    | none => none
    | some (b, n) => some ((a, b), m + n) := by rw [bind, h]

theorem Law.bind (h : Law g p ok) {k : α → List Int → Option (β × Nat)} {q : α → β → List Int} {ok2 : α → β → Prop} (h2 : ∀ a, ok a → Law (k a) (q a) (ok2 a)) :
    Law (Gr.bind g k) (fun x => p x.1 ++ q x.1 x.2) (fun x => ok x.1 ∧ ok2 x.1 x.2) where
  some := by
    intro xs x m hb hg
    unfold Gr.bind at hg
    cases h1 : g xs with
    | none => rw [h1] at hg; cases hg
    | some y =>
      obtain ⟨a, n⟩ := y
      rw [h1] at hg
      simp only at hg
      obtain ⟨a1, a2, a3⟩ := h.some hb h1
      cases h3 : k a (xs.drop n) with
      | none => rw [h3] at hg; cases hg
      | some z =>
        obtain ⟨b, j⟩ := z
        rw [h3] at hg
        simp only [Option.some.injEq, Prod.mk.injEq] at hg
        obtain ⟨rfl, rfl⟩ := hg
        obtain ⟨b1, b2, b3⟩ := (h2 a a1).some (hb.drop n) h3
        rw [List.length_drop] at b2
        refine ⟨⟨a1, b1⟩, by omega, ?_⟩
        simp only
        rw [a3, b3, ← List.take_add]
  app := by
    intro x ys hx hb
    obtain ⟨a, b⟩ := x
    simp only at hx ⊢
    have h3 := (h2 a hx.1).bytes hx.2
    rw [List.append_assoc, bind_some (h.app hx.1 (h3.app hb)), List.drop_left, (h2 a hx.1).app hx.2 hb]
    simp only [List.length_append]
  bytes := by
    intro x hx
    exact (h.bytes hx.1).app ((h2 _ hx.1).bytes hx.2)

/-- Nothing. -/
def unit (b : β) (_ : List Int) : Option (β × Nat) := some (b, 0)
theorem Law.unit (b : β) : Law (Gr.unit b) (fun _ => []) (fun x => x = b) where
  some := by
    intro xs a m _ h
    simp only [Gr.unit, Option.some.injEq, Prod.mk.injEq] at h
    obtain ⟨rfl, rfl⟩ := h
    exact ⟨rfl, Nat.zero_le _, rfl⟩
  app := by
    intro a ys ha _
    rw [ha]
    rfl
  bytes := by
    intro a _ x hx
    cases hx

/-- The same under another name. -/
def map (f : α → β) (g : List Int → Option (α × Nat)) (xs : List Int) : Option (β × Nat) :=
  match g xs with
  | none => none
  | some (a, m) => some (f a, m)

theorem Law.map (h : Law g p ok) (f : α → β) (i : β → α) {q : β → List Int} {ok2 : β → Prop} (hi : ∀ a, ok a → i (f a) = a) (hf : ∀ b, ok2 b → f (i b) = b ∧ ok (i b)) (hok : ∀ a, ok a → ok2 (f a)) (hq : ∀ b, ok2 b → q b = p (i b)) :
    Law (Gr.map f g) q ok2 where
  some := by
    intro xs b m hb hg
    unfold Gr.map at hg
    cases h1 : g xs with
    | none => rw [h1] at hg; cases hg
    | some y =>
      obtain ⟨a, n⟩ := y
      rw [h1] at hg
      simp only [Option.some.injEq, Prod.mk.injEq] at hg
      obtain ⟨rfl, rfl⟩ := hg
      obtain ⟨a1, a2, a3⟩ := h.some hb h1
      exact ⟨hok a a1, a2, by rw [hq _ (hok a a1), hi a a1, a3]⟩
  app := by
    intro b ys hb hy
    obtain ⟨h1, h2⟩ := hf b hb
    unfold Gr.map
    rw [hq b hb, h.app h2 hy]
    simp only [h1]
  bytes := by
    intro b hb
    rw [hq b hb]
    exact h.bytes (hf b hb).2

/-- Only what may be. -/
def only (ok : α → Prop) [DecidablePred ok] (g : List Int → Option (α × Nat)) (xs : List Int) : Option (α × Nat) :=
  match g xs with
  | none => none
  | some (a, m) => if ok a then some (a, m) else none

theorem Law.only (h : Law g p ok) (ok2 : α → Prop) [DecidablePred ok2] : Law (Gr.only ok2 g) p (fun a => ok a ∧ ok2 a) where
  some := by
    intro xs a m hb hg
    unfold Gr.only at hg
    cases h1 : g xs with
    | none => rw [h1] at hg; cases hg
    | some y =>
      obtain ⟨b, n⟩ := y
      rw [h1] at hg
      simp only at hg
      split at hg
      · rename_i h2
        simp only [Option.some.injEq, Prod.mk.injEq] at hg
        obtain ⟨rfl, rfl⟩ := hg
        obtain ⟨a1, a2, a3⟩ := h.some hb h1
        exact ⟨⟨a1, h2⟩, a2, a3⟩
      · cases hg
  app := by
    intro a ys ha hb
    unfold Gr.only
    rw [h.app ha.1 hb]
    simp only [if_pos ha.2]
  bytes := fun ha => h.bytes ha.1

/-- So many of them. -/
def many (g : List Int → Option (α × Nat)) : Nat → List Int → Option (List α × Nat)
  | 0, _ => some ([], 0)
  | n + 1, xs => match g xs with
    | none => none
    | some (a, m) => match many g n (xs.drop m) with
      | none => none
      | some (l, k) => some (a :: l, m + k)

def puts (p : α → List Int) : List α → List Int
  | [] => []
  | a :: l => p a ++ puts p l

theorem puts_app (l m : List α) : puts p (l ++ m) = puts p l ++ puts p m := by
  induction l with
  | nil => rfl
  | cons a l ih => simp only [List.cons_append, puts, ih, List.append_assoc]
theorem puts_snoc (l : List α) (a : α) : puts p (l ++ [a]) = puts p l ++ p a := by rw [puts_app, puts, puts, List.append_nil]

theorem Law.many (h : Law g p ok) : ∀ n : Nat, Law (Gr.many g n) (puts p) (fun l => l.length = n ∧ ∀ a ∈ l, ok a)
  | 0 => {
      some := by
        intro xs l m _ hg
        simp only [Gr.many, Option.some.injEq, Prod.mk.injEq] at hg
        obtain ⟨rfl, rfl⟩ := hg
        exact ⟨⟨rfl, fun a ha => by cases ha⟩, Nat.zero_le _, rfl⟩
      app := by
        intro l ys hl _
        obtain rfl := List.length_eq_zero_iff.1 hl.1
        rfl
      bytes := by
        intro l hl x hx
        obtain rfl := List.length_eq_zero_iff.1 hl.1
        cases hx }
  | n + 1 => {
      some := by
        intro xs l m hb hg
        simp only [Gr.many] at hg
        cases h1 : g xs with
        | none => rw [h1] at hg; cases hg
        | some y =>
          obtain ⟨a, j⟩ := y
          rw [h1] at hg
          simp only at hg
          obtain ⟨a1, a2, a3⟩ := h.some hb h1
          cases h3 : Gr.many g n (xs.drop j) with
          | none => rw [h3] at hg; cases hg
          | some z =>
            obtain ⟨r, k⟩ := z
            rw [h3] at hg
            simp only [Option.some.injEq, Prod.mk.injEq] at hg
            obtain ⟨rfl, rfl⟩ := hg
            obtain ⟨⟨b1, b1'⟩, b2, b3⟩ := (Law.many h n).some (hb.drop j) h3
            rw [List.length_drop] at b2
            refine ⟨⟨by rw [List.length_cons, b1], fun x hx => ?_⟩, by omega, ?_⟩
            · rcases List.mem_cons.1 hx with rfl | hx
              · exact a1
              · exact b1' x hx
            · rw [puts, a3, b3, ← List.take_add]
      app := by
        intro l ys hl hb
        obtain ⟨h1, h2⟩ := hl
        match l, h1 with
        | a :: r, h1 =>
          have ha := h2 a (List.mem_cons_self ..)
          have hr : r.length = n ∧ ∀ x ∈ r, ok x := ⟨by simpa using h1, fun x hx => h2 x (List.mem_cons_of_mem _ hx)⟩
          have hm := Law.many h n
          simp only [puts, Gr.many]
          rw [List.append_assoc, h.app ha ((hm.bytes hr).app hb)]
          simp only
          rw [List.drop_left, hm.app hr hb]
          simp only [List.length_append]
      bytes := by
        intro l hl
        obtain ⟨h1, h2⟩ := hl
        match l, h1 with
        | a :: r, h1 =>
          exact (h.bytes (h2 a (List.mem_cons_self ..))).app ((Law.many h n).bytes ⟨by simpa using h1, fun x hx => h2 x (List.mem_cons_of_mem _ hx)⟩) }
end

/-- A number that is at most another one. -/
def num (most : Nat) (xs : List Int) : Option (Nat × Nat) :=
  match getS xs with
  | none => none
  | some (n, u) => if n ≤ most then some (n, u) else none

theorem law_num {most : Nat} (hm : most < 18446744073709551616) : Law (num most) putL (fun n => n ≤ most) where
  some := by
    intro xs n m hb hg
    unfold num at hg
    cases h1 : getS xs with
    | none => rw [h1] at hg; cases hg
    | some y =>
      obtain ⟨v, u⟩ := y
      rw [h1] at hg
      simp only at hg
      split at hg
      · rename_i h2
        simp only [Option.some.injEq, Prod.mk.injEq] at hg
        obtain ⟨rfl, rfl⟩ := hg
        obtain ⟨b1, b2, b3⟩ := (getS_iff _ hb v u).1 h1
        exact ⟨h2, b2, b3.symm ▸ rfl⟩
      · cases hg
  app := by
    intro n ys hn hb
    unfold num
    rw [getS_put (by omega) ys hb]
    simp only [if_pos hn]
  bytes := fun _ => putL_bytes _

/-- A name's text. -/
theorem law_name : Law gN pn (fun s => s.size ≤ 12) where
  some := fun hb h => gN_some hb h
  app := fun h hb => gN_app h hb
  bytes := fun _ => pn_bytes _

/-- An expression. -/
theorem law_expr : Law ExM.gL ExM.pL (fun l => ExM.May l ∧ ExM.Rngs l) where
  some := fun hb h => by
    obtain ⟨h1, h2, h3, h4⟩ := ExM.gL_some hb h
    exact ⟨⟨h1, h2⟩, h3, h4⟩
  app := fun h hb => ExM.gL_app h.1 h.2 hb
  bytes := fun h => ExM.pL_bytes h.1
end Go.Proofs.YtbmdkibmfkmjoaaGreat.Gr

namespace Go.Proofs.YtbmdkibmfkmjoaaGreat.RgM
open Go.RowKit Go.Proofs.YtbmdkibmfkmjoaaGreat.BM Go.Proofs.YtbmdkibmfkmjoaaGreat.VaM
open Go.Proofs.YtbmdkibmfkmjoaaGreat.ScM (Sc F Fit)

/-- No schema. -/
def s0 : Sc := ⟨e0, 0, []⟩

/-- Where the first one of a name is. -/
def At (l : List Sc) (n : ByteArray) : Option Nat := l.findIdx? fun s => decide (s.s = n)

theorem getD_lt {l : List Sc} {i : Nat} (h : i < l.length) : l.getD i s0 = l[i] := by
  rw [List.getD_eq_getElem?_getD, List.getElem?_eq_getElem h]
  rfl

theorem at_some {l : List Sc} {n : ByteArray} {i : Nat} : At l n = some i ↔ i < l.length ∧ (l.getD i s0).s = n ∧ ∀ j, j < i → (l.getD j s0).s ≠ n := by
  unfold At
  rw [List.findIdx?_eq_some_iff_getElem]
  constructor
  · rintro ⟨h, h1, h2⟩
    refine ⟨h, by rw [getD_lt h]; simpa using h1, fun j hj => ?_⟩
    rw [getD_lt (by omega)]
    simpa using h2 j hj
  · rintro ⟨h, h1, h2⟩
    refine ⟨h, by rw [getD_lt h] at h1; simpa using h1, fun j hj => ?_⟩
    have h3 := h2 j hj
    rw [getD_lt (by omega)] at h3
    simpa using h3

theorem at_none {l : List Sc} {n : ByteArray} : At l n = none ↔ ∀ j, j < l.length → (l.getD j s0).s ≠ n := by
  unfold At
  rw [List.findIdx?_eq_none_iff]
  constructor
  · intro h j hj
    rw [getD_lt hj]
    simpa using h _ (List.getElem_mem hj)
  · intro h x hx
    obtain ⟨j, hj, rfl⟩ := List.getElem_of_mem hx
    have h1 := h j hj
    rw [getD_lt hj] at h1
    simpa using h1

/-- As a number: -1 if there is none. -/
def atI (l : List Sc) (n : ByteArray) : Int := match At l n with
  | some i => (i : Int)
  | none => -1

/-- The first n of them: each may be, and is not of a name ahead of it. -/
def LGd (l : List Sc) (n : Nat) : Prop := ∀ i, i < n → ScM.May (l.getD i s0) ∧ At l (l.getD i s0).s = some i
instance (l : List Sc) (n : Nat) : Decidable (LGd l n) := by unfold LGd; infer_instance
/-- May all be? -/
def May (l : List Sc) : Prop := LGd l l.length ∧ l.length ≤ 8
instance (l : List Sc) : Decidable (May l) := by unfold May; infer_instance

theorem LGd.succ {l : List Sc} {n : Nat} (h : LGd l n) (hn : ScM.May (l.getD n s0) ∧ At l (l.getD n s0).s = some n) : LGd l (n + 1) := by
  intro j hj
  by_cases e : j = n
  · exact e ▸ hn
  · exact h j (by omega)

/-- The j-th one is of a name ahead of it, or of its own first. -/
theorem at_self {l : List Sc} {j : Nat} (hj : j < l.length) : ∃ i, i ≤ j ∧ At l (l.getD j s0).s = some i := by
  cases h : At l (l.getD j s0).s with
  | none => exact absurd rfl (at_none.1 h j hj)
  | some i =>
    refine ⟨i, ?_, rfl⟩
    obtain ⟨_, _, h3⟩ := at_some.1 h
    rcases Nat.lt_or_ge j i with h4 | h4
    · exact absurd rfl (h3 j h4)
    · exact h4

/-- The one of a name. -/
def find (l : List Sc) (n : ByteArray) : Sc × Bool := match At l n with
  | some i => (l.getD i s0, true)
  | none => (s0, false)

/-- With one more, or the error. -/
def add (l : List Sc) (s : Sc) : List Sc × Int :=
  if ¬ (May l ∧ ScM.May s) then ([], 1) else match At l s.s with
  | none => if s.v ≠ 1 then ([], 5) else if 8 ≤ l.length then ([], 7) else (l ++ [s], 0)
  | some i => if l.getD i s0 = s then ([], 4) else if Fit (l.getD i s0) s then (l.set i s, 0) else ([], 5)

theorem add_1 {l : List Sc} {s : Sc} (h : ¬ (May l ∧ ScM.May s)) : add l s = ([], 1) := by rw [add, if_pos h]
theorem add_none {l : List Sc} {s : Sc} (h : May l ∧ ScM.May s) (ha : At l s.s = none) : add l s = if s.v ≠ 1 then ([], 5) else if 8 ≤ l.length then ([], 7) else (l ++ [s], 0) := by
  rw [add, if_neg (fun k => k h), ha]
theorem add_some {l : List Sc} {s : Sc} {i : Nat} (h : May l ∧ ScM.May s) (ha : At l s.s = some i) : add l s = if l.getD i s0 = s then ([], 4) else if Fit (l.getD i s0) s then (l.set i s, 0) else ([], 5) := by
  rw [add, if_neg (fun k => k h), ha]

theorem fit_ne {a b : Sc} (h : Fit a b) : a ≠ b := fun e => by
  have h1 := h.2.2.2.1
  rw [e] at h1
  omega

/-- What add does, where it has no error. -/
theorem add_ok {l : List Sc} {s : Sc} (h : (add l s).2 = 0) : May l ∧ ScM.May s ∧ ((At l s.s = none ∧ s.v = 1 ∧ l.length < 8 ∧ add l s = (l ++ [s], 0)) ∨ ∃ i, At l s.s = some i ∧ Fit (l.getD i s0) s ∧ add l s = (l.set i s, 0)) := by
  by_cases hm : May l ∧ ScM.May s
  · refine ⟨hm.1, hm.2, ?_⟩
    cases ha : At l s.s with
    | none =>
      rw [add_none hm ha] at h ⊢
      by_cases h1 : s.v ≠ 1
      · rw [if_pos h1] at h
        cases h
      · rw [if_neg h1] at h ⊢
        by_cases h2 : 8 ≤ l.length
        · rw [if_pos h2] at h
          cases h
        · rw [if_neg h2]
          exact Or.inl ⟨rfl, by simpa using h1, by omega, rfl⟩
    | some i =>
      rw [add_some hm ha] at h ⊢
      by_cases h1 : l.getD i s0 = s
      · rw [if_pos h1] at h
        cases h
      · rw [if_neg h1] at h ⊢
        by_cases h2 : Fit (l.getD i s0) s
        · rw [if_pos h2]
          exact Or.inr ⟨i, rfl, h2, rfl⟩
        · rw [if_neg h2] at h
          cases h
  · rw [add_1 hm] at h
    cases h

theorem add_err {l : List Sc} {s : Sc} (h : (add l s).2 ≠ 0) : (add l s).1 = [] := by
  by_cases hm : May l ∧ ScM.May s
  · cases ha : At l s.s with
    | none =>
      rw [add_none hm ha] at h ⊢
      split
      · rfl
      · rename_i h1
        rw [if_neg h1] at h
        split
        · rfl
        · rename_i h2
          rw [if_neg h2] at h
          exact absurd rfl h
    | some i =>
      rw [add_some hm ha] at h ⊢
      split
      · rfl
      · rename_i h1
        rw [if_neg h1] at h
        split
        · rename_i h2
          rw [if_pos h2] at h
          exact absurd rfl h
        · rfl
  · rw [add_1 hm]

theorem getD_snoc {l : List Sc} {s : Sc} (i : Nat) : (l ++ [s]).getD i s0 = if i < l.length then l.getD i s0 else if i = l.length then s else s0 := by
  rw [List.getD_eq_getElem?_getD, List.getD_eq_getElem?_getD]
  by_cases h : i < l.length
  · rw [if_pos h, List.getElem?_append_left h]
  · rw [if_neg h, List.getElem?_append_right (by omega)]
    by_cases h2 : i = l.length
    · subst h2
      simp
    · rw [if_neg h2, List.getElem?_eq_none (by simp only [List.length_cons, List.length_nil]; omega)]
      rfl

theorem getD_set {l : List Sc} {s : Sc} {k : Nat} (hk : k < l.length) (i : Nat) : (l.set k s).getD i s0 = if i = k then s else l.getD i s0 := by
  rw [List.getD_eq_getElem?_getD, List.getD_eq_getElem?_getD]
  by_cases h : i = k
  · subst h
    rw [if_pos rfl, List.getElem?_set_self hk]
    rfl
  · rw [if_neg h, List.getElem?_set_ne (Ne.symm h)]

/-- Names stay where they are. -/
theorem at_set {l : List Sc} {s : Sc} {k : Nat} (hk : k < l.length) (hn : (l.getD k s0).s = s.s) (n : ByteArray) : At (l.set k s) n = At l n := by
  have hg : ∀ i, ((l.set k s).getD i s0).s = (l.getD i s0).s := fun i => by
    rw [getD_set hk]
    split
    · rename_i e
      rw [e, hn]
    · rfl
  cases h : At l n with
  | none =>
    rw [at_none]
    intro j hj
    rw [List.length_set] at hj
    rw [hg]
    exact at_none.1 h j hj
  | some i =>
    obtain ⟨h1, h2, h3⟩ := at_some.1 h
    rw [at_some, List.length_set, hg]
    exact ⟨h1, h2, fun j hj => by rw [hg]; exact h3 j hj⟩

theorem at_snoc {l : List Sc} {s : Sc} {n : ByteArray} : At (l ++ [s]) n = match At l n with
    | some i => some i
    | none => if s.s = n then some l.length else none := by
  cases h : At l n with
  | some i =>
    obtain ⟨h1, h2, h3⟩ := at_some.1 h
    simp only
    rw [at_some, List.length_append, getD_snoc, if_pos h1]
    refine ⟨by simp only [List.length_cons, List.length_nil]; omega, h2, fun j hj => ?_⟩
    rw [getD_snoc, if_pos (by omega)]
    exact h3 j hj
  | none =>
    have h1 := at_none.1 h
    simp only
    by_cases hs : s.s = n
    · rw [if_pos hs, at_some, List.length_append, getD_snoc, if_neg (by omega), if_pos rfl]
      refine ⟨by simp only [List.length_cons, List.length_nil]; omega, hs, fun j hj => ?_⟩
      rw [getD_snoc, if_pos hj]
      exact h1 j hj
    · rw [if_neg hs, at_none]
      intro j hj
      rw [List.length_append, List.length_cons, List.length_nil] at hj
      rw [getD_snoc]
      split
      · rename_i h2
        exact h1 j h2
      · rw [if_pos (by omega)]
        exact hs

theorem may_snoc {l : List Sc} {s : Sc} (h : May l) (hs : ScM.May s) (ha : At l s.s = none) (hl : l.length < 8) : May (l ++ [s]) := by
  refine ⟨fun i hi => ?_, by rw [List.length_append]; simp only [List.length_cons, List.length_nil]; omega⟩
  rw [List.length_append, List.length_cons, List.length_nil] at hi
  rw [at_snoc, getD_snoc]
  split
  · rename_i h1
    obtain ⟨g1, g2⟩ := h.1 i h1
    rw [g2]
    exact ⟨g1, rfl⟩
  · rename_i h1
    have e : i = l.length := by omega
    rw [if_pos e, ha]
    simp only [if_true]
    exact ⟨hs, by rw [e]⟩

theorem may_set {l : List Sc} {s : Sc} {k : Nat} (h : May l) (hs : ScM.May s) (ha : At l s.s = some k) : May (l.set k s) := by
  obtain ⟨hk, hn, _⟩ := at_some.1 ha
  refine ⟨fun i hi => ?_, by rw [List.length_set]; exact h.2⟩
  rw [List.length_set] at hi
  rw [at_set hk hn, getD_set hk]
  split
  · rename_i e
    rw [e]
    exact ⟨hs, ha⟩
  · exact h.1 i hi

/-- What is added may be, and is found; added again it is there. -/
theorem add_found {l : List Sc} {s : Sc} (h : (add l s).2 = 0) : May (add l s).1 ∧ find (add l s).1 s.s = (s, true) ∧ (add (add l s).1 s).2 = 4 := by
  obtain ⟨hm, hs, hw⟩ := add_ok h
  have key : ∀ x : List Sc, add l s = (x, 0) → May x → (∃ i, At x s.s = some i ∧ x.getD i s0 = s) → May (add l s).1 ∧ find (add l s).1 s.s = (s, true) ∧ (add (add l s).1 s).2 = 4 := by
    rintro x e hx ⟨i, h1, h2⟩
    rw [e]
    refine ⟨hx, ?_, ?_⟩
    · simp only [find, h1, h2]
    · rw [add_some ⟨hx, hs⟩ h1, if_pos h2]
  rcases hw with ⟨ha, _, hl, e⟩ | ⟨i, ha, _, e⟩
  · refine key _ e (may_snoc hm hs ha hl) ⟨l.length, ?_, ?_⟩
    · rw [at_snoc, ha]
      simp only [if_true]
    · rw [getD_snoc, if_neg (by omega), if_pos rfl]
  · obtain ⟨hk, hn, _⟩ := at_some.1 ha
    refine key _ e (may_set hm hs ha) ⟨i, by rw [at_set hk hn]; exact ha, ?_⟩
    rw [getD_set hk, if_pos rfl]

/-- Each other one is as it was. -/
theorem add_rest {l : List Sc} {s : Sc} (h : (add l s).2 = 0) : l.length ≤ (add l s).1.length ∧ (add l s).1.length ≤ l.length + 1 ∧
    ∀ i, i < l.length → ((add l s).1.getD i s0).s = (l.getD i s0).s ∧ ((l.getD i s0).s ≠ s.s → (add l s).1.getD i s0 = l.getD i s0) := by
  obtain ⟨hm, hs, hw⟩ := add_ok h
  rcases hw with ⟨ha, _, hl, e⟩ | ⟨k, ha, _, e⟩
  · rw [e]
    simp only [List.length_append, List.length_cons, List.length_nil]
    refine ⟨by omega, by omega, fun i hi => ?_⟩
    rw [getD_snoc, if_pos hi]
    exact ⟨rfl, fun _ => rfl⟩
  · obtain ⟨hk, hn, _⟩ := at_some.1 ha
    rw [e]
    simp only [List.length_set]
    refine ⟨Nat.le_refl _, by omega, fun i hi => ?_⟩
    rw [getD_set hk]
    split
    · rename_i e
      subst e
      exact ⟨hn.symm, fun h => absurd hn h⟩
    · exact ⟨rfl, fun _ => rfl⟩

/-- What is found is found again, as it was, or as one that fits it. -/
theorem add_grows {l : List Sc} {s : Sc} (h : (add l s).2 = 0) {n : ByteArray} {o : Sc} (hf : find l n = (o, true)) : ∃ u, find (add l s).1 n = (u, true) ∧ (u = o ∨ Fit o u) := by
  obtain ⟨hm, hs, hw⟩ := add_ok h
  cases ha : At l n with
  | none =>
    simp only [find, ha, Prod.mk.injEq] at hf
    cases hf.2
  | some i =>
    simp only [find, ha, Prod.mk.injEq, and_true] at hf
    obtain ⟨hi, hin, _⟩ := at_some.1 ha
    rcases hw with ⟨_, _, hl, e⟩ | ⟨k, hk, hfit, e⟩
    · refine ⟨o, ?_, Or.inl rfl⟩
      rw [e]
      simp only [find, at_snoc, ha, getD_snoc, if_pos hi, hf]
    · obtain ⟨k1, k2, _⟩ := at_some.1 hk
      rw [e]
      simp only [find, at_set k1 k2, ha, getD_set k1]
      by_cases ek : i = k
      · refine ⟨s, by rw [if_pos ek], Or.inr ?_⟩
        rw [← hf, ek]
        exact hfit
      · exact ⟨o, by rw [if_neg ek, hf], Or.inl rfl⟩
end Go.Proofs.YtbmdkibmfkmjoaaGreat.RgM

namespace Go.Proofs.YtbmdkibmfkmjoaaGreat.QyM
open Go.RowKit Go.Proofs.YtbmdkibmfkmjoaaGreat.BM Go.Proofs.YtbmdkibmfkmjoaaGreat.LeM Go.Proofs.YtbmdkibmfkmjoaaGreat.VaM Go.Proofs.YtbmdkibmfkmjoaaGreat.ExM
open Go.Proofs.YtbmdkibmfkmjoaaGreat.ScM (Nm pn gN Sc)
open Go.Proofs.YtbmdkibmfkmjoaaGreat.Gr (Law By)

/-- A step: of which name, what is asked, how often at least and at most, whether it is guarded, by which name and what. -/
structure St where
  s : ByteArray
  f : List O
  lo : Int
  hi : Int
  g : Bool
  t : ByteArray
  h : List O

theorem St.same {a b : St} (h1 : a.s = b.s) (h2 : a.f = b.f) (h3 : a.lo = b.lo) (h4 : a.hi = b.hi) (h5 : a.g = b.g) (h6 : a.t = b.t) (h7 : a.h = b.h) : a = b := by
  cases a; cases b; cases h1; cases h2; cases h3; cases h4; cases h5; cases h6; cases h7; rfl
theorem St.ext_iff' {a b : St} : a = b ↔ a.s = b.s ∧ a.f = b.f ∧ a.lo = b.lo ∧ a.hi = b.hi ∧ a.g = b.g ∧ a.t = b.t ∧ a.h = b.h :=
  ⟨fun e => by rw [e]; exact ⟨rfl, rfl, rfl, rfl, rfl, rfl, rfl⟩, fun ⟨h1, h2, h3, h4, h5, h6, h7⟩ => St.same h1 h2 h3 h4 h5 h6 h7⟩
instance : DecidableEq St := fun _ _ => decidable_of_iff _ St.ext_iff'.symm

/-- No step. -/
def t0 : St := ⟨e0, [], 0, 0, false, e0, []⟩

/-- A query: its steps, within which time, what is told, of which step, of which field. -/
structure Q where
  p : List St
  w : Int
  a : Int
  i : Int
  f : Int

theorem Q.same {a b : Q} (h1 : a.p = b.p) (h2 : a.w = b.w) (h3 : a.a = b.a) (h4 : a.i = b.i) (h5 : a.f = b.f) : a = b := by
  cases a; cases b; cases h1; cases h2; cases h3; cases h4; cases h5; rfl
theorem Q.ext_iff' {a b : Q} : a = b ↔ a.p = b.p ∧ a.w = b.w ∧ a.a = b.a ∧ a.i = b.i ∧ a.f = b.f :=
  ⟨fun e => by rw [e]; exact ⟨rfl, rfl, rfl, rfl, rfl⟩, fun ⟨h1, h2, h3, h4, h5⟩ => Q.same h1 h2 h3 h4 h5⟩
instance : DecidableEq Q := fun _ _ => decidable_of_iff _ Q.ext_iff'.symm
/-- No query. -/
def q0 : Q := ⟨[], 0, 0, 0, 0⟩

/-- Is a step well made, being the first one or not, the last one or not? -/
def StOk (x : St) (first last : Prop) : Prop :=
  Nm x.s ∧ ExM.May x.f ∧ 1 ≤ x.lo ∧ x.lo ≤ x.hi ∧ x.hi ≤ 4 ∧ (last → x.lo = x.hi) ∧ (x.g = false → x.t = e0 ∧ x.h = []) ∧ (x.g = true → ¬ first ∧ Nm x.t ∧ ExM.May x.h)
instance (x : St) (first last : Prop) [Decidable first] [Decidable last] : Decidable (StOk x first last) := by unfold StOk; infer_instance

/-- The first k steps. -/
def StsOk (p : List St) (k : Nat) : Prop := ∀ j, j < k → StOk (p.getD j t0) (j = 0) (j + 1 = p.length)
instance (p : List St) (k : Nat) : Decidable (StsOk p k) := by unfold StsOk; infer_instance
theorem StsOk.succ {p : List St} {k : Nat} (h : StsOk p k) (hk : StOk (p.getD k t0) (k = 0) (k + 1 = p.length)) : StsOk p (k + 1) := by
  intro j hj
  by_cases e : j = k
  · exact e ▸ hk
  · exact h j (by omega)

/-- Is a query well made? -/
def May (q : Q) : Prop :=
  (1 ≤ q.p.length ∧ q.p.length ≤ 4) ∧ (0 ≤ q.w ∧ q.w ≤ 1125899906842624) ∧ (0 ≤ q.a ∧ q.a < 4) ∧ (0 ≤ q.i ∧ q.i < (q.p.length : Int)) ∧ (0 ≤ q.f ∧ q.f < 6) ∧ (q.a = 0 → q.f = 0) ∧ StsOk q.p q.p.length
instance (q : Q) : Decidable (May q) := by unfold May; infer_instance

theorem getD_mem {p : List St} {j : Nat} (h : j < p.length) : p.getD j t0 ∈ p := by
  rw [List.getD_eq_getElem?_getD, List.getElem?_eq_getElem h]
  exact List.getElem_mem h

theorem May.ok {q : Q} (h : May q) {x : St} (hx : x ∈ q.p) : ∃ first last : Prop, StOk x first last := by
  obtain ⟨j, hj, rfl⟩ := List.getElem_of_mem hx
  have h1 := h.2.2.2.2.2.2 j hj
  rw [List.getD_eq_getElem?_getD, List.getElem?_eq_getElem hj] at h1
  exact ⟨_, _, h1⟩

/-- Why a name, and what is asked, may not be. -/
def asks (l : List Sc) (n : ByteArray) (f : List O) : Int :=
  if (RgM.find l n).2 = false then 3 else if f = [] then 0 else if (kind (RgM.find l n).1 f).2 = 0 ∧ (kind (RgM.find l n).1 f).1 ≠ 1 then 5 else (kind (RgM.find l n).1 f).2

/-- Of a step. -/
def asksS (l : List Sc) (x : St) : Int := if asks l x.s x.f = 0 ∧ x.g = true then asks l x.t x.h else asks l x.s x.f

/-- Of steps, one by one: the first error. -/
def asksP (l : List Sc) : List St → Int
  | [] => 0
  | x :: p => if asksS l x = 0 then asksP l p else asksS l x

/-- Is what is told of a field none, or no Int? -/
def aggBad (l : List Sc) (q : Q) : Prop := q.a ≠ 0 ∧ ¬ (q.f < ((RgM.find l (q.p.getD q.i.toNat t0).s).1.f.length : Int) ∧ ((RgM.find l (q.p.getD q.i.toNat t0).s).1.f.getD q.f.toNat ScM.d0).k = 0)
instance (l : List Sc) (q : Q) : Decidable (aggBad l q) := by unfold aggBad; infer_instance

/-- Why a query is not right by schemas. -/
def check (l : List Sc) (q : Q) : Int :=
  if ¬ (RgM.May l ∧ May q) then 1 else if asksP l q.p ≠ 0 then asksP l q.p else if aggBad l q then 5 else 0

theorem asksP_app (l : List Sc) : ∀ (p r : List St), asksP l (p ++ r) = if asksP l p = 0 then asksP l r else asksP l p
  | [], r => by rw [List.nil_append, asksP, if_pos rfl]
  | x :: p, r => by
    rw [List.cons_append, asksP, asksP, asksP_app l p r]
    by_cases h : asksS l x = 0
    · rw [if_pos h, if_pos h]
    · rw [if_neg h, if_neg h, if_neg h]

/-- The first k of them are right. -/
theorem asksP_zero {l : List Sc} : ∀ {p : List St}, asksP l p = 0 ↔ ∀ x ∈ p, asksS l x = 0
  | [] => ⟨(fun _ x hx => by cases hx), fun _ => rfl⟩
  | x :: p => by
    rw [asksP]
    constructor
    · intro h
      by_cases h1 : asksS l x = 0
      · rw [if_pos h1] at h
        intro y hy
        rcases List.mem_cons.1 hy with rfl | hy
        · exact h1
        · exact asksP_zero.1 h y hy
      · rw [if_neg h1] at h
        exact absurd h h1
    · intro h
      rw [if_pos (h x (List.mem_cons_self ..))]
      exact asksP_zero.2 fun y hy => h y (List.mem_cons_of_mem _ hy)

/-- The first error stands at j. -/
theorem asksP_at {l : List Sc} {p : List St} {j : Nat} (hj : j < p.length) (h0 : ∀ i, i < j → asksS l (p.getD i t0) = 0) (h : asksS l (p.getD j t0) ≠ 0) : asksP l p = asksS l (p.getD j t0) := by
  have hp : p = p.take j ++ (p.getD j t0 :: p.drop (j + 1)) := by
    rw [List.getD_eq_getElem?_getD, List.getElem?_eq_getElem hj]
    simp
  have h1 : asksP l (p.take j) = 0 := asksP_zero.2 fun x hx => by
    obtain ⟨i, hi, rfl⟩ := List.getElem_of_mem hx
    rw [List.length_take] at hi
    have h2 := h0 i (by omega)
    rw [List.getD_eq_getElem?_getD, List.getElem?_eq_getElem (by omega)] at h2
    rw [List.getElem_take]
    exact h2
  generalize p.getD j t0 = x at hp h ⊢
  rw [hp, asksP_app, if_pos h1, asksP, if_neg h]

/- A query's bytes. -/
def pG (g : Bool) (th : ByteArray × List O) : List Int := if g = true then pn th.1 ++ pL th.2 else []
def pSt (x : St) : List Int := pn x.s ++ (pL x.f ++ (putL x.lo.toNat ++ (putL x.hi.toNat ++ (putL (if x.g = true then 1 else 0) ++ pG x.g (x.t, x.h)))))
def pQ (q : Q) : List Int := putL q.p.length ++ (Gr.puts pSt q.p ++ (putL q.w.toNat ++ (putL q.a.toNat ++ (putL q.i.toNat ++ putL q.f.toNat))))

/-- What stands behind the guard. -/
def gG (g : Nat) : List Int → Option ((ByteArray × List O) × Nat) := if g = 1 then Gr.bind gN (fun _ => gL) else Gr.unit (e0, [])
/-- A step, part by part. -/
def gStP : List Int → Option ((ByteArray × List O × Nat × Nat × Nat × (ByteArray × List O)) × Nat) :=
  Gr.bind gN fun _ => Gr.bind gL fun _ => Gr.bind (Gr.num 4) fun _ => Gr.bind (Gr.num 4) fun _ => Gr.bind (Gr.num 1) gG
def stOf (y : ByteArray × List O × Nat × Nat × Nat × (ByteArray × List O)) : St := ⟨y.1, y.2.1, y.2.2.1, y.2.2.2.1, decide (y.2.2.2.2.1 = 1), y.2.2.2.2.2.1, y.2.2.2.2.2.2⟩
def gSt : List Int → Option (St × Nat) := Gr.map stOf gStP
/-- A query, part by part. -/
def gQP : List Int → Option ((Nat × List St × Nat × Nat × Nat × Nat) × Nat) :=
  Gr.bind (Gr.num 4) fun n => Gr.bind (Gr.many gSt n) fun _ => Gr.bind (Gr.num 1125899906842624) fun _ => Gr.bind (Gr.num 4) fun _ => Gr.bind (Gr.num 4) fun _ => Gr.num 6
def qOf (y : Nat × List St × Nat × Nat × Nat × Nat) : Q := ⟨y.2.1, y.2.2.1, y.2.2.2.1, y.2.2.2.2.1, y.2.2.2.2.2⟩
def gQ : List Int → Option (Q × Nat) := Gr.only May (Gr.map qOf gQP)

/-- What a step that is got is like. -/
def OkS (x : St) : Prop := x.s.size ≤ 12 ∧ (ExM.May x.f ∧ Rngs x.f) ∧ (0 ≤ x.lo ∧ x.lo ≤ 4) ∧ (0 ≤ x.hi ∧ x.hi ≤ 4) ∧ (x.g = false → x.t = e0 ∧ x.h = []) ∧ (x.g = true → x.t.size ≤ 12 ∧ ExM.May x.h ∧ Rngs x.h)
def OkQ (q : Q) : Prop := q.p.length ≤ 4 ∧ (∀ x ∈ q.p, OkS x) ∧ (0 ≤ q.w ∧ q.w ≤ 1125899906842624) ∧ (0 ≤ q.a ∧ q.a ≤ 4) ∧ (0 ≤ q.i ∧ q.i ≤ 4) ∧ (0 ≤ q.f ∧ q.f ≤ 6)

theorem law_g {g : Nat} (hg : g ≤ 1) : Law (gG g) (fun th => pG (decide (g = 1)) th) (fun th => (g = 0 → th = (e0, [])) ∧ (g = 1 → th.1.size ≤ 12 ∧ ExM.May th.2 ∧ Rngs th.2)) := by
  by_cases h : g = 1
  · subst h
    have hl := Gr.law_name.bind (k := fun _ => gL) (q := fun _ => pL) (ok2 := fun _ l => ExM.May l ∧ Rngs l) (fun _ _ => Gr.law_expr)
    have e1 : gG 1 = Gr.bind gN (fun _ => gL) := rfl
    rw [e1]
    exact {
      some := fun hb hx => by
        obtain ⟨h1, h2, h3⟩ := hl.some hb hx
        exact ⟨⟨fun e => by omega, fun _ => h1⟩, h2, h3⟩
      app := fun ha hy => hl.app (ha.2 rfl) hy
      bytes := fun ha => hl.bytes (ha.2 rfl) }
  · have h0 : g = 0 := by omega
    subst h0
    have hl := Law.unit ((e0, []) : ByteArray × List O)
    have e1 : gG 0 = Gr.unit (e0, []) := rfl
    rw [e1]
    exact {
      some := fun hb hx => by
        obtain ⟨h1, h2, h3⟩ := hl.some hb hx
        exact ⟨⟨fun _ => h1, fun e => by omega⟩, h2, h3⟩
      app := fun ha hy => hl.app (ha.1 rfl) hy
      bytes := fun ha => hl.bytes (ha.1 rfl) }

theorem law_st : Law gSt pSt OkS := by
  have n4 := Gr.law_num (most := 4) (by decide)
  have n1 := Gr.law_num (most := 1) (by decide)
  have l6 := n1.bind (k := gG) (q := fun g th => pG (decide (g = 1)) th) (ok2 := fun g th => (g = 0 → th = (e0, [])) ∧ (g = 1 → th.1.size ≤ 12 ∧ ExM.May th.2 ∧ Rngs th.2)) (fun g hg => law_g hg)
  have l5 := n4.bind (k := fun _ => Gr.bind (Gr.num 1) gG) (ok2 := fun _ => _) (fun _ _ => l6)
  have l4 := n4.bind (k := fun _ => Gr.bind (Gr.num 4) fun _ => Gr.bind (Gr.num 1) gG) (ok2 := fun _ => _) (fun _ _ => l5)
  have l3 := Gr.law_expr.bind (k := fun _ => Gr.bind (Gr.num 4) fun _ => Gr.bind (Gr.num 4) fun _ => Gr.bind (Gr.num 1) gG) (ok2 := fun _ => _) (fun _ _ => l4)
  have l2 := Gr.law_name.bind (k := fun _ => Gr.bind gL fun _ => Gr.bind (Gr.num 4) fun _ => Gr.bind (Gr.num 4) fun _ => Gr.bind (Gr.num 1) gG) (ok2 := fun _ => _) (fun _ _ => l3)
  refine l2.map stOf (fun x => (x.s, x.f, x.lo.toNat, x.hi.toNat, (if x.g = true then 1 else 0), (x.t, x.h))) ?_ ?_ ?_ ?_
  · rintro ⟨s, f, lo, hi, g, t, h⟩ ⟨_, _, _, _, hg, _, _⟩
    simp only at hg
    simp only [stOf, Int.toNat_natCast, decide_eq_true_eq]
    have : (if g = 1 then 1 else 0) = g := by split <;> omega
    rw [this]
  · rintro ⟨s, f, lo, hi, g, t, h⟩ ⟨h1, h2, h3, h4, h5, h6⟩
    simp only at h1 h2 h3 h4 h5 h6
    refine ⟨?_, h1, h2, ?_, ?_, ?_, ?_, ?_⟩
    · simp only [stOf]
      rw [Int.toNat_of_nonneg h3.1, Int.toNat_of_nonneg h4.1]
      cases g <;> rfl
    · simp only
      omega
    · simp only
      omega
    · simp only
      cases g <;> simp
    · simp only
      intro e
      cases g
      · obtain ⟨rfl, rfl⟩ := h5 rfl
        rfl
      · cases e
    · simp only
      intro e
      cases g
      · cases e
      · exact h6 rfl
  · rintro ⟨s, f, lo, hi, g, t, h⟩ ⟨h1, h2, h3, h4, hg, h5, h6⟩
    simp only at h1 h2 h3 h4 hg h5 h6
    refine ⟨h1, h2, ⟨by simp only [stOf]; omega, by simp only [stOf]; omega⟩, ⟨by simp only [stOf]; omega, by simp only [stOf]; omega⟩, fun e => ?_, fun e => ?_⟩
    · simp only [stOf, decide_eq_false_iff_not] at e ⊢
      have h7 := h5 (by omega)
      injection h7 with h8 h9
      exact ⟨h8, h9⟩
    · simp only [stOf, decide_eq_true_eq] at e ⊢
      exact h6 e
  · rintro ⟨s, f, lo, hi, g, t, h⟩ _
    cases g <;> rfl

theorem law_q : Law gQ pQ (fun q => OkQ q ∧ May q) := by
  have n4 := Gr.law_num (most := 4) (by decide)
  have nw := Gr.law_num (most := 1125899906842624) (by decide)
  have n6 := Gr.law_num (most := 6) (by decide)
  have l5 := n4.bind (k := fun _ => Gr.num 6) (q := fun _ => putL) (ok2 := fun _ n => n ≤ 6) (fun _ _ => n6)
  have l4 := n4.bind (k := fun _ => Gr.bind (Gr.num 4) fun _ => Gr.num 6) (ok2 := fun _ => _) (fun _ _ => l5)
  have l3 := nw.bind (k := fun _ => Gr.bind (Gr.num 4) fun _ => Gr.bind (Gr.num 4) fun _ => Gr.num 6) (ok2 := fun _ => _) (fun _ _ => l4)
  have l2 := fun n => (law_st.many n).bind (k := fun _ => Gr.bind (Gr.num 1125899906842624) fun _ => Gr.bind (Gr.num 4) fun _ => Gr.bind (Gr.num 4) fun _ => Gr.num 6) (ok2 := fun _ => _) (fun _ _ => l3)
  have l1 := n4.bind (k := fun n => Gr.bind (Gr.many gSt n) fun _ => Gr.bind (Gr.num 1125899906842624) fun _ => Gr.bind (Gr.num 4) fun _ => Gr.bind (Gr.num 4) fun _ => Gr.num 6) (fun n _ => l2 n)
  refine (l1.map (ok2 := OkQ) (q := pQ) qOf (fun x => (x.p.length, x.p, x.w.toNat, x.a.toNat, x.i.toNat, x.f.toNat)) ?_ ?_ ?_ ?_).only May
  · rintro ⟨n, p, w, a, i, f⟩ ⟨_, ⟨hn, _⟩, _⟩
    simp only at hn
    simp only [qOf, Int.toNat_natCast, hn]
  · rintro ⟨p, w, a, i, f⟩ ⟨h1, h2, h3, h4, h5, h6⟩
    simp only at h1 h2 h3 h4 h5 h6
    refine ⟨?_, h1, ⟨rfl, h2⟩, ?_, ?_, ?_, ?_⟩
    · simp only [qOf]
      rw [Int.toNat_of_nonneg h3.1, Int.toNat_of_nonneg h4.1, Int.toNat_of_nonneg h5.1, Int.toNat_of_nonneg h6.1]
    · simp only
      omega
    · simp only
      omega
    · simp only
      omega
    · simp only
      omega
  · rintro ⟨n, p, w, a, i, f⟩ ⟨h1, ⟨hn, h2⟩, h3, h4, h5, h6⟩
    simp only at h1 hn h2 h3 h4 h5 h6
    refine ⟨by simp only [qOf]; omega, h2, ⟨by simp only [qOf]; omega, by simp only [qOf]; omega⟩, ⟨by simp only [qOf]; omega, by simp only [qOf]; omega⟩, ⟨by simp only [qOf]; omega, by simp only [qOf]; omega⟩, ⟨by simp only [qOf]; omega, by simp only [qOf]; omega⟩⟩
  · rintro ⟨p, w, a, i, f⟩ _
    rfl

/-- What a query has of numbers are ints. -/
def RngQ (q : Q) : Prop := ∀ x ∈ q.p, Rngs x.f ∧ Rngs x.h
theorem okQ_of {q : Q} (h : May q) (hr : RngQ q) : OkQ q := by
  obtain ⟨h1, h2, h3, h4, h5, _, _⟩ := id h
  refine ⟨h1.2, fun x hx => ?_, h2, ⟨h3.1, by omega⟩, ⟨h4.1, by omega⟩, ⟨h5.1, by omega⟩⟩
  obtain ⟨first, last, k1, k2, k3, k4, k5, _, k7, k8⟩ := h.ok hx
  have hn : ∀ {s : ByteArray}, Nm s → s.size ≤ 12 := fun h => (ScM.nm_size h).2
  exact ⟨hn k1, ⟨k2, (hr x hx).1⟩, ⟨by omega, by omega⟩, ⟨by omega, k5⟩, k7, fun e => ⟨hn (k8 e).2.1, (k8 e).2.2, (hr x hx).2⟩⟩

/-- What Put answers. -/
def pv (q : Q) : List Int := if May q then pQ q else []
/-- What Get answers. -/
def gotQ : Option (Q × Nat) → Q × Nat × Bool
  | some (q, m) => (q, m, true)
  | none => (q0, 0, false)
end Go.Proofs.YtbmdkibmfkmjoaaGreat.QyM

namespace Go.Proofs.YtbmdkibmfkmjoaaGreat.QyM
open Go.RowKit Go.Proofs.YtbmdkibmfkmjoaaGreat.BM Go.Proofs.YtbmdkibmfkmjoaaGreat.LeM Go.Proofs.YtbmdkibmfkmjoaaGreat.VaM Go.Proofs.YtbmdkibmfkmjoaaGreat.ExM
open Go.Proofs.YtbmdkibmfkmjoaaGreat.ScM (Nm pn gN Sc)
open Go.Proofs.YtbmdkibmfkmjoaaGreat.Gr (Law By num)

/-- Where it is, and whether it was wrong. -/
abbrev Rp := Nat × Bool

/-- A part. -/
def rd {α : Type} (g : List Int → Option (α × Nat)) (d : α) (xs : List Int) (s : Rp) : α × Rp :=
  if s.2 = true then (d, s) else match g (xs.drop s.1) with
    | none => (d, (s.1, true))
    | some (a, m) => (a, (s.1 + m, false))

section
variable {α : Type} {g : List Int → Option (α × Nat)} {d : α} {xs : List Int} {p : Nat}
theorem rd_bad : rd g d xs (p, true) = (d, (p, true)) := by rw [rd, if_pos rfl]
theorem rd_none (h : g (xs.drop p) = none) : rd g d xs (p, false) = (d, (p, true)) := by simp [rd, h]
theorem rd_some {a : α} {m : Nat} (h : g (xs.drop p) = some (a, m)) : rd g d xs (p, false) = (a, (p + m, false)) := by simp [rd, h]
theorem rd_short {s : Rp} (h : s.2 = true) : (rd g d xs s).2.2 = true := by
  obtain ⟨p, b⟩ := s
  cases h
  rw [rd_bad]
end

/-- What stands behind the guard. -/
def rG (xs : List Int) (g : Nat) (s : Rp) : (ByteArray × List O) × Rp :=
  if g = 1 then (((rd gN e0 xs s).1, (rd gL [] xs (rd gN e0 xs s).2).1), (rd gL [] xs (rd gN e0 xs s).2).2) else ((e0, []), s)

theorem rG_short {xs : List Int} {g : Nat} {s : Rp} (h : s.2 = true) : (rG xs g s).2.2 = true := by
  unfold rG
  split
  · exact rd_short (rd_short h)
  · exact h

theorem rG_iff (xs : List Int) (g p : Nat) : match gG g (xs.drop p) with
    | some (th, m) => rG xs g (p, false) = (th, (p + m, false))
    | none => (rG xs g (p, false)).2.2 = true := by
  unfold gG rG
  by_cases hg : g = 1
  · rw [if_pos hg, if_pos hg]
    unfold Gr.bind
    cases h1 : gN (xs.drop p) with
    | none =>
      simp only
      rw [rd_none h1, rd_bad]
    | some y =>
      obtain ⟨t, a⟩ := y
      simp only [List.drop_drop]
      rw [rd_some h1]
      simp only
      cases h2 : gL (xs.drop (p + a)) with
      | none =>
        simp only
        rw [rd_none h2]
      | some z =>
        obtain ⟨l, k⟩ := z
        simp only
        rw [rd_some h2, Nat.add_assoc]
  · rw [if_neg hg, if_neg hg]
    rfl

/-- A step. -/
def rSt (xs : List Int) (s : Rp) : St × Rp :=
  let a := rd gN e0 xs s
  let f := rd gL [] xs a.2
  let lo := rd (num 4) 0 xs f.2
  let hi := rd (num 4) 0 xs lo.2
  let g := rd (num 1) 0 xs hi.2
  let th := rG xs g.1 g.2
  (⟨a.1, f.1, lo.1, hi.1, decide (g.1 = 1), th.1.1, th.1.2⟩, th.2)

theorem rSt_short {xs : List Int} {s : Rp} (h : s.2 = true) : (rSt xs s).2.2 = true := rG_short (rd_short (rd_short (rd_short (rd_short (rd_short h)))))

theorem rSt_iff (xs : List Int) (p : Nat) : match gSt (xs.drop p) with
    | some (x, m) => rSt xs (p, false) = (x, (p + m, false))
    | none => (rSt xs (p, false)).2.2 = true := by
  unfold gSt gStP Gr.map Gr.bind rSt
  cases h1 : gN (xs.drop p) with
  | none =>
    simp only
    rw [rd_none h1]
    exact rG_short (rd_short (rd_short (rd_short (rd_short rfl))))
  | some y1 =>
    obtain ⟨s, a⟩ := y1
    simp only [List.drop_drop]
    rw [rd_some h1]
    cases h2 : gL (xs.drop (p + a)) with
    | none =>
      simp only
      rw [rd_none h2]
      exact rG_short (rd_short (rd_short (rd_short rfl)))
    | some y2 =>
      obtain ⟨f, b⟩ := y2
      simp only
      rw [rd_some h2]
      cases h3 : num 4 (xs.drop (p + a + b)) with
      | none =>
        simp only
        rw [rd_none h3]
        exact rG_short (rd_short (rd_short rfl))
      | some y3 =>
        obtain ⟨lo, c⟩ := y3
        simp only
        rw [rd_some h3]
        cases h4 : num 4 (xs.drop (p + a + b + c)) with
        | none =>
          simp only
          rw [rd_none h4]
          exact rG_short (rd_short rfl)
        | some y4 =>
          obtain ⟨hi, e⟩ := y4
          simp only
          rw [rd_some h4]
          cases h5 : num 1 (xs.drop (p + a + b + c + e)) with
          | none =>
            simp only
            rw [rd_none h5]
            exact rG_short rfl
          | some y5 =>
            obtain ⟨g, k⟩ := y5
            simp only
            rw [rd_some h5]
            have h6 := rG_iff xs g (p + a + b + c + e + k)
            cases h7 : gG g (xs.drop (p + a + b + c + e + k)) with
            | none =>
              rw [h7] at h6
              simp only at h6 ⊢
              exact h6
            | some y6 =>
              obtain ⟨th, m⟩ := y6
              rw [h7] at h6
              simp only at h6 ⊢
              rw [h6]
              simp only [stOf, Nat.add_assoc]

/-- Steps, one by one, from a place on: what a loop knows of them. -/
def Got (xs : List Int) (p0 j : Nat) (l : List St) (s : Rp) : Prop :=
  l.length ≤ j ∧ (∀ x ∈ l, ∃ s, x = (rSt xs s).1) ∧ (s.2 = false → Gr.many gSt j (xs.drop p0) = some (l, s.1 - p0) ∧ p0 ≤ s.1) ∧ (s.2 = true → ∀ n, j ≤ n → Gr.many gSt n (xs.drop p0) = none)

theorem many_snoc {g : List Int → Option (St × Nat)} : ∀ (j : Nat) (xs : List Int) {l : List St} {m : Nat}, Gr.many g j xs = some (l, m) → Gr.many g (j + 1) xs = match g (xs.drop m) with
    | none => none
    | some (x, k) => some (l ++ [x], m + k)
  | 0, xs, l, m, h => by
    simp only [Gr.many, Option.some.injEq, Prod.mk.injEq] at h
    obtain ⟨rfl, rfl⟩ := h
    simp only [Gr.many, List.drop_zero]
    cases g xs with
    | none => rfl
    | some y => simp
  | j + 1, xs, l, m, h => by
    rw [Gr.many] at h ⊢
    cases h1 : g xs with
    | none => rw [h1] at h; cases h
    | some y =>
      obtain ⟨a, k⟩ := y
      rw [h1] at h
      simp only at h ⊢
      cases h2 : Gr.many g j (xs.drop k) with
      | none => rw [h2] at h; cases h
      | some z =>
        obtain ⟨r, i⟩ := z
        rw [h2] at h
        simp only [Option.some.injEq, Prod.mk.injEq] at h
        obtain ⟨rfl, rfl⟩ := h
        rw [many_snoc j _ h2, List.drop_drop]
        cases g (xs.drop (k + i)) with
        | none => rfl
        | some y =>
          simp only [List.cons_append, Nat.add_assoc]

theorem many_more {g : List Int → Option (St × Nat)} : ∀ (n : Nat) (xs : List Int), Gr.many g n xs = none → Gr.many g (n + 1) xs = none
  | 0, xs, h => by cases h
  | n + 1, xs, h => by
    rw [Gr.many] at h ⊢
    cases h1 : g xs with
    | none => rfl
    | some y =>
      obtain ⟨a, k⟩ := y
      rw [h1] at h
      simp only at h ⊢
      cases h2 : Gr.many g n (xs.drop k) with
      | none => rw [many_more n _ h2]
      | some z => rw [h2] at h; cases h

theorem many_less {g : List Int → Option (St × Nat)} {j : Nat} {xs : List Int} (h : Gr.many g j xs = none) : ∀ n, j ≤ n → Gr.many g n xs = none := by
  intro n hn
  obtain ⟨k, rfl⟩ := Nat.exists_eq_add_of_le hn
  clear hn
  induction k with
  | zero => exact h
  | succ k ih => exact many_more _ _ ih

theorem got_0 (xs : List Int) (p : Nat) : Got xs p 0 [] (p, false) := ⟨Nat.le_refl _, (fun x hx => by cases hx), fun _ => ⟨by rw [Nat.sub_self]; rfl, Nat.le_refl _⟩, fun h => by cases h⟩

theorem Got.step {xs : List Int} {p0 j : Nat} {l : List St} {p : Nat} (h : Got xs p0 j l (p, false)) : Got xs p0 (j + 1) (l ++ [(rSt xs (p, false)).1]) (rSt xs (p, false)).2 := by
  obtain ⟨h1, h2, h3, _⟩ := h
  obtain ⟨h5, h6⟩ := h3 rfl
  have h7 := many_snoc j (xs.drop p0) h5
  simp only at h6 h7
  rw [List.drop_drop, show p0 + (p - p0) = p from by omega] at h7
  have h8 := rSt_iff xs p
  refine ⟨by rw [List.length_append]; simp only [List.length_cons, List.length_nil]; omega, fun x hx => ?_, ?_, ?_⟩
  · rcases List.mem_append.1 hx with hx | hx
    · exact h2 x hx
    · exact ⟨_, List.mem_singleton.1 hx⟩
  · intro hb
    cases hg : gSt (xs.drop p) with
    | none =>
      rw [hg] at h8
      simp only at h8
      rw [h8] at hb
      cases hb
    | some y =>
      obtain ⟨x, m⟩ := y
      rw [hg] at h7 h8
      simp only at h7 h8
      rw [h8, h7]
      have e : p - p0 + m = p + m - p0 := by omega
      rw [e]
      exact ⟨rfl, Nat.le_trans h6 (Nat.le_add_right _ _)⟩
  · intro hb
    cases hg : gSt (xs.drop p) with
    | none =>
      rw [hg] at h7
      exact many_less h7
    | some y =>
      obtain ⟨x, m⟩ := y
      rw [hg] at h8
      simp only at h8
      rw [h8] at hb
      cases hb

/-- What stands behind the steps. -/
def rTail (xs : List Int) (s : Rp) : (Nat × Nat × Nat × Nat) × Rp :=
  let w := rd (num 1125899906842624) 0 xs s
  let a := rd (num 4) 0 xs w.2
  let i := rd (num 4) 0 xs a.2
  let f := rd (num 6) 0 xs i.2
  ((w.1, a.1, i.1, f.1), f.2)

theorem rTail_short {xs : List Int} {s : Rp} (h : s.2 = true) : (rTail xs s).2.2 = true := rd_short (rd_short (rd_short (rd_short h)))

/-- What Get answers, by the reader: n the number of steps, j how many were got. -/
theorem gQ_read {xs : List Int} {n j : Nat} {l : List St} {s : Rp} (h : Got xs (rd (num 4) 0 xs (0, false)).2.1 j l s) (hn : n = (rd (num 4) 0 xs (0, false)).1) (h0 : (rd (num 4) 0 xs (0, false)).2.2 = true → s.2 = true) (hj : s.2 = false → j = n) (hj' : j ≤ n) :
    gotQ (gQ xs) = if (rTail xs s).2.2 = false ∧ May ⟨l, (rTail xs s).1.1, (rTail xs s).1.2.1, (rTail xs s).1.2.2.1, (rTail xs s).1.2.2.2⟩ then
      (⟨l, (rTail xs s).1.1, (rTail xs s).1.2.1, (rTail xs s).1.2.2.1, (rTail xs s).1.2.2.2⟩, (rTail xs s).2.1, true) else (q0, 0, false) := by
  obtain ⟨p, b⟩ := s
  obtain ⟨_, _, h3, h4⟩ := h
  simp only at h3 h4 h0 hj
  unfold gQ Gr.only Gr.map gQP
  cases e1 : num 4 xs with
  | none =>
    have e1' : num 4 (xs.drop 0) = none := e1
    rw [rd_none e1'] at h0
    have hb := h0 rfl
    subst hb
    rw [Gr.bind_none e1, if_neg (fun k => by rw [rTail_short rfl] at k; cases k.1)]
    rfl
  | some y1 =>
    obtain ⟨v, u⟩ := y1
    have e1' : num 4 (xs.drop 0) = some (v, u) := e1
    rw [rd_some e1'] at h3 h4 hn
    simp only [Nat.zero_add] at h3 h4 hn
    subst hn
    rw [Gr.bind_some e1]
    cases b with
    | true =>
      have e2 := h4 rfl n hj'
      rw [Gr.bind_none e2, if_neg (fun k => by rw [rTail_short rfl] at k; cases k.1)]
      rfl
    | false =>
      obtain rfl := hj rfl
      obtain ⟨e2, hp⟩ := h3 rfl
      rw [Gr.bind_some e2, List.drop_drop, show u + (p - u) = p from by omega]
      unfold rTail
      cases e3 : num 1125899906842624 (xs.drop p) with
      | none =>
        rw [Gr.bind_none e3, rd_none e3]
        simp only
        rw [if_neg (fun k => by rw [rd_short (rd_short (rd_short rfl))] at k; cases k.1)]
        rfl
      | some y3 =>
        obtain ⟨w, m3⟩ := y3
        rw [Gr.bind_some e3, rd_some e3, List.drop_drop]
        simp only
        cases e4 : num 4 (xs.drop (p + m3)) with
        | none =>
          rw [Gr.bind_none e4, rd_none e4]
          simp only
          rw [if_neg (fun k => by rw [rd_short (rd_short rfl)] at k; cases k.1)]
          rfl
        | some y4 =>
          obtain ⟨a, m4⟩ := y4
          rw [Gr.bind_some e4, rd_some e4, List.drop_drop]
          simp only
          cases e5 : num 4 (xs.drop (p + m3 + m4)) with
          | none =>
            rw [Gr.bind_none e5, rd_none e5]
            simp only
            rw [if_neg (fun k => by rw [rd_short rfl] at k; cases k.1)]
            rfl
          | some y5 =>
            obtain ⟨i, m5⟩ := y5
            rw [Gr.bind_some e5, rd_some e5, List.drop_drop]
            simp only
            cases e6 : num 6 (xs.drop (p + m3 + m4 + m5)) with
            | none =>
              rw [rd_none e6]
              simp only
              rw [if_neg (fun k => by cases k.1)]
              rfl
            | some y6 =>
              obtain ⟨f, m6⟩ := y6
              rw [rd_some e6]
              simp only
              by_cases hm : May (qOf (j, l, w, a, i, f))
              · rw [if_pos hm, if_pos ⟨trivial, hm⟩]
                simp only [gotQ, qOf]
                congr 2
                omega
              · rw [if_neg hm, if_neg (fun k => hm k.2)]
                rfl
end Go.Proofs.YtbmdkibmfkmjoaaGreat.QyM

namespace Go.Proofs.YtbmdkibmfkmjoaaGreat.ScM
open Go.RowKit Go.Proofs.YtbmdkibmfkmjoaaGreat.LeM Go.Proofs.YtbmdkibmfkmjoaaGreat.VaM Go.Proofs.YtbmdkibmfkmjoaaGreat.BM

/-- What is left, and whether it is short. -/
abbrev Rs := List Int × Bool

def rTake (n : Nat) (r : Rs) : List Int × Rs := if r.1.length < n then ([], (r.1, true)) else (r.1.take n, (r.1.drop n, r.2))
def rNum (most : Nat) (r : Rs) : Nat × Rs :=
  match getS r.1 with
  | some (n, u) => if n ≤ most then (n, (r.1.drop u, r.2)) else (0, (r.1, true))
  | none => (0, (r.1, true))
def rName (r : Rs) : ByteArray × Rs := (strOfNums (rTake (rNum 12 r).1 (rNum 12 r).2).1, (rTake (rNum 12 r).1 (rNum 12 r).2).2)
def rKind (r : Rs) : Int × Rs := (if (rTake 1 r).2.2 = true then 0 else (rTake 1 r).1.getD 0 0, (rTake 1 r).2)
def rField (r : Rs) : F × Rs := (⟨(rName r).1, (rKind (rName r).2).1⟩, (rKind (rName r).2).2)
def rFields : Nat → Rs → List F × Rs
  | 0, r => ([], r)
  | n + 1, r => ((rFields n r).1 ++ [(rField (rFields n r).2).1], (rField (rFields n r).2).2)
def rAll (xs : List Int) : Sc × Rs :=
  (⟨(rName (xs, false)).1, (rNum 1000 (rName (xs, false)).2).1, (rFields (rNum 6 (rNum 1000 (rName (xs, false)).2).2).1 (rNum 6 (rNum 1000 (rName (xs, false)).2).2).2).1⟩,
    (rFields (rNum 6 (rNum 1000 (rName (xs, false)).2).2).1 (rNum 6 (rNum 1000 (rName (xs, false)).2).2).2).2)

theorem rTake_short {n : Nat} {r : Rs} (h : r.2 = true) : (rTake n r).2.2 = true := by unfold rTake; split <;> first | rfl | exact h
theorem rNum_short {m : Nat} {r : Rs} (h : r.2 = true) : (rNum m r).2.2 = true := by
  unfold rNum
  split
  · split <;> first | rfl | exact h
  · rfl
theorem rName_short {r : Rs} (h : r.2 = true) : (rName r).2.2 = true := rTake_short (rNum_short h)
theorem rKind_short {r : Rs} (h : r.2 = true) : (rKind r).2.2 = true := rTake_short h
theorem rField_short {r : Rs} (h : r.2 = true) : (rField r).2.2 = true := rKind_short (rName_short h)
theorem rFields_short : ∀ {n : Nat} {r : Rs} (_ : r.2 = true), (rFields n r).2.2 = true
  | 0, _, h => h
  | _ + 1, _, h => rField_short (rFields_short h)

theorem rNum_le (m : Nat) (r : Rs) : (rNum m r).1 ≤ m := by
  unfold rNum
  split
  · split <;> simp [*]
  · exact Nat.zero_le _

theorem rName_iff (xs : List Int) : match gN xs with
    | some (t, m) => rName (xs, false) = (t, (xs.drop m, false))
    | none => (rName (xs, false)).2.2 = true := by
  unfold gN rName rNum
  cases hg : getS xs with
  | none => exact rTake_short rfl
  | some p =>
    obtain ⟨n, u⟩ := p
    simp only
    by_cases h12 : n ≤ 12
    · rw [if_pos h12]
      unfold rTake
      simp only [List.length_drop]
      by_cases hn : n ≤ xs.length - u
      · rw [if_pos ⟨h12, hn⟩]
        rw [if_neg (show ¬ xs.length - u < n from by omega)]
        simp only [List.drop_drop]
      · rw [if_neg (show ¬ (n ≤ 12 ∧ n ≤ xs.length - u) from fun h => hn h.2)]
        rw [if_pos (show xs.length - u < n from by omega)]
    · rw [if_neg h12, if_neg (show ¬ (n ≤ 12 ∧ n ≤ xs.length - u) from fun h => h12 h.1)]
      exact rTake_short rfl

theorem rField_iff (xs : List Int) : match gF xs with
    | some (f, m) => rField (xs, false) = (f, (xs.drop m, false))
    | none => (rField (xs, false)).2.2 = true := by
  have h := rName_iff xs
  unfold gF rField
  cases hg : gN xs with
  | none =>
    rw [hg] at h
    exact rKind_short h
  | some p =>
    obtain ⟨t, m⟩ := p
    rw [hg] at h
    simp only at h ⊢
    rw [h]
    unfold rKind rTake
    simp only [List.length_drop]
    by_cases hm : m < xs.length
    · rw [if_pos hm]
      have e : (List.take 1 (List.drop m xs)).getD 0 0 = xs.getD m 0 := by
        rw [drop_consB xs m hm]
        simp
      simp only [if_neg (show ¬ xs.length - m < 1 from by omega), List.drop_drop, e]
      rfl
    · rw [if_neg hm]
      simp only [if_pos (show xs.length - m < 1 from by omega)]

theorem rFields_cons : ∀ (n : Nat) (r : Rs), rFields (n + 1) r = ((rField r).1 :: (rFields n (rField r).2).1, (rFields n (rField r).2).2)
  | 0, r => rfl
  | n + 1, r => by
    have h := rFields_cons n r
    show ((rFields (n + 1) r).1 ++ [(rField (rFields (n + 1) r).2).1], (rField (rFields (n + 1) r).2).2) = _
    rw [h]
    rfl

theorem rFields_iff : ∀ (n : Nat) (xs : List Int), match gFs n xs with
    | some (l, m) => rFields n (xs, false) = (l, (xs.drop m, false))
    | none => (rFields n (xs, false)).2.2 = true
  | 0, xs => rfl
  | n + 1, xs => by
    have h := rField_iff xs
    rw [rFields_cons]
    simp only [gFs]
    cases hg : gF xs with
    | none =>
      rw [hg] at h
      exact rFields_short h
    | some p =>
      obtain ⟨f, m⟩ := p
      rw [hg] at h
      simp only at h ⊢
      rw [h]
      have h2 := rFields_iff n (xs.drop m)
      cases hr : gFs n (xs.drop m) with
      | none =>
        rw [hr] at h2
        exact h2
      | some q =>
        obtain ⟨l, k⟩ := q
        rw [hr] at h2
        simp only at h2 ⊢
        rw [h2, List.drop_drop]

theorem rNum_iff (m : Nat) (xs : List Int) : match getS xs with
    | some (n, u) => if n ≤ m then rNum m (xs, false) = (n, (xs.drop u, false)) else (rNum m (xs, false)).2.2 = true
    | none => (rNum m (xs, false)).2.2 = true := by
  unfold rNum
  cases hg : getS xs with
  | none => rfl
  | some p =>
    obtain ⟨n, u⟩ := p
    simp only
    split <;> rfl

theorem rAll_iff (xs : List Int) : match gA xs with
    | some (s, m) => rAll xs = (s, (xs.drop m, false))
    | none => (rAll xs).2.2 = true := by
  have h1 := rName_iff xs
  unfold gA rAll
  cases e1 : gN xs with
  | none =>
    rw [e1] at h1
    exact rFields_short (rNum_short (rNum_short h1))
  | some p =>
    obtain ⟨t, a⟩ := p
    rw [e1] at h1
    simp only at h1 ⊢
    rw [h1]
    have h2 := rNum_iff 1000 (xs.drop a)
    cases e2 : getS (xs.drop a) with
    | none =>
      rw [e2] at h2
      exact rFields_short (rNum_short h2)
    | some p =>
      obtain ⟨v, u⟩ := p
      rw [e2] at h2
      simp only at h2 ⊢
      by_cases hv : v ≤ 1000
      · rw [if_pos hv] at h2 ⊢
        rw [h2, List.drop_drop]
        have h3 := rNum_iff 6 (xs.drop (a + u))
        cases e3 : getS (xs.drop (a + u)) with
        | none =>
          rw [e3] at h3
          exact rFields_short h3
        | some p =>
          obtain ⟨n, m⟩ := p
          rw [e3] at h3
          simp only at h3 ⊢
          by_cases hn : n ≤ 6
          · rw [if_pos hn] at h3 ⊢
            rw [h3, List.drop_drop]
            have h4 := rFields_iff n (xs.drop (a + u + m))
            cases e4 : gFs n (xs.drop (a + u + m)) with
            | none =>
              rw [e4] at h4
              exact h4
            | some p =>
              obtain ⟨l, k⟩ := p
              rw [e4] at h4
              simp only at h4 ⊢
              rw [h4, List.drop_drop]
          · rw [if_neg hn] at h3 ⊢
            exact rFields_short h3
      · rw [if_neg hv] at h2 ⊢
        exact rFields_short (rNum_short h2)

/-- What Get answers, by the reader. -/
theorem gS_read {xs : List Int} (hb : ∀ x ∈ xs, (0 : Int) ≤ x ∧ x < 256) :
    gotS (gS xs) = if (rAll xs).2.2 = false ∧ May (rAll xs).1 then ((rAll xs).1, xs.length - (rAll xs).2.1.length, true) else (⟨e0, 0, []⟩, 0, false) := by
  have h := rAll_iff xs
  cases hg : gS xs with
  | none =>
    rw [if_neg]
    · rfl
    · rintro ⟨h1, h2⟩
      unfold gS at hg
      cases ha : gA xs with
      | none =>
        rw [ha] at h
        simp only at h
        rw [h1] at h
        cases h
      | some p =>
        obtain ⟨s, m⟩ := p
        rw [ha] at h hg
        simp only at h hg
        rw [h] at h2
        rw [if_pos h2] at hg
        cases hg
  | some p =>
    obtain ⟨s, m⟩ := p
    obtain ⟨k1, k2, k3⟩ := gS_some hb hg
    unfold gS at hg
    cases ha : gA xs with
    | none =>
      rw [ha] at hg
      cases hg
    | some q =>
      obtain ⟨s', m'⟩ := q
      rw [ha] at h hg
      simp only at h hg
      by_cases hm : May s'
      · rw [if_pos hm] at hg
        simp only [Option.some.injEq, Prod.mk.injEq] at hg
        obtain ⟨rfl, rfl⟩ := hg
        rw [h, if_pos ⟨rfl, hm⟩]
        simp only [gotS, List.length_drop]
        congr 2
        omega
      · rw [if_neg hm] at hg
        cases hg

theorem rTake_len (n : Nat) (r : Rs) : (rTake n r).1.length ≤ n := by
  unfold rTake
  split
  · exact Nat.zero_le _
  · simp only [List.length_take]; omega

theorem rName_size (r : Rs) : (rName r).1.size ≤ 12 := by
  have h1 := rTake_len (rNum 12 r).1 (rNum 12 r).2
  have h2 := rNum_le 12 r
  show (strOfNums (rTake (rNum 12 r).1 (rNum 12 r).2).1).size ≤ 12
  rw [size_str]
  omega

theorem rFields_size : ∀ (n : Nat) (r : Rs), (rFields n r).1.length = n ∧ ∀ f ∈ (rFields n r).1, f.s.size ≤ 12
  | 0, _ => ⟨rfl, fun f hf => by cases hf⟩
  | n + 1, r => by
    obtain ⟨h1, h2⟩ := rFields_size n r
    refine ⟨by show ((rFields n r).1 ++ [_]).length = n + 1; rw [List.length_append, h1]; rfl, fun f hf => ?_⟩
    rcases List.mem_append.1 hf with h | h
    · exact h2 f h
    · obtain rfl := List.mem_singleton.1 h
      exact rName_size _

theorem rTake_left (n : Nat) (r : Rs) : (rTake n r).2.1.length ≤ r.1.length := by
  unfold rTake
  split
  · exact Nat.le_refl _
  · simp only [List.length_drop]; omega
theorem rNum_left (n : Nat) (r : Rs) : (rNum n r).2.1.length ≤ r.1.length := by
  unfold rNum
  split
  · split
    · simp only [List.length_drop]; omega
    · exact Nat.le_refl _
  · exact Nat.le_refl _
theorem rName_left (r : Rs) : (rName r).2.1.length ≤ r.1.length := Nat.le_trans (rTake_left _ _) (rNum_left _ _)
theorem rField_left (r : Rs) : (rField r).2.1.length ≤ r.1.length := Nat.le_trans (rTake_left _ _) (rName_left _)
theorem rFields_left : ∀ (n : Nat) (r : Rs), (rFields n r).2.1.length ≤ r.1.length
  | 0, _ => Nat.le_refl _
  | n + 1, r => Nat.le_trans (rField_left _) (rFields_left n r)
theorem rAll_left (xs : List Int) : (rAll xs).2.1.length ≤ xs.length :=
  Nat.le_trans (rFields_left _ _) (Nat.le_trans (rNum_left _ _) (Nat.le_trans (rNum_left _ _) (rName_left (xs, false))))
end Go.Proofs.YtbmdkibmfkmjoaaGreat.ScM

namespace Go.Proofs.YtbmdkibmfkmjoaaGreat.Cut
open Go.RowKit Go.Proofs.YtbmdkibmfkmjoaaGreat.BM Go.Proofs.YtbmdkibmfkmjoaaGreat.LM

/-- b[:k], k of any kind -/
theorem slice_hi_k (K : IntKind) (w : World) (A : Option Addr) (len cap k : Nat) (hk : k ≤ cap) :
    (Instr.sliceAt 26 (.slice A len cap) none (some (.int K (k : Int))) none).run Tryz.prog w = .ok (.slice A k cap) w := by
  rw [run_sliceAt_slice w _ _ _ _ _ elem_b, run_slice_h w _ _ _ _ elem_b K (k : Int) (by omega) (by omega), size_b]
  simp only [Result.andThen, sliced, Int.toNat_natCast, Nat.zero_mul, Nat.sub_zero]
  congr 2
  split
  · rfl
  · cases A <;> simp [Addr.add]

/-- b[l:h:m] -/
theorem slice_3 (w : World) (A : Option Addr) (len cap l h m : Nat) (h1 : l ≤ h) (h2 : h ≤ m) (h3 : m ≤ cap) :
    (Instr.sliceAt 26 (.slice A len cap) (some (.int .i64 (l : Int))) (some (.int .i64 (h : Int))) (some (.int .i64 (m : Int)))).run Tryz.prog w = .ok (.slice (dropA A l m) (h - l) (m - l)) w := by
  rw [run_sliceAt_slice w _ _ _ _ _ elem_b, run_slice_lhm w _ _ _ _ elem_b .i64 .i64 .i64 (l : Int) (h : Int) (m : Int) (by omega) (by omega) (by omega) (by omega), size_b]
  simp only [Result.andThen, sliced, Int.toNat_natCast, Nat.mul_one]
  rfl

/-- b[l:h] -/
theorem slice_2 (w : World) (A : Option Addr) (len cap l h : Nat) (h1 : l ≤ h) (h3 : h ≤ cap) :
    (Instr.sliceAt 26 (.slice A len cap) (some (.int .i64 (l : Int))) (some (.int .i64 (h : Int))) none).run Tryz.prog w = .ok (.slice (dropA A l cap) (h - l) (cap - l)) w := by
  rw [run_sliceAt_slice w _ _ _ _ _ elem_b, run_slice_lh w _ _ _ _ elem_b .i64 .i64 (l : Int) (h : Int) (by omega) (by omega) (by omega), size_b]
  simp only [Result.andThen, sliced, Int.toNat_natCast, Nat.mul_one]
  rfl

theorem slB_cut {w : World} {A : Option Addr} {xs : List Int} {c : Nat} (hx : SlB w A xs c) (l h m : Nat) (h1 : l ≤ h) (h2 : h ≤ m) (h3 : m ≤ c) (h4 : h ≤ xs.length) : SlB w (dropA A l m) ((xs.drop l).take (h - l)) (m - l) := by
  have hlen : ((xs.drop l).take (h - l)).length = h - l := by rw [List.length_take, List.length_drop]; omega
  refine ⟨⟨fun x hx' => hx.1.1 x (List.mem_of_mem_drop (List.mem_of_mem_take hx')), fun h0 => ?_⟩, by omega, ?_, by have := hx.2.2.2; omega⟩
  · rw [hlen] at h0
    obtain ⟨b, o, rfl, hc⟩ := hx.1.2 (by omega)
    have e : dropA (some ⟨b, o, none⟩) l m = some ⟨b, o + l, none⟩ := by
      unfold dropA
      rw [if_neg (by omega)]
      simp [Addr.add_lit]
    refine ⟨b, o + l, e, fun j hj => ?_⟩
    rw [hlen] at hj
    rw [Nat.add_assoc, hc (l + j) (by omega)]
    simp [List.getD_eq_getElem?_getD, List.getElem?_drop, hj]
  · intro hn
    unfold dropA at hn
    split at hn
    · omega
    · cases A with
      | none => have := hx.2.2.1 rfl; omega
      | some a => simp at hn

/-- b[k:] -/
theorem slB_drop {w : World} {A : Option Addr} {xs : List Int} {c : Nat} (hx : SlB w A xs c) (k : Nat) (hk : k ≤ xs.length) : SlB w (dropA A k c) (xs.drop k) (c - k) := by
  have h := slB_cut hx k xs.length c hk hx.2.1 (Nat.le_refl _) (Nat.le_refl _)
  rw [List.take_of_length_le (by rw [List.length_drop]; omega)] at h
  exact h

theorem slB_head {w : World} {A : Option Addr} {xs : List Int} {c : Nat} (hx : SlB w A xs c) (h m : Nat) (h2 : h ≤ m) (h3 : m ≤ c) (h4 : h ≤ xs.length) : SlB w A (xs.take h) m := by
  refine ⟨isB_take hx.1 h, by rw [List.length_take]; omega, fun hn => ?_, by have := hx.2.2.2; omega⟩
  have := hx.2.2.1 hn
  omega
end Go.Proofs.YtbmdkibmfkmjoaaGreat.Cut

namespace Go.Proofs.YtbmdkibmfkmjoaaGreat.RegA
open Go.RowKit Go.Proofs.YtbmdkibmfkmjoaaGreat.BM Go.Proofs.YtbmdkibmfkmjoaaGreat.LM

theorem own_below {w w' : World} {base n : Nat} {e : TypeId} {size : Nat} {v : Value} {xs : List Value} (h : w.ownsRow base e size v n xs) (hb : Below w.heap.size w w') : w'.ownsRow base e size v n xs :=
  h.kept (row := none) ⟨hb.os, hb.tape, hb.output, hb.size, fun k hk _ => hb.block k hk⟩ (by cases v.ownBlock <;> simp)

theorem op_append_b {w : World} {o : Oper} {a : Act} {K : Act → World → Prop} {Q : Exit → Act → World → Prop} (s x : Operand)
    (ho : o.op = .call { callee := .builtin .append, args := #[s, x], argTypes := #[26, 26] })
    (base : Nat) (v : Value) (n : Nat) (xs : List Int) (hs : a.eval s = v) (hown : w.ownsRow base 5 1 v n (cs xs))
    (A : Option Addr) (m c : Nat) (ys : List Int) (hx : a.eval x = .slice A m c) (hm : ys.length = m) (hB : IsB w A ys) (hpos : 0 < m)
    (hsz : n + m ≤ 1000000000) (hbase : base ≤ w.heap.size)
    (h : ∀ v' w', w'.ownsRow base 5 1 v' (n + m) (cs (xs ++ ys)) → w.grownBy w' v.ownBlock → K (a.put o.dst v') w') : o.wp Tryz.prog a w K Q := by
  obtain ⟨i0, hi, hz0, hz1, hz2⟩ := info_parts info_u8
  have hcs : cs (xs ++ ys) = cs xs ++ cs ys := by simp [cs]
  obtain ⟨b, q, rfl, hc⟩ := hB.2 (by omega)
  obtain ⟨v', w', hr, h2, h3, _⟩ := run_append_own (P := Tryz.prog) w base 26 o.type 5 i0 (.int .u8 0) 1 1 Tryz.underlying26 hi hz0 hz1 hz2 rfl (by decide) v n (cs xs) hown ⟨b, q, none⟩ m c (cs ys) (by rw [cs_len, hm, Nat.mul_one])
    (fun j u hj => by
      have hjl : j < ys.length := by
        rw [← cs_len]
        exact (List.getElem?_eq_some_iff.1 hj).1
      rw [Addr.add_lit, hc j hjl, ← hj]
      simp [cs, List.getD_eq_getElem?_getD, hjl])
    (ints_oneCell .u8 ys) (by unfold maxLen; omega) (by omega) hbase
  unfold Oper.wp execOp
  simp only [ho, resolve, invoke, builtin, Sem.run_bind, Sem.run_pure, Result.andThen_ok, List.map_toArray, List.map_cons, List.map_nil, hs, hx, hr]
  exact h v' w' (by rw [hcs]; exact h2) h3
end Go.Proofs.YtbmdkibmfkmjoaaGreat.RegA

namespace Go.Proofs.YtbmdkibmfkmjoaaGreat.Sc
open Go.RowKit Go.Proofs.YtbmdkibmfkmjoaaGreat.BM Go.Proofs.YtbmdkibmfkmjoaaGreat.LM Go.Proofs.YtbmdkibmfkmjoaaGreat.LeM Go.Proofs.YtbmdkibmfkmjoaaGreat.VaM Go.Proofs.YtbmdkibmfkmjoaaGreat.Va Go.Proofs.YtbmdkibmfkmjoaaGreat.ScM

theorem grown_set (w : World) (b i : Nat) (u : Value) : w.grownBy (w.setCell ⟨b, i, none⟩ u) (some b) := by
  have h := (Below.refl 0 w).setCell (p := ⟨b, i, none⟩) (Nat.zero_le _) u
  exact ⟨h.os, h.tape, h.output, h.size, fun k _ hne => Below.heap_setCell w _ u k (fun e => hne (by rw [e]))⟩

theorem grown_trans {a b c : World} {r : Option Nat} (h : a.grownBy b r) (k : b.grownBy c r) : a.grownBy c r :=
  ⟨k.os.trans h.os, k.tape.trans h.tape, k.output.trans h.output, Nat.le_trans h.size k.size, fun i hi hne => (k.block i (Nat.lt_of_lt_of_le hi h.size) hne).trans (h.block i hi hne)⟩

/-- What a method leaves of the reader. -/
def Rdd (b : Nat) (A : Option Addr) (c : Nat) (xs : List Int) (w : World) (r : Rs) (w' : World) : Prop :=
  w.grownBy w' (some b) ∧ ∃ A' c', Bx2 w' b (.slice A' r.1.length c') (.bool r.2) ∧ ∀ W, SlB W A xs c → SlB W A' r.1 c'

theorem Rdd.trans {b : Nat} {A : Option Addr} {c : Nat} {xs : List Int} {w w1 w2 : World} {r1 r2 : Rs} {A' : Option Addr} {c' : Nat} (hg : w.grownBy w1 (some b)) (hW : ∀ W, SlB W A xs c → SlB W A' r1.1 c') (k : Rdd b A' c' r1.1 w1 r2 w2) : Rdd b A c xs w r2 w2 := by
  obtain ⟨h1, A2, c2, h2, h3⟩ := k
  exact ⟨grown_trans hg h1, A2, c2, h2, fun W h => h3 W (hW W h)⟩

/-- Bytes elsewhere stay. -/
theorem slB_grown {w w' : World} {A : Option Addr} {xs : List Int} {c b : Nat} (h : SlB w A xs c) (hg : w.grownBy w' (some b)) (hb : ∀ a, A = some a → a.block ≠ b) : SlB w' A xs c := by
  refine ⟨⟨h.1.1, fun hx => ?_⟩, h.2⟩
  obtain ⟨g, o, e, hc⟩ := h.1.2 hx
  exact ⟨g, o, e, fun j hj => hg.cell (hc j hj) (fun e' => hb _ e (by injection e'))⟩
end Go.Proofs.YtbmdkibmfkmjoaaGreat.Sc

namespace Go.Proofs.YtbmdkibmfkmjoaaGreat.LeG
open Go.RowKit Go.Proofs.YtbmdkibmfkmjoaaGreat.LeM Go.Proofs.YtbmdkibmfkmjoaaGreat.LeZ Go.Proofs.YtbmdkibmfkmjoaaGreat.LeP Go.Proofs.YtbmdkibmfkmjoaaGreat.BM

set_option maxRecDepth 100000 in
theorem refPut_any (n : Nat) (w : World) (hn : n < 18446744073709551616) :
    Calls Tryz.prog 51 #[.int .u64 n] w (Puts n w) := by
  obtain ⟨i0, hi, hz0, hz1, hz2⟩ := info_parts info_u8
  have hL10 := putL_len64 hn
  obtain ⟨L, hLd⟩ : ∃ L, L = (putL n).length := ⟨_, rfl⟩
  rw [← hLd] at hL10
  have HL := Lib.hid hLd
  clear hLd
  go_enter Tryz.func51, Tryz.ntmps51
  go_wp2_with fail
  go_loopw [0, 3] (fun nn v wr => ∃ (k m : Nat) (pre : List Int), nn = .int .u64 m ∧ St n w k m pre v wr) (fun nn _ _ => (intOf nn).toNat)
  case atStart => exact ⟨0, n, [], rfl, rfl, rfl, Nat.le_refl _, World.ownsRow_nil _ _ _ _, Below.refl _ _⟩
  case round =>
    obtain ⟨k, m, pre, rfl, hst⟩ := hrel
    have hown := hst.2.2.2.1
    have hbel := hst.2.2.2.2
    have hpl : L = k + (putL m).length := by rw [HL.out, hst.2.1, List.length_append, hst.1]
    have hpm := putL_pos m
    have hmn : m ≤ n := hst.2.2.1
    have hk10 : k + 1 ≤ 10 := by omega
    clear hpl hpm
    by_cases hm : 128 ≤ m
    · go_wp2_with (at_builtin; refine wpList_append_own _ rfl (.tmp 6) (.tmp 11) 26 rfl w.heap.size 5 i0 (.int .u8 0) 1 1 Tryz.underlying26 hi hz0 hz1 hz2 rfl (by decide) _ _ _ rfl (hown.alloc _) ⟨wr.heap.size, 0, none⟩ 1 1 [.int .u8 ((m : Int) % 128 + 128)] rfl rfl (cell_one_new _ _ _) (fun x hx => by simp at hx; subst hx; rfl) (by unfold maxLen; omega) (by omega) (by have := hbel.size; simp; omega) ?_; intro v' w1 hown1 hgrow1 _)
      have hs := hst.step hm hown1 hgrow1
      clear hown1 hgrow1 hst hown hbel
      go_wp2
      go_roundw
      case rel => exact ⟨k + 1, m / 128, _, by go_num, hs⟩
      case measure => simp [intOf]; omega
    · have hm' : m < 128 := by omega
      go_wp2_with (at_builtin; refine wpList_append_own _ rfl (.tmp 15) (.tmp 18) 26 rfl w.heap.size 5 i0 (.int .u8 0) 1 1 Tryz.underlying26 hi hz0 hz1 hz2 rfl (by decide) _ _ _ rfl (hown.alloc _) ⟨wr.heap.size, 0, none⟩ 1 1 [.int .u8 (m : Int)] rfl rfl (cell_one_new _ _ _) (fun x hx => by simp at hx; subst hx; rfl) (by unfold maxLen; omega) (by omega) (by have := hbel.size; simp; omega) ?_; intro v' w1 hown1 hgrow1 _)
      have hs := hst.last hm' hown1 hgrow1
      clear hown1 hgrow1 hst hown hbel
      go_wp2
      go_ret
      exact hs

theorem refPut_mem (n : Nat) (w : World) (hn : n < 18446744073709551616) :
    Calls Tryz.prog 51 #[.int .u64 n] w fun e w' => ∃ g cap, e = .returned (.slice (some ⟨g, 0, none⟩) (putL n).length cap) ∧
      IsB w' (some ⟨g, 0, none⟩) (putL n) ∧ Below w.heap.size w w' := by
  refine (refPut_any n w hn).mono ?_
  rintro e w' ⟨v, rfl, hown, hb⟩
  obtain ⟨g, cap, rfl, _, h1, h2, h3, h4⟩ := isB_own hown (putL_bytes n) (putL_pos n)
  exact ⟨g, cap, rfl, h4, hb⟩
end Go.Proofs.YtbmdkibmfkmjoaaGreat.LeG

namespace Go.Proofs.YtbmdkibmfkmjoaaGreat.LeG
open Go.RowKit Go.Proofs.YtbmdkibmfkmjoaaGreat.LeM Go.Proofs.YtbmdkibmfkmjoaaGreat.LeZ Go.Proofs.YtbmdkibmfkmjoaaGreat.LeP Go.Proofs.YtbmdkibmfkmjoaaGreat.BM

/-- Get, said by Put. -/
theorem get_by_put {xs : List Int} {k : Nat} (hb : ∀ x ∈ xs, (0 : Int) ≤ x ∧ x < 256) (hk : k < xs.length) (h10 : k < 10) (hge : ∀ x ∈ xs.take k, (128 : Int) ≤ x) (hx : xs.getD k 0 < 128) (h0 : 0 ≤ xs.getD k 0) :
    getS xs = if strOfNums (putL ((vs (xs.take k) + 128 ^ k * (xs.getD k 0).toNat) % 18446744073709551616)) = strOfNums (xs.take (k + 1)) then some ((vs (xs.take k) + 128 ^ k * (xs.getD k 0).toNat) % 18446744073709551616, k + 1) else none := by
  obtain ⟨t, ht⟩ : ∃ t, t = vs (xs.take k) + 128 ^ k * (xs.getD k 0).toNat := ⟨_, rfl⟩
  rw [← ht]
  have hlt : t % 18446744073709551616 < 18446744073709551616 := Nat.mod_lt _ (by decide)
  by_cases he : strOfNums (putL (t % 18446744073709551616)) = strOfNums (xs.take (k + 1))
  · rw [if_pos he]
    exact (getS_iff xs hb _ _).2 ⟨hlt, by omega, str_inj (putL_bytes _) (fun x hx => hb x (List.mem_of_mem_take hx)) he⟩
  · rw [if_neg he]
    by_cases h1 : 0 < k ∧ xs.getD k 0 ≤ 0
    · exact getS_zero hk h10 hge hx h1.1 h1.2
    · by_cases h2 : t < 18446744073709551616
      · have h3 := getS_some hk h10 hge hx (by omega) (by rw [← ht]; exact h2)
        rw [← ht] at h3
        have h4 := (getS_iff xs hb _ _).1 h3
        rw [Nat.mod_eq_of_lt h2, h4.2.2] at he
        exact absurd rfl he
      · exact getS_over hk h10 hge hx (by rw [← ht]; omega)

theorem acc_mul (acc pl : Nat) (x : Int) : IntKind.u64.wrap ((acc : Int) + IntKind.u64.wrap (x % 128 * (pl : Int))) = (((acc + pl * (x % 128).toNat) % 18446744073709551616 : Nat) : Int) := by
  have e : x % 128 * (pl : Int) = ((pl * (x % 128).toNat : Nat) : Int) := by
    have : x % 128 = ((x % 128).toNat : Int) := by omega
    rw [this]
    simp [Int.mul_comm]
  rw [e, IntKind.wrap_u64, IntKind.wrap_u64]
  omega
theorem pl_mul (pl : Nat) : IntKind.u64.wrap ((pl : Int) * 128) = ((pl * 128 % 18446744073709551616 : Nat) : Int) := by
  rw [IntKind.wrap_u64]
  omega

theorem refGet_none (A : Option Addr) (cap : Nat) (w : World) :
    Calls Tryz.prog 57 #[.slice A 0 cap] w fun e w' => e = .returned (gotV (getS [])) ∧ Below w.heap.size w w' := by
  go_enter Tryz.func57, Tryz.ntmps57
  go_wp2
  refine wp_loop_rounds 1 ?_
  rw [rounds_succ]
  go_wp2
  go_ret3
  exact ⟨rfl, Below.refl _ _⟩

set_option maxRecDepth 100000 in
set_option maxHeartbeats 1000000 in
theorem refGet_some (b o : Nat) (xs : List Int) (cap : Nat) (w : World) (hx : 0 < xs.length) (hcap : xs.length ≤ cap) (hm : xs.length ≤ 9223372036854775807) (hb : ∀ x ∈ xs, (0 : Int) ≤ x ∧ x < 256)
    (hc : ∀ j, j < xs.length → w.cell? ⟨b, o + j, none⟩ = some (.int .u8 (xs.getD j 0))) :
    Calls Tryz.prog 57 #[.slice (some ⟨b, o, none⟩) xs.length cap] w fun e w' => e = .returned (gotV (getS xs)) ∧ Below w.heap.size w w' := by
  have hB : IsB w (some ⟨b, o, none⟩) xs := ⟨hb, fun _ => ⟨b, o, rfl, hc⟩⟩
  have HBs := Lib.hid hB
  clear hB
  go_enter Tryz.func57, Tryz.ntmps57
  go_wp2
  go_loop [5, 6, 7] (fun nn pp i => ∃ (k acc pl : Nat), k ≤ xs.length ∧ k ≤ 10 ∧ i = .int .i64 k ∧ nn = .int .u64 acc ∧ pp = .int .u64 pl ∧ (k < 10 → acc = vs (xs.take k) ∧ pl = 128 ^ k) ∧ ∀ x ∈ xs.take k, (128 : Int) ≤ x) (fun _ _ i => 10 - (intOf i).toNat)
  case atStart => exact ⟨0, 0, 1, by omega, by omega, rfl, rfl, rfl, by simp [vs], by simp⟩
  case round =>
    obtain ⟨k, acc, pl, hk, hk10, rfl, rfl, rfl, hv, hge⟩ := hrel
    have HV := Lib.hid hv
    have HG := Lib.hid hge
    have HB := Lib.hid hb
    clear hv hge hb
    by_cases hl1 : k < xs.length
    · by_cases hl2 : k < 10
      · have hcell : w.cell? ⟨b, o + k, none⟩ = some (.int .u8 (xs.getD k 0)) := hc k hl1
        have hbk : 0 ≤ xs.getD k 0 ∧ xs.getD k 0 < 256 := by
          rw [List.getD_eq_getElem?_getD, List.getElem?_eq_getElem hl1]
          exact HB.out _ (List.getElem_mem hl1)
        obtain ⟨x, hx⟩ : ∃ x, x = xs.getD k 0 := ⟨_, rfl⟩
        rw [← hx] at hcell hbk
        have HX := Lib.hid hx
        obtain ⟨hb0, hb1⟩ := hbk
        clear hx hc
        have HA := Lib.hid (acc_mul acc pl x)
        have HP := Lib.hid (pl_mul pl)
        by_cases h128 : 128 ≤ x
        · have HS := Lib.hid (vs_snoc xs k hl1)
          have HT := Lib.hid (take_snoc xs k hl1)
          go_wp2_with fail
          go_round
          case rel =>
            refine ⟨k + 1, _, _, by omega, by omega, by go_num, congrArg (Value.int .u64) HA.out, congrArg (Value.int .u64) HP.out, ?_, ?_⟩
            · intro h9
              obtain ⟨e1, e2⟩ := HV.out hl2
              have h1 := pow_le (k + 1) (by omega)
              rw [HS.out, ← HX.out, e1, e2]
              have h2 := vs_lt (xs.take (k + 1))
              rw [HS.out, ← HX.out, List.length_take, Nat.min_eq_left (by omega)] at h2
              rw [← Nat.pow_succ]
              exact ⟨Nat.mod_eq_of_lt (by omega), Nat.mod_eq_of_lt (by omega)⟩
            · rw [HT.out, ← HX.out]
              intro y hy
              rcases List.mem_append.1 hy with h | h
              · exact HG.out y h
              · simp at h; omega
          case measure => simp [intOf]; omega
        · have hgp := get_by_put HB.out hl1 hl2 HG.out (by rw [← HX.out]; omega) (by rw [← HX.out]; omega)
          have ha : (acc + pl * (x % 128).toNat) % 18446744073709551616 = (vs (xs.take k) + 128 ^ k * (xs.getD k 0).toNat) % 18446744073709551616 := by
            obtain ⟨e1, e2⟩ := HV.out hl2
            rw [e1, e2, ← HX.out, show x % 128 = x from by omega]
          rw [← ha] at hgp
          have HA' := HA.out
          obtain ⟨v, hv⟩ : ∃ v, v = (acc + pl * (x % 128).toNat) % 18446744073709551616 := ⟨_, rfl⟩
          have hvl : v < 18446744073709551616 := by rw [hv]; exact Nat.mod_lt _ (by decide)
          rw [← hv] at hgp HA'
          have HA2 := Lib.hid HA'
          have Hgp := Lib.hid hgp
          have Hput := Lib.hid (fun W => refPut_mem v W hvl)
          have hkc : (k : Int) + 1 ≤ (cap : Int) := by omega
          clear ha HA' hv HA hgp HP
          go_wp2_with fail
          rw [HA2.out]
          refine (Hput.out _).mono ?_
          rintro e w2 ⟨g, cap1, rfl, hB1, hb2⟩
          have hc1 := fun j => conv_any (w := w2.drewN j) hB1 cap1 9 Tryz.underlying9
          have hc2 := fun j => conv_any (w := w2.drewN j) (isB_take (isB_kept HBs.out hb2) (k + 1)) cap 9 Tryz.underlying9
          rw [List.length_take, Nat.min_eq_left (by omega)] at hc2
          obtain ⟨s1, hs1⟩ : ∃ s, s = strOfNums (putL v) := ⟨_, rfl⟩
          obtain ⟨s2, hs2⟩ : ∃ s, s = strOfNums (xs.take (k + 1)) := ⟨_, rfl⟩
          have hgp := Hgp.out
          rw [← hs1, ← hs2] at hgp
          rw [← hs1] at hc1
          rw [← hs2] at hc2
          have Hgp2 := Lib.hid hgp
          clear hs1 hs2 hgp Hgp hB1
          by_cases hse : s1 = s2
          · subst hse
            have hgp := Hgp2.out
            rw [if_pos rfl] at hgp
            have Hgp3 := Lib.hid hgp
            clear hgp Hgp2
            go_wp2_with fail
            go_quiet (fail)
            go_wp2
            go_ret3
            refine ⟨?_, below_drewN hb2 _⟩
            rw [Hgp3.out]
            rfl
          · have hgp := Hgp2.out
            rw [if_neg hse] at hgp
            have Hgp3 := Lib.hid hgp
            have hsn := str_ne hse
            clear hgp Hgp2
            go_wp2_with fail
            go_quiet (fail)
            go_wp2
            go_ret3
            refine ⟨?_, below_drewN hb2 _⟩
            rw [Hgp3.out]
            rfl
      · obtain rfl : k = 10 := by omega
        go_wp2_with fail
        go_ret3
        refine ⟨?_, Below.refl _ _⟩
        rw [getS_all (k := 10) (.inr rfl) (by omega) HG.out]
        rfl
    · obtain rfl : k = xs.length := by omega
      go_wp2_with fail
      go_ret3
      refine ⟨?_, Below.refl _ _⟩
      rw [getS_all (k := xs.length) (.inl rfl) hk10 HG.out]
      rfl

theorem refGet_any (A : Option Addr) (xs : List Int) (cap : Nat) (w : World) (hcap : xs.length ≤ cap) (hm : xs.length ≤ 9223372036854775807) (h : IsB w A xs) :
    Calls Tryz.prog 57 #[.slice A xs.length cap] w fun e w' => e = .returned (gotV (getS xs)) ∧ Below w.heap.size w w' := by
  by_cases hx : 0 < xs.length
  · obtain ⟨b, o, rfl, hc⟩ := h.2 hx
    exact refGet_some b o xs cap w hx hcap hm h.1 hc
  · obtain rfl : xs = [] := List.eq_nil_of_length_eq_zero (by omega)
    exact refGet_none A cap w
end Go.Proofs.YtbmdkibmfkmjoaaGreat.LeG

namespace Go.Proofs.YtbmdkibmfkmjoaaGreat.Sc
open Go.RowKit Go.Proofs.YtbmdkibmfkmjoaaGreat.BM Go.Proofs.YtbmdkibmfkmjoaaGreat.VaM Go.Proofs.YtbmdkibmfkmjoaaGreat.Va Go.Proofs.YtbmdkibmfkmjoaaGreat.ScM

theorem elem_f : Tryz.prog.underlying 38 = some (.slice (Tryz.prog.elem 38)) := by kernel_rfl
theorem size_f (w : World) : (sizeOf (Tryz.prog.elem 38)).run Tryz.prog w = .ok 2 w := by kernel_rfl

/-- l[j] -/
theorem index_f (w : World) (b o len cap j : Nat) (h : j < len) : (Instr.indexAt 38 (.slice (some ⟨b, o, none⟩) len cap) (.int .i64 (j : Int))).run Tryz.prog w = .ok (.pointer (some ⟨b, o + j * 2, none⟩)) w := by
  rw [run_indexAt_slice w _ _ _ _ _ _ elem_f, if_pos (by omega), size_f]
  simp only [Result.andThen, Int.toNat_natCast, Addr.add_lit]

/-- l[:k] -/
theorem cut_f (w : World) (A : Option Addr) (len cap k : Nat) (hk : k ≤ cap) :
    (Instr.sliceAt 38 (.slice A len cap) none (some (.int .i64 (k : Int))) none).run Tryz.prog w = .ok (.slice A k cap) w := by
  rw [run_sliceAt_slice w _ _ _ _ _ elem_f, run_slice_h w _ _ _ _ elem_f .i64 (k : Int) (by omega) (by omega), size_f]
  simp only [Result.andThen, sliced, Int.toNat_natCast, Nat.zero_mul, Nat.sub_zero]
  congr 2
  split
  · rfl
  · cases A <;> simp [Addr.add]

/-- A field's two cells, wherever they lie. -/
def CellF (w : World) (b q : Nat) (f : F) : Prop := w.cell? ⟨b, q, none⟩ = some (.string f.s) ∧ w.cell? ⟨b, q + 1, none⟩ = some (.int .i64 f.k)

theorem CellF.kept {w w' : World} {b q : Nat} {f : F} (h : CellF w b q f) (hb : Below w.heap.size w w') : CellF w' b q f := by
  obtain ⟨h0, h1⟩ := h
  exact ⟨(hb.cell (p := ⟨b, q, none⟩) (World.block_lt_of_cell? w _ h0)).trans h0, (hb.cell (p := ⟨b, q + 1, none⟩) (World.block_lt_of_cell? w _ h1)).trans h1⟩

/-- Where fields lie. -/
def IsF (w : World) (A : Option Addr) (l : List F) : Prop := 0 < l.length → ∃ b o, A = some ⟨b, o, none⟩ ∧ ∀ j, j < l.length → CellF w b (o + j * 2) (l.getD j d0)

/-- A slice of fields: where it lies, its length and its capacity; each name's size is an int. -/
def SlF (w : World) (A : Option Addr) (l : List F) (c : Nat) : Prop := IsF w A l ∧ l.length ≤ c ∧ (A = none → c = 0) ∧ c ≤ maxLen ∧ ∀ f ∈ l, f.s.size ≤ maxLen

theorem IsF.kept {w w' : World} {A : Option Addr} {l : List F} (h : IsF w A l) (hb : Below w.heap.size w w') : IsF w' A l := by
  intro h0
  obtain ⟨b, o, e, hc⟩ := h h0
  exact ⟨b, o, e, fun j hj => (hc j hj).kept hb⟩

theorem SlF.kept {w w' : World} {A : Option Addr} {l : List F} {c : Nat} (h : SlF w A l c) (hb : Below w.heap.size w w') : SlF w' A l c := ⟨h.1.kept hb, h.2⟩

theorem slF_none (w : World) : SlF w none [] 0 := ⟨fun h => absurd h (Nat.not_lt_zero _), Nat.le_refl _, fun _ => rfl, Nat.zero_le _, fun f hf => by cases hf⟩

theorem SlF.take {w : World} {A : Option Addr} {l : List F} {c : Nat} (h : SlF w A l c) (i : Nat) : SlF w A (l.take i) c := by
  obtain ⟨h1, h2, h3, h4, h5⟩ := h
  refine ⟨fun h0 => ?_, by rw [List.length_take]; omega, h3, h4, fun f hf => h5 f (List.mem_of_mem_take hf)⟩
  rw [List.length_take] at h0
  obtain ⟨b, o, e, hc⟩ := h1 (by omega)
  refine ⟨b, o, e, fun j hj => ?_⟩
  rw [List.length_take] at hj
  have e2 : (l.take i).getD j d0 = l.getD j d0 := by
    rw [List.getD_eq_getElem?_getD, List.getD_eq_getElem?_getD, List.getElem?_take, if_pos (by omega)]
  rw [e2]
  exact hc j (by omega)

/-- The j-th of them. -/
theorem SlF.at {w : World} {A : Option Addr} {l : List F} {c : Nat} (h : SlF w A l c) (j : Nat) (hj : j < l.length) :
    ∃ b q, (∀ W n k, j < n → (Instr.indexAt 38 (.slice A n k) (.int .i64 (j : Int))).run Tryz.prog W = .ok (.pointer (some ⟨b, q, none⟩)) W) ∧ (∀ W, Below w.heap.size w W → CellF W b q (l.getD j d0)) ∧ (l.getD j d0).s.size ≤ maxLen := by
  obtain ⟨h1, h2, h3, h4, h5⟩ := h
  obtain ⟨b, o, rfl, hc⟩ := h1 (by omega)
  exact ⟨b, o + j * 2, fun W n k hn => index_f W b o n k j hn, fun W hW => (hc j hj).kept hW, h5 _ (getD_mem hj)⟩

theorem slF_len {w : World} {A : Option Addr} {l : List F} {c : Nat} (h : SlF w A l c) : l.length ≤ 9223372036854775807 := by
  have h1 := h.2.1
  have h2 := h.2.2.2.1
  unfold maxLen at h2
  omega

/-- Fields elsewhere stay. -/
theorem slF_grown {w w' : World} {A : Option Addr} {l : List F} {c b : Nat} (h : SlF w A l c) (hg : w.grownBy w' (some b)) (hb : ∀ a, A = some a → a.block ≠ b) : SlF w' A l c := by
  refine ⟨fun hx => ?_, h.2⟩
  obtain ⟨g, o, e, hc⟩ := h.1 hx
  have hne : some g ≠ some b := fun e' => hb _ e (by injection e')
  exact ⟨g, o, e, fun j hj => ⟨hg.cell (hc j hj).1 hne, hg.cell (hc j hj).2 hne⟩⟩

/-- What is asked of a schema's own parts. -/
def Fine (s : Sc) : Prop := s.s.size ≤ maxLen ∧ -9223372036854775808 ≤ s.v ∧ s.v ≤ 9223372036854775807

set_option maxRecDepth 100000 in
/-- ==, of two fields. -/
theorem eql_f (s t : ByteArray) (k j : Int) (w : World) :
    (binOp .eql 72 (.agg #[.string s, .int .i64 k]) (.agg #[.string t, .int .i64 j])).run Tryz.prog w = .ok (.bool (decide ((⟨s, k⟩ : F) = ⟨t, j⟩))) w := by
  have hs : decide ((⟨s, k⟩ : F) = ⟨t, j⟩) = ((s.toList == t.toList) && (k == j)) := by
    rw [toList_beq, Bool.eq_iff_iff]
    simp
  rw [hs]
  simp only [run_eql_struct]
  go_simp
  by_cases h3 : s.toList = t.toList
  · by_cases h1 : k = j
    · simp [h1, h3]
    · simp [h1, h3]
  · simp [h3]

set_option maxRecDepth 100000 in
/-- !=, of two fields. -/
theorem neq_f (s t : ByteArray) (k j : Int) (w : World) :
    (binOp .neq 72 (.agg #[.string s, .int .i64 k]) (.agg #[.string t, .int .i64 j])).run Tryz.prog w = .ok (.bool (!decide ((⟨s, k⟩ : F) = ⟨t, j⟩))) w := by
  have h := eql_f s t k j w
  rw [run_eql_struct] at h
  rw [run_neq_struct]
  cases hr : (Op.equalIn 10000 72 (.agg #[.string s, .int .i64 k]) (.agg #[.string t, .int .i64 j])).run Tryz.prog w with
  | ok b w' =>
    rw [hr] at h
    simp only [Result.andThen_ok] at h ⊢
    injection h with h1 h2
    injection h1 with h1
    rw [h1, h2]
  | halt x w' =>
    rw [hr] at h
    cases h
end Go.Proofs.YtbmdkibmfkmjoaaGreat.Sc

namespace Go.Proofs.YtbmdkibmfkmjoaaGreat.Sc
open Go.RowKit Go.Proofs.YtbmdkibmfkmjoaaGreat.BM Go.Proofs.YtbmdkibmfkmjoaaGreat.LM Go.Proofs.YtbmdkibmfkmjoaaGreat.LeM Go.Proofs.YtbmdkibmfkmjoaaGreat.VaM Go.Proofs.YtbmdkibmfkmjoaaGreat.Va Go.Proofs.YtbmdkibmfkmjoaaGreat.ScM

/-- Bytes in memory of the call's own. -/
def Bys (xs : List Int) (w : World) : Ending → World → Prop := fun e w' => ∃ A c, e = .returned (.slice A xs.length c) ∧ SlB w' A xs c ∧ w'.ownsRow w.heap.size 5 1 (.slice A xs.length c) xs.length (cs xs) ∧ Below w.heap.size w w'

theorem own_low {w : World} {base base' n : Nat} {v : Value} {xs : List Value} (h : w.ownsRow base 5 1 v n xs) (hb : base' ≤ base) : w.ownsRow base' 5 1 v n xs := by
  refine ⟨h.1, ?_⟩
  rcases h.2 with h0 | ⟨g, cap, cur, hv, hg, hr⟩
  · exact Or.inl h0
  · exact Or.inr ⟨g, cap, cur, hv, Nat.le_trans hb hg, hr⟩

theorem own_row {w : World} {base n : Nat} {A : Option Addr} {c : Nat} {xs ys : List Int} (h : w.ownsRow base 5 1 (.slice A n c) n (cs xs)) (e : xs = ys) : w.ownsRow base 5 1 (.slice A n c) n (cs ys) := e ▸ h
end Go.Proofs.YtbmdkibmfkmjoaaGreat.Sc

namespace Go.Proofs.YtbmdkibmfkmjoaaGreat.Sc
open Go.RowKit Go.Proofs.YtbmdkibmfkmjoaaGreat.BM Go.Proofs.YtbmdkibmfkmjoaaGreat.LM Go.Proofs.YtbmdkibmfkmjoaaGreat.LeM Go.Proofs.YtbmdkibmfkmjoaaGreat.VaM Go.Proofs.YtbmdkibmfkmjoaaGreat.Va Go.Proofs.YtbmdkibmfkmjoaaGreat.ScM

/-- The answer of Read, as a value. -/
def gotN : Option (ByteArray × Nat) → Value
  | some (t, m) => .tuple #[.string t, .int .i64 (m : Int), .bool true]
  | none => .tuple #[.string ⟨#[]⟩, .int .i64 0, .bool false]

set_option maxRecDepth 100000 in
set_option maxHeartbeats 1000000 in
theorem refRead_any (A : Option Addr) (xs : List Int) (c : Nat) (w : World) (hx : SlB w A xs c) :
    Calls Tryz.prog 58 #[.slice A xs.length c, .int .i64 12] w fun e w' => e = .returned (gotN (gN xs)) ∧ Below w.heap.size w w' := by
  have hxc := hx.2.1
  have hmx := hx.2.2.2
  unfold maxLen at hmx
  have hget := LeG.refGet_any A xs c w hxc (by omega) hx.1
  have HX := Lib.hid hx
  cases hg : getS xs with
  | none =>
    have hr : gN xs = none := by unfold gN; simp only [hg]
    rw [hr]
    rw [hg] at hget
    obtain ⟨n, hn⟩ : ∃ n, n = xs.length := ⟨_, rfl⟩
    rw [← hn] at hget ⊢
    have HG := Lib.hid hget
    clear hr hx hn hg hget
    go_enter Tryz.func58, Tryz.ntmps58
    go_wp2_with fail
    refine HG.out.mono ?_
    rintro e w1 ⟨rfl, hb⟩
    have HB := Lib.hid hb
    simp only [LeG.gotV]
    clear hb
    go_wp2_with fail
    go_ret3
    exact ⟨ret_v (x := .tuple #[.string ⟨#[]⟩, .int .i64 0, .bool false]) rfl, HB.out⟩
  | some p =>
    obtain ⟨v, u⟩ := p
    obtain ⟨h1, h2, h3⟩ := (getS_iff xs hx.1.1 v u).1 hg
    rw [hg] at hget
    by_cases hv : v ≤ 12
    · by_cases hu : v ≤ xs.length - u
      · have hr : gN xs = some (strOfNums ((xs.drop u).take v), u + v) := by unfold gN; simp only [hg, if_pos (show v ≤ 12 ∧ v ≤ xs.length - u from ⟨hv, hu⟩)]
        rw [hr]
        have hlen : ((xs.drop u).take (u + v - u)).length = v := by rw [List.length_take, List.length_drop]; omega
        have hcut := fun W (hW : Below w.heap.size w W) => Cut.slB_cut (hx.kept hW) u (u + v) c (by omega) (by omega) (Nat.le_refl _) (by omega)
        have hsl := fun W => Cut.slice_2 W A xs.length c u (u + v) (by omega) (by omega)
        have hcv := fun W (hW : Below w.heap.size w W) => conv_any (hcut W hW).1 (c - u) 9 Tryz.underlying9
        simp only [hlen] at hcv
        simp only [Nat.add_sub_cancel_left] at hcv hsl
        rw [show ((u + v : Nat) : Int) = (u : Int) + (v : Int) from by omega] at hsl
        obtain ⟨S, hS⟩ : ∃ S, S = strOfNums ((xs.drop u).take v) := ⟨_, rfl⟩
        rw [← hS]
        simp only [← hS] at hcv
        have HV := Lib.hid (show gotN (some (S, u + v)) = .tuple #[.string S, .int .i64 ((u : Int) + (v : Int)), .bool true] from by simp only [gotN]; rw [show ((u + v : Nat) : Int) = (u : Int) + (v : Int) from by omega])
        obtain ⟨D, hD⟩ : ∃ D, D = dropA A u c := ⟨_, rfl⟩
        simp only [← hD] at hcv hsl
        obtain ⟨n, hn⟩ : ∃ n, n = xs.length := ⟨_, rfl⟩
        rw [← hn] at hget h2 hu hxc
        simp only [← hn] at hsl
        rw [← hn]
        have HG := Lib.hid hget
        have HCv := Lib.hid hcv
        clear hr hx hn hg hget hS hD hcut hlen h3 h1 hcv
        go_enter Tryz.func58, Tryz.ntmps58
        go_wp2_with fail
        refine HG.out.mono ?_
        rintro e w1 ⟨rfl, hb⟩
        have HB := Lib.hid hb
        have hcv1 := HCv.out w1 hb
        simp only [LeG.gotV]
        have hd1 : decide (12 < (v : Int)) = false := by rw [decide_eq_false_iff_not]; omega
        have hd2 : decide ((n : Int) - (u : Int) < (v : Int)) = false := by rw [decide_eq_false_iff_not]; omega
        clear hb
        go_wp2_with fail
        go_ret3
        exact ⟨ret_v (x := .tuple #[.string S, .int .i64 ((u : Int) + (v : Int)), .bool true]) HV.out, HB.out⟩
      · have hr : gN xs = none := by unfold gN; simp only [hg, if_neg (show ¬ (v ≤ 12 ∧ v ≤ xs.length - u) from fun h => hu h.2)]
        rw [hr]
        obtain ⟨n, hn⟩ : ∃ n, n = xs.length := ⟨_, rfl⟩
        rw [← hn] at hget h2 hu hxc
        rw [← hn]
        have HG := Lib.hid hget
        clear hr hx hn hg hget h3 h1
        go_enter Tryz.func58, Tryz.ntmps58
        go_wp2_with fail
        refine HG.out.mono ?_
        rintro e w1 ⟨rfl, hb⟩
        have HB := Lib.hid hb
        simp only [LeG.gotV]
        have hd1 : decide (12 < (v : Int)) = false := by rw [decide_eq_false_iff_not]; omega
        have hd2 : decide ((n : Int) - (u : Int) < (v : Int)) = true := by rw [decide_eq_true_iff]; omega
        clear hb
        go_wp2_with fail
        go_ret3
        exact ⟨ret_v (x := .tuple #[.string ⟨#[]⟩, .int .i64 0, .bool false]) rfl, HB.out⟩
    · have hr : gN xs = none := by unfold gN; simp only [hg, if_neg (show ¬ (v ≤ 12 ∧ v ≤ xs.length - u) from fun h => hv h.1)]
      rw [hr]
      obtain ⟨n, hn⟩ : ∃ n, n = xs.length := ⟨_, rfl⟩
      rw [← hn] at hget h2 hxc
      rw [← hn]
      have HG := Lib.hid hget
      clear hr hx hn hg hget h3
      go_enter Tryz.func58, Tryz.ntmps58
      go_wp2_with fail
      refine HG.out.mono ?_
      rintro e w1 ⟨rfl, hb⟩
      have HB := Lib.hid hb
      simp only [LeG.gotV]
      clear hb
      go_wp2_with fail
      go_ret3
      exact ⟨ret_v (x := .tuple #[.string ⟨#[]⟩, .int .i64 0, .bool false]) rfl, HB.out⟩
end Go.Proofs.YtbmdkibmfkmjoaaGreat.Sc

namespace Go.Proofs.YtbmdkibmfkmjoaaGreat.Qy
open Go.RowKit Go.Proofs.YtbmdkibmfkmjoaaGreat.BM Go.Proofs.YtbmdkibmfkmjoaaGreat.LM Go.Proofs.YtbmdkibmfkmjoaaGreat.LeM Go.Proofs.YtbmdkibmfkmjoaaGreat.VaM Go.Proofs.YtbmdkibmfkmjoaaGreat.ExM Go.Proofs.YtbmdkibmfkmjoaaGreat.QyM
open Go.Proofs.YtbmdkibmfkmjoaaGreat.Va (Bx bx_set1 bx_set2 ret_v)
open Go.Proofs.YtbmdkibmfkmjoaaGreat.Sc (grown_set grown_trans gotN)
open Go.Proofs.YtbmdkibmfkmjoaaGreat.ScM (gN)

/-- What a method leaves of the reader. -/
def Left (b : Nat) (A : Option Addr) (c N : Nat) (w : World) (s : Rp) (w' : World) : Prop :=
  w.grownBy w' (some b) ∧ Bx w' b (.slice A N c) (.int .i64 (s.1 : Int)) (.bool s.2) ∧ s.1 ≤ N

theorem grownLeft {w w' : World} {r : Option Nat} (h : Below w.heap.size w w') : w.grownBy w' r := ⟨h.os, h.tape, h.output, h.size, fun k hk _ => h.block k hk⟩

theorem left_bad {b : Nat} {A : Option Addr} {c N p : Nat} {w w1 : World} {v : Value} (h : Below w.heap.size w w1) (hX : Bx w b (.slice A N c) (.int .i64 (p : Int)) v) (hp : p ≤ N) : Left b A c N w (p, true) (w1.setCell ⟨b, 2, none⟩ (.bool true)) :=
  ⟨grown_trans (grownLeft h) (grown_set _ _ _ _), bx_set2 (hX.kept h) _, hp⟩

theorem left_got {b : Nat} {A : Option Addr} {c N p u : Nat} {w w1 : World} (h : Below w.heap.size w w1) (hX : Bx w b (.slice A N c) (.int .i64 (p : Int)) (.bool false)) (hp : p + u ≤ N) : Left b A c N w (p + u, false) (w1.setCell ⟨b, 1, none⟩ (.int .i64 ((p : Int) + (u : Int)))) :=
  ⟨grown_trans (grownLeft h) (grown_set _ _ _ _), by
    have k := bx_set1 (hX.kept h) (.int .i64 ((p : Int) + (u : Int)))
    have e : ((p + u : Nat) : Int) = (p : Int) + (u : Int) := by omega
    simp only [e]
    exact k, hp⟩

theorem num_some {k : Nat} {xs : List Int} {v u : Nat} (h : getS xs = some (v, u)) (hv : v ≤ k) : Gr.num k xs = some (v, u) := by
  unfold Gr.num
  rw [h]
  simp only [if_pos hv]
theorem num_great {k : Nat} {xs : List Int} {v u : Nat} (h : getS xs = some (v, u)) (hv : ¬ v ≤ k) : Gr.num k xs = none := by
  unfold Gr.num
  rw [h]
  simp only [if_neg hv]
theorem num_none {k : Nat} {xs : List Int} (h : getS xs = none) : Gr.num k xs = none := by
  unfold Gr.num
  rw [h]

set_option maxRecDepth 100000 in
set_option maxHeartbeats 4000000 in
theorem refNum_any (most : Nat) (b : Nat) (A : Option Addr) (xs : List Int) (c p : Nat) (bad : Bool) (w : World) (hB : Bx w b (.slice A xs.length c) (.int .i64 (p : Int)) (.bool bad)) (hx : SlB w A xs c) (hp : p ≤ xs.length) (hm : most ≤ 1125899906842624) :
    Calls Tryz.prog 30 #[.pointer (some ⟨b, 0, none⟩), .int .i64 (most : Int)] w fun e w' => e = .returned (.int .i64 ((rd (Gr.num most) 0 xs (p, bad)).1 : Nat)) ∧ Left b A c xs.length w (rd (Gr.num most) 0 xs (p, bad)).2 w' := by
  have hmx := hx.2.2.2
  have hxc := hx.2.1
  unfold maxLen at hmx
  have hget := fun W (hW : Below w.heap.size w W) =>
    LeG.refGet_any (dropA A p c) (xs.drop p) (c - p) W (Cut.slB_drop (hx.kept hW) p hp).2.1 (by rw [List.length_drop]; omega) (Cut.slB_drop (hx.kept hW) p hp).1
  have hgi := fun v u => getS_iff (xs.drop p) (ScM.bytes_drop hx.1.1 p) v u
  simp only [List.length_drop] at hget hgi
  obtain ⟨N, hN⟩ : ∃ N, N = xs.length := ⟨_, rfl⟩
  simp only [← hN] at hget hgi hB
  rw [← hN] at hp hxc ⊢
  unfold dropA at hget
  have HX := Lib.hid hB
  clear hx hN hB
  cases hg : getS (xs.drop p) with
  | none =>
    have hr : rd (Gr.num most) 0 xs (p, bad) = (0, (p, true)) := by
      cases bad
      · exact rd_none (num_none hg)
      · exact rd_bad
    rw [hr]
    rw [hg] at hget
    have HGet := Lib.hid hget
    clear hg hr hgi hget hmx
    cases bad
    all_goals
      obtain ⟨⟨p0, p1, p2⟩, p3⟩ := HX.out
      go_enter Tryz.func30, Tryz.ntmps30
      go_wp2_with fail
      refine Reg.G_start (by kernel_rfl) (by repeat (first | exact Reg.frameless_bodyPost | refine Reg.frameless_then ?_ | refine Reg.frameless_inBlock ?_)) (fun W hW => ?_)
      have x0 := Reg.later_cell hW p0
      have x1 := Reg.later_cell hW p1
      clear p0 p1 p2 p3
      obtain ⟨D, hD⟩ : ∃ D, D = dropA A p c := ⟨_, rfl⟩
      unfold dropA at hD
      first | (refine Reg.G_step (i := 0) rfl (by kernel_rfl) (by rfl) (fun K hK => ?_); go_big_quiet_op; refine hK _ ?_; clear hK K) | (refine Reg.G_skip (i := 0) rfl (by kernel_rfl) (by rfl) ?_; simp only [Act.put, List.setIfInBounds_toArray, List.set_cons_zero, List.set_cons_succ])
      first | (refine Reg.G_step (i := 1) rfl (by kernel_rfl) (by rfl) (fun K hK => ?_); go_big_quiet_op; refine hK _ ?_; clear hK K) | (refine Reg.G_skip (i := 1) rfl (by kernel_rfl) (by rfl) ?_; simp only [Act.put, List.setIfInBounds_toArray, List.set_cons_zero, List.set_cons_succ])
      first | (refine Reg.G_step (i := 2) rfl (by kernel_rfl) (by rfl) (fun K hK => ?_); go_big_quiet_op; refine hK _ ?_; clear hK K) | (refine Reg.G_skip (i := 2) rfl (by kernel_rfl) (by rfl) ?_; simp only [Act.put, List.setIfInBounds_toArray, List.set_cons_zero, List.set_cons_succ])
      first | (refine Reg.G_step (i := 3) rfl (by kernel_rfl) (by rfl) (fun K hK => ?_); go_big_quiet_op; refine hK _ ?_; clear hK K) | (refine Reg.G_skip (i := 3) rfl (by kernel_rfl) (by rfl) ?_; simp only [Act.put, List.setIfInBounds_toArray, List.set_cons_zero, List.set_cons_succ])
      first | (refine Reg.G_step (i := 4) rfl (by kernel_rfl) (by rfl) (fun K hK => ?_); go_big_quiet_op; refine hK _ ?_; clear hK K) | (refine Reg.G_skip (i := 4) rfl (by kernel_rfl) (by rfl) ?_; simp only [Act.put, List.setIfInBounds_toArray, List.set_cons_zero, List.set_cons_succ])
      first | (refine Reg.G_step (i := 5) rfl (by kernel_rfl) (by rfl) (fun K hK => ?_); go_big_quiet_op; refine hK _ ?_; clear hK K) | (refine Reg.G_skip (i := 5) rfl (by kernel_rfl) (by rfl) ?_; simp only [Act.put, List.setIfInBounds_toArray, List.set_cons_zero, List.set_cons_succ])
      first | (refine Reg.G_step (i := 6) rfl (by kernel_rfl) (by rfl) (fun K hK => ?_); go_big_quiet_op; refine hK _ ?_; clear hK K) | (refine Reg.G_skip (i := 6) rfl (by kernel_rfl) (by rfl) ?_; simp only [Act.put, List.setIfInBounds_toArray, List.set_cons_zero, List.set_cons_succ])
      first | (refine Reg.G_step (i := 7) rfl (by kernel_rfl) (by rfl) (fun K hK => ?_); go_big_quiet_op; refine hK _ ?_; clear hK K) | (refine Reg.G_skip (i := 7) rfl (by kernel_rfl) (by rfl) ?_; simp only [Act.put, List.setIfInBounds_toArray, List.set_cons_zero, List.set_cons_succ])
      first | (refine Reg.G_step (i := 8) rfl (by kernel_rfl) (by rfl) (fun K hK => ?_); go_big_quiet_op; refine hK _ ?_; clear hK K) | (refine Reg.G_skip (i := 8) rfl (by kernel_rfl) (by rfl) ?_; simp only [Act.put, List.setIfInBounds_toArray, List.set_cons_zero, List.set_cons_succ])
      refine Reg.G_event (i := 9) rfl (by kernel_rfl) (by rfl) (fun K hK => ?_)
      go_simp
      refine (HGet.out W hW).mono ?_
      rintro e v0 ⟨rfl, hv0⟩
      refine hK _ _ hv0 ?_
      clear hK K x0 x1
      rw [← hD]
      clear hD
      simp only [LeG.gotV]
      have HV := Lib.hid (bt hW hv0)
      clear hv0
      first | (refine Reg.G_step (i := 10) rfl (by kernel_rfl) (by rfl) (fun K hK => ?_); go_big_quiet_op; refine hK _ ?_; clear hK K) | (refine Reg.G_skip (i := 10) rfl (by kernel_rfl) (by rfl) ?_; simp only [Act.put, List.setIfInBounds_toArray, List.set_cons_zero, List.set_cons_succ])
      first | (refine Reg.G_step (i := 11) rfl (by kernel_rfl) (by rfl) (fun K hK => ?_); go_big_quiet_op; refine hK _ ?_; clear hK K) | (refine Reg.G_skip (i := 11) rfl (by kernel_rfl) (by rfl) ?_; simp only [Act.put, List.setIfInBounds_toArray, List.set_cons_zero, List.set_cons_succ])
      first | (refine Reg.G_step (i := 12) rfl (by kernel_rfl) (by rfl) (fun K hK => ?_); go_big_quiet_op; refine hK _ ?_; clear hK K) | (refine Reg.G_skip (i := 12) rfl (by kernel_rfl) (by rfl) ?_; simp only [Act.put, List.setIfInBounds_toArray, List.set_cons_zero, List.set_cons_succ])
      first | (refine Reg.G_step (i := 13) rfl (by kernel_rfl) (by rfl) (fun K hK => ?_); go_big_quiet_op; refine hK _ ?_; clear hK K) | (refine Reg.G_skip (i := 13) rfl (by kernel_rfl) (by rfl) ?_; simp only [Act.put, List.setIfInBounds_toArray, List.set_cons_zero, List.set_cons_succ])
      first | (refine Reg.G_step (i := 14) rfl (by kernel_rfl) (by rfl) (fun K hK => ?_); go_big_quiet_op; refine hK _ ?_; clear hK K) | (refine Reg.G_skip (i := 14) rfl (by kernel_rfl) (by rfl) ?_; simp only [Act.put, List.setIfInBounds_toArray, List.set_cons_zero, List.set_cons_succ])
      first | (refine Reg.G_step (i := 15) rfl (by kernel_rfl) (by rfl) (fun K hK => ?_); go_big_quiet_op; refine hK _ ?_; clear hK K) | (refine Reg.G_skip (i := 15) rfl (by kernel_rfl) (by rfl) ?_; simp only [Act.put, List.setIfInBounds_toArray, List.set_cons_zero, List.set_cons_succ])
      first | (refine Reg.G_step (i := 16) rfl (by kernel_rfl) (by rfl) (fun K hK => ?_); go_big_quiet_op; refine hK _ ?_; clear hK K) | (refine Reg.G_skip (i := 16) rfl (by kernel_rfl) (by rfl) ?_; simp only [Act.put, List.setIfInBounds_toArray, List.set_cons_zero, List.set_cons_succ])
      refine Reg.G_done rfl ?_
      obtain ⟨⟨p0, p1, p2⟩, p3, p4⟩ := HX.out.kept HV.out
      go_wp2_with fail
      go_ret
      exact ⟨rfl, left_bad HV.out HX.out hp⟩
  | some y =>
    obtain ⟨v, u⟩ := y
    have hu := ((hgi v u).1 hg).2.1
    have hv64 := ((hgi v u).1 hg)
    have hpu : (p : Int) + (u : Int) ≤ 9223372036854775807 := by omega
    rw [hg] at hget
    have HGet := Lib.hid hget
    clear hget hgi hmx
    have hno : (bad = true ∨ ¬ v ≤ most) → rd (Gr.num most) 0 xs (p, bad) = (0, (p, true)) := by
      intro h
      cases bad
      · exact rd_none (num_great hg (h.resolve_left (by decide)))
      · exact rd_bad
    cases bad with
    | true =>
      rw [hno (Or.inl rfl)]
      clear hg hno hv64 hu
      obtain ⟨⟨p0, p1, p2⟩, p3⟩ := HX.out
      go_enter Tryz.func30, Tryz.ntmps30
      go_wp2_with fail
      refine Reg.G_start (by kernel_rfl) (by repeat (first | exact Reg.frameless_bodyPost | refine Reg.frameless_then ?_ | refine Reg.frameless_inBlock ?_)) (fun W hW => ?_)
      have x0 := Reg.later_cell hW p0
      have x1 := Reg.later_cell hW p1
      clear p0 p1 p2 p3
      obtain ⟨D, hD⟩ : ∃ D, D = dropA A p c := ⟨_, rfl⟩
      unfold dropA at hD
      first | (refine Reg.G_step (i := 0) rfl (by kernel_rfl) (by rfl) (fun K hK => ?_); go_big_quiet_op; refine hK _ ?_; clear hK K) | (refine Reg.G_skip (i := 0) rfl (by kernel_rfl) (by rfl) ?_; simp only [Act.put, List.setIfInBounds_toArray, List.set_cons_zero, List.set_cons_succ])
      first | (refine Reg.G_step (i := 1) rfl (by kernel_rfl) (by rfl) (fun K hK => ?_); go_big_quiet_op; refine hK _ ?_; clear hK K) | (refine Reg.G_skip (i := 1) rfl (by kernel_rfl) (by rfl) ?_; simp only [Act.put, List.setIfInBounds_toArray, List.set_cons_zero, List.set_cons_succ])
      first | (refine Reg.G_step (i := 2) rfl (by kernel_rfl) (by rfl) (fun K hK => ?_); go_big_quiet_op; refine hK _ ?_; clear hK K) | (refine Reg.G_skip (i := 2) rfl (by kernel_rfl) (by rfl) ?_; simp only [Act.put, List.setIfInBounds_toArray, List.set_cons_zero, List.set_cons_succ])
      first | (refine Reg.G_step (i := 3) rfl (by kernel_rfl) (by rfl) (fun K hK => ?_); go_big_quiet_op; refine hK _ ?_; clear hK K) | (refine Reg.G_skip (i := 3) rfl (by kernel_rfl) (by rfl) ?_; simp only [Act.put, List.setIfInBounds_toArray, List.set_cons_zero, List.set_cons_succ])
      first | (refine Reg.G_step (i := 4) rfl (by kernel_rfl) (by rfl) (fun K hK => ?_); go_big_quiet_op; refine hK _ ?_; clear hK K) | (refine Reg.G_skip (i := 4) rfl (by kernel_rfl) (by rfl) ?_; simp only [Act.put, List.setIfInBounds_toArray, List.set_cons_zero, List.set_cons_succ])
      first | (refine Reg.G_step (i := 5) rfl (by kernel_rfl) (by rfl) (fun K hK => ?_); go_big_quiet_op; refine hK _ ?_; clear hK K) | (refine Reg.G_skip (i := 5) rfl (by kernel_rfl) (by rfl) ?_; simp only [Act.put, List.setIfInBounds_toArray, List.set_cons_zero, List.set_cons_succ])
      first | (refine Reg.G_step (i := 6) rfl (by kernel_rfl) (by rfl) (fun K hK => ?_); go_big_quiet_op; refine hK _ ?_; clear hK K) | (refine Reg.G_skip (i := 6) rfl (by kernel_rfl) (by rfl) ?_; simp only [Act.put, List.setIfInBounds_toArray, List.set_cons_zero, List.set_cons_succ])
      first | (refine Reg.G_step (i := 7) rfl (by kernel_rfl) (by rfl) (fun K hK => ?_); go_big_quiet_op; refine hK _ ?_; clear hK K) | (refine Reg.G_skip (i := 7) rfl (by kernel_rfl) (by rfl) ?_; simp only [Act.put, List.setIfInBounds_toArray, List.set_cons_zero, List.set_cons_succ])
      first | (refine Reg.G_step (i := 8) rfl (by kernel_rfl) (by rfl) (fun K hK => ?_); go_big_quiet_op; refine hK _ ?_; clear hK K) | (refine Reg.G_skip (i := 8) rfl (by kernel_rfl) (by rfl) ?_; simp only [Act.put, List.setIfInBounds_toArray, List.set_cons_zero, List.set_cons_succ])
      refine Reg.G_event (i := 9) rfl (by kernel_rfl) (by rfl) (fun K hK => ?_)
      go_simp
      refine (HGet.out W hW).mono ?_
      rintro e v0 ⟨rfl, hv0⟩
      refine hK _ _ hv0 ?_
      clear hK K x0 x1
      rw [← hD]
      clear hD
      simp only [LeG.gotV]
      have HV := Lib.hid (bt hW hv0)
      clear hv0
      first | (refine Reg.G_step (i := 10) rfl (by kernel_rfl) (by rfl) (fun K hK => ?_); go_big_quiet_op; refine hK _ ?_; clear hK K) | (refine Reg.G_skip (i := 10) rfl (by kernel_rfl) (by rfl) ?_; simp only [Act.put, List.setIfInBounds_toArray, List.set_cons_zero, List.set_cons_succ])
      first | (refine Reg.G_step (i := 11) rfl (by kernel_rfl) (by rfl) (fun K hK => ?_); go_big_quiet_op; refine hK _ ?_; clear hK K) | (refine Reg.G_skip (i := 11) rfl (by kernel_rfl) (by rfl) ?_; simp only [Act.put, List.setIfInBounds_toArray, List.set_cons_zero, List.set_cons_succ])
      first | (refine Reg.G_step (i := 12) rfl (by kernel_rfl) (by rfl) (fun K hK => ?_); go_big_quiet_op; refine hK _ ?_; clear hK K) | (refine Reg.G_skip (i := 12) rfl (by kernel_rfl) (by rfl) ?_; simp only [Act.put, List.setIfInBounds_toArray, List.set_cons_zero, List.set_cons_succ])
      first | (refine Reg.G_step (i := 13) rfl (by kernel_rfl) (by rfl) (fun K hK => ?_); go_big_quiet_op; refine hK _ ?_; clear hK K) | (refine Reg.G_skip (i := 13) rfl (by kernel_rfl) (by rfl) ?_; simp only [Act.put, List.setIfInBounds_toArray, List.set_cons_zero, List.set_cons_succ])
      first | (refine Reg.G_step (i := 14) rfl (by kernel_rfl) (by rfl) (fun K hK => ?_); go_big_quiet_op; refine hK _ ?_; clear hK K) | (refine Reg.G_skip (i := 14) rfl (by kernel_rfl) (by rfl) ?_; simp only [Act.put, List.setIfInBounds_toArray, List.set_cons_zero, List.set_cons_succ])
      first | (refine Reg.G_step (i := 15) rfl (by kernel_rfl) (by rfl) (fun K hK => ?_); go_big_quiet_op; refine hK _ ?_; clear hK K) | (refine Reg.G_skip (i := 15) rfl (by kernel_rfl) (by rfl) ?_; simp only [Act.put, List.setIfInBounds_toArray, List.set_cons_zero, List.set_cons_succ])
      first | (refine Reg.G_step (i := 16) rfl (by kernel_rfl) (by rfl) (fun K hK => ?_); go_big_quiet_op; refine hK _ ?_; clear hK K) | (refine Reg.G_skip (i := 16) rfl (by kernel_rfl) (by rfl) ?_; simp only [Act.put, List.setIfInBounds_toArray, List.set_cons_zero, List.set_cons_succ])
      refine Reg.G_done rfl ?_
      obtain ⟨⟨p0, p1, p2⟩, p3, p4⟩ := HX.out.kept HV.out
      go_wp2_with fail
      go_ret
      exact ⟨rfl, left_bad HV.out HX.out hp⟩
    | false =>
      have hv6 : v ≤ 18446744073709551615 := by omega
      by_cases hv : v ≤ most
      · have hr : rd (Gr.num most) 0 xs (p, false) = (v, (p + u, false)) := rd_some (num_some hg hv)
        rw [hr]
        have hd : decide ((most : Int) < (v : Int)) = false := by rw [decide_eq_false_iff_not]; omega
        have hd' : decide (most < v) = false := by rw [decide_eq_false_iff_not]; omega
        clear hg hno hr hv64
        obtain ⟨⟨p0, p1, p2⟩, p3⟩ := HX.out
        go_enter Tryz.func30, Tryz.ntmps30
        go_wp2_with fail
        refine Reg.G_start (by kernel_rfl) (by repeat (first | exact Reg.frameless_bodyPost | refine Reg.frameless_then ?_ | refine Reg.frameless_inBlock ?_)) (fun W hW => ?_)
        have x0 := Reg.later_cell hW p0
        have x1 := Reg.later_cell hW p1
        clear p0 p1 p2 p3
        obtain ⟨D, hD⟩ : ∃ D, D = dropA A p c := ⟨_, rfl⟩
        unfold dropA at hD
        first | (refine Reg.G_step (i := 0) rfl (by kernel_rfl) (by rfl) (fun K hK => ?_); go_big_quiet_op; refine hK _ ?_; clear hK K) | (refine Reg.G_skip (i := 0) rfl (by kernel_rfl) (by rfl) ?_; simp only [Act.put, List.setIfInBounds_toArray, List.set_cons_zero, List.set_cons_succ])
        first | (refine Reg.G_step (i := 1) rfl (by kernel_rfl) (by rfl) (fun K hK => ?_); go_big_quiet_op; refine hK _ ?_; clear hK K) | (refine Reg.G_skip (i := 1) rfl (by kernel_rfl) (by rfl) ?_; simp only [Act.put, List.setIfInBounds_toArray, List.set_cons_zero, List.set_cons_succ])
        first | (refine Reg.G_step (i := 2) rfl (by kernel_rfl) (by rfl) (fun K hK => ?_); go_big_quiet_op; refine hK _ ?_; clear hK K) | (refine Reg.G_skip (i := 2) rfl (by kernel_rfl) (by rfl) ?_; simp only [Act.put, List.setIfInBounds_toArray, List.set_cons_zero, List.set_cons_succ])
        first | (refine Reg.G_step (i := 3) rfl (by kernel_rfl) (by rfl) (fun K hK => ?_); go_big_quiet_op; refine hK _ ?_; clear hK K) | (refine Reg.G_skip (i := 3) rfl (by kernel_rfl) (by rfl) ?_; simp only [Act.put, List.setIfInBounds_toArray, List.set_cons_zero, List.set_cons_succ])
        first | (refine Reg.G_step (i := 4) rfl (by kernel_rfl) (by rfl) (fun K hK => ?_); go_big_quiet_op; refine hK _ ?_; clear hK K) | (refine Reg.G_skip (i := 4) rfl (by kernel_rfl) (by rfl) ?_; simp only [Act.put, List.setIfInBounds_toArray, List.set_cons_zero, List.set_cons_succ])
        first | (refine Reg.G_step (i := 5) rfl (by kernel_rfl) (by rfl) (fun K hK => ?_); go_big_quiet_op; refine hK _ ?_; clear hK K) | (refine Reg.G_skip (i := 5) rfl (by kernel_rfl) (by rfl) ?_; simp only [Act.put, List.setIfInBounds_toArray, List.set_cons_zero, List.set_cons_succ])
        first | (refine Reg.G_step (i := 6) rfl (by kernel_rfl) (by rfl) (fun K hK => ?_); go_big_quiet_op; refine hK _ ?_; clear hK K) | (refine Reg.G_skip (i := 6) rfl (by kernel_rfl) (by rfl) ?_; simp only [Act.put, List.setIfInBounds_toArray, List.set_cons_zero, List.set_cons_succ])
        first | (refine Reg.G_step (i := 7) rfl (by kernel_rfl) (by rfl) (fun K hK => ?_); go_big_quiet_op; refine hK _ ?_; clear hK K) | (refine Reg.G_skip (i := 7) rfl (by kernel_rfl) (by rfl) ?_; simp only [Act.put, List.setIfInBounds_toArray, List.set_cons_zero, List.set_cons_succ])
        first | (refine Reg.G_step (i := 8) rfl (by kernel_rfl) (by rfl) (fun K hK => ?_); go_big_quiet_op; refine hK _ ?_; clear hK K) | (refine Reg.G_skip (i := 8) rfl (by kernel_rfl) (by rfl) ?_; simp only [Act.put, List.setIfInBounds_toArray, List.set_cons_zero, List.set_cons_succ])
        refine Reg.G_event (i := 9) rfl (by kernel_rfl) (by rfl) (fun K hK => ?_)
        go_simp
        refine (HGet.out W hW).mono ?_
        rintro e v0 ⟨rfl, hv0⟩
        refine hK _ _ hv0 ?_
        clear hK K x0 x1
        rw [← hD]
        clear hD
        simp only [LeG.gotV]
        have HV := Lib.hid (bt hW hv0)
        clear hv0
        first | (refine Reg.G_step (i := 10) rfl (by kernel_rfl) (by rfl) (fun K hK => ?_); go_big_quiet_op; refine hK _ ?_; clear hK K) | (refine Reg.G_skip (i := 10) rfl (by kernel_rfl) (by rfl) ?_; simp only [Act.put, List.setIfInBounds_toArray, List.set_cons_zero, List.set_cons_succ])
        first | (refine Reg.G_step (i := 11) rfl (by kernel_rfl) (by rfl) (fun K hK => ?_); go_big_quiet_op; refine hK _ ?_; clear hK K) | (refine Reg.G_skip (i := 11) rfl (by kernel_rfl) (by rfl) ?_; simp only [Act.put, List.setIfInBounds_toArray, List.set_cons_zero, List.set_cons_succ])
        first | (refine Reg.G_step (i := 12) rfl (by kernel_rfl) (by rfl) (fun K hK => ?_); go_big_quiet_op; refine hK _ ?_; clear hK K) | (refine Reg.G_skip (i := 12) rfl (by kernel_rfl) (by rfl) ?_; simp only [Act.put, List.setIfInBounds_toArray, List.set_cons_zero, List.set_cons_succ])
        first | (refine Reg.G_step (i := 13) rfl (by kernel_rfl) (by rfl) (fun K hK => ?_); go_big_quiet_op; refine hK _ ?_; clear hK K) | (refine Reg.G_skip (i := 13) rfl (by kernel_rfl) (by rfl) ?_; simp only [Act.put, List.setIfInBounds_toArray, List.set_cons_zero, List.set_cons_succ])
        first | (refine Reg.G_step (i := 14) rfl (by kernel_rfl) (by rfl) (fun K hK => ?_); go_big_quiet_op; refine hK _ ?_; clear hK K) | (refine Reg.G_skip (i := 14) rfl (by kernel_rfl) (by rfl) ?_; simp only [Act.put, List.setIfInBounds_toArray, List.set_cons_zero, List.set_cons_succ])
        first | (refine Reg.G_step (i := 15) rfl (by kernel_rfl) (by rfl) (fun K hK => ?_); go_big_quiet_op; refine hK _ ?_; clear hK K) | (refine Reg.G_skip (i := 15) rfl (by kernel_rfl) (by rfl) ?_; simp only [Act.put, List.setIfInBounds_toArray, List.set_cons_zero, List.set_cons_succ])
        first | (refine Reg.G_step (i := 16) rfl (by kernel_rfl) (by rfl) (fun K hK => ?_); go_big_quiet_op; refine hK _ ?_; clear hK K) | (refine Reg.G_skip (i := 16) rfl (by kernel_rfl) (by rfl) ?_; simp only [Act.put, List.setIfInBounds_toArray, List.set_cons_zero, List.set_cons_succ])
        refine Reg.G_done rfl ?_
        obtain ⟨⟨p0, p1, p2⟩, p3, p4⟩ := HX.out.kept HV.out
        go_wp2_with fail
        go_ret
        exact ⟨rfl, left_got HV.out HX.out (show p + u ≤ N by omega)⟩
      · rw [hno (Or.inr hv)]
        have hd : decide ((most : Int) < (v : Int)) = true := by rw [decide_eq_true_iff]; omega
        have hd' : decide (most < v) = true := by rw [decide_eq_true_iff]; omega
        clear hg hno hv64 hu
        obtain ⟨⟨p0, p1, p2⟩, p3⟩ := HX.out
        go_enter Tryz.func30, Tryz.ntmps30
        go_wp2_with fail
        refine Reg.G_start (by kernel_rfl) (by repeat (first | exact Reg.frameless_bodyPost | refine Reg.frameless_then ?_ | refine Reg.frameless_inBlock ?_)) (fun W hW => ?_)
        have x0 := Reg.later_cell hW p0
        have x1 := Reg.later_cell hW p1
        clear p0 p1 p2 p3
        obtain ⟨D, hD⟩ : ∃ D, D = dropA A p c := ⟨_, rfl⟩
        unfold dropA at hD
        first | (refine Reg.G_step (i := 0) rfl (by kernel_rfl) (by rfl) (fun K hK => ?_); go_big_quiet_op; refine hK _ ?_; clear hK K) | (refine Reg.G_skip (i := 0) rfl (by kernel_rfl) (by rfl) ?_; simp only [Act.put, List.setIfInBounds_toArray, List.set_cons_zero, List.set_cons_succ])
        first | (refine Reg.G_step (i := 1) rfl (by kernel_rfl) (by rfl) (fun K hK => ?_); go_big_quiet_op; refine hK _ ?_; clear hK K) | (refine Reg.G_skip (i := 1) rfl (by kernel_rfl) (by rfl) ?_; simp only [Act.put, List.setIfInBounds_toArray, List.set_cons_zero, List.set_cons_succ])
        first | (refine Reg.G_step (i := 2) rfl (by kernel_rfl) (by rfl) (fun K hK => ?_); go_big_quiet_op; refine hK _ ?_; clear hK K) | (refine Reg.G_skip (i := 2) rfl (by kernel_rfl) (by rfl) ?_; simp only [Act.put, List.setIfInBounds_toArray, List.set_cons_zero, List.set_cons_succ])
        first | (refine Reg.G_step (i := 3) rfl (by kernel_rfl) (by rfl) (fun K hK => ?_); go_big_quiet_op; refine hK _ ?_; clear hK K) | (refine Reg.G_skip (i := 3) rfl (by kernel_rfl) (by rfl) ?_; simp only [Act.put, List.setIfInBounds_toArray, List.set_cons_zero, List.set_cons_succ])
        first | (refine Reg.G_step (i := 4) rfl (by kernel_rfl) (by rfl) (fun K hK => ?_); go_big_quiet_op; refine hK _ ?_; clear hK K) | (refine Reg.G_skip (i := 4) rfl (by kernel_rfl) (by rfl) ?_; simp only [Act.put, List.setIfInBounds_toArray, List.set_cons_zero, List.set_cons_succ])
        first | (refine Reg.G_step (i := 5) rfl (by kernel_rfl) (by rfl) (fun K hK => ?_); go_big_quiet_op; refine hK _ ?_; clear hK K) | (refine Reg.G_skip (i := 5) rfl (by kernel_rfl) (by rfl) ?_; simp only [Act.put, List.setIfInBounds_toArray, List.set_cons_zero, List.set_cons_succ])
        first | (refine Reg.G_step (i := 6) rfl (by kernel_rfl) (by rfl) (fun K hK => ?_); go_big_quiet_op; refine hK _ ?_; clear hK K) | (refine Reg.G_skip (i := 6) rfl (by kernel_rfl) (by rfl) ?_; simp only [Act.put, List.setIfInBounds_toArray, List.set_cons_zero, List.set_cons_succ])
        first | (refine Reg.G_step (i := 7) rfl (by kernel_rfl) (by rfl) (fun K hK => ?_); go_big_quiet_op; refine hK _ ?_; clear hK K) | (refine Reg.G_skip (i := 7) rfl (by kernel_rfl) (by rfl) ?_; simp only [Act.put, List.setIfInBounds_toArray, List.set_cons_zero, List.set_cons_succ])
        first | (refine Reg.G_step (i := 8) rfl (by kernel_rfl) (by rfl) (fun K hK => ?_); go_big_quiet_op; refine hK _ ?_; clear hK K) | (refine Reg.G_skip (i := 8) rfl (by kernel_rfl) (by rfl) ?_; simp only [Act.put, List.setIfInBounds_toArray, List.set_cons_zero, List.set_cons_succ])
        refine Reg.G_event (i := 9) rfl (by kernel_rfl) (by rfl) (fun K hK => ?_)
        go_simp
        refine (HGet.out W hW).mono ?_
        rintro e v0 ⟨rfl, hv0⟩
        refine hK _ _ hv0 ?_
        clear hK K x0 x1
        rw [← hD]
        clear hD
        simp only [LeG.gotV]
        have HV := Lib.hid (bt hW hv0)
        clear hv0
        first | (refine Reg.G_step (i := 10) rfl (by kernel_rfl) (by rfl) (fun K hK => ?_); go_big_quiet_op; refine hK _ ?_; clear hK K) | (refine Reg.G_skip (i := 10) rfl (by kernel_rfl) (by rfl) ?_; simp only [Act.put, List.setIfInBounds_toArray, List.set_cons_zero, List.set_cons_succ])
        first | (refine Reg.G_step (i := 11) rfl (by kernel_rfl) (by rfl) (fun K hK => ?_); go_big_quiet_op; refine hK _ ?_; clear hK K) | (refine Reg.G_skip (i := 11) rfl (by kernel_rfl) (by rfl) ?_; simp only [Act.put, List.setIfInBounds_toArray, List.set_cons_zero, List.set_cons_succ])
        first | (refine Reg.G_step (i := 12) rfl (by kernel_rfl) (by rfl) (fun K hK => ?_); go_big_quiet_op; refine hK _ ?_; clear hK K) | (refine Reg.G_skip (i := 12) rfl (by kernel_rfl) (by rfl) ?_; simp only [Act.put, List.setIfInBounds_toArray, List.set_cons_zero, List.set_cons_succ])
        first | (refine Reg.G_step (i := 13) rfl (by kernel_rfl) (by rfl) (fun K hK => ?_); go_big_quiet_op; refine hK _ ?_; clear hK K) | (refine Reg.G_skip (i := 13) rfl (by kernel_rfl) (by rfl) ?_; simp only [Act.put, List.setIfInBounds_toArray, List.set_cons_zero, List.set_cons_succ])
        first | (refine Reg.G_step (i := 14) rfl (by kernel_rfl) (by rfl) (fun K hK => ?_); go_big_quiet_op; refine hK _ ?_; clear hK K) | (refine Reg.G_skip (i := 14) rfl (by kernel_rfl) (by rfl) ?_; simp only [Act.put, List.setIfInBounds_toArray, List.set_cons_zero, List.set_cons_succ])
        first | (refine Reg.G_step (i := 15) rfl (by kernel_rfl) (by rfl) (fun K hK => ?_); go_big_quiet_op; refine hK _ ?_; clear hK K) | (refine Reg.G_skip (i := 15) rfl (by kernel_rfl) (by rfl) ?_; simp only [Act.put, List.setIfInBounds_toArray, List.set_cons_zero, List.set_cons_succ])
        first | (refine Reg.G_step (i := 16) rfl (by kernel_rfl) (by rfl) (fun K hK => ?_); go_big_quiet_op; refine hK _ ?_; clear hK K) | (refine Reg.G_skip (i := 16) rfl (by kernel_rfl) (by rfl) ?_; simp only [Act.put, List.setIfInBounds_toArray, List.set_cons_zero, List.set_cons_succ])
        refine Reg.G_done rfl ?_
        obtain ⟨⟨p0, p1, p2⟩, p3, p4⟩ := HX.out.kept HV.out
        go_wp2_with fail
        go_ret
        exact ⟨rfl, left_bad HV.out HX.out hp⟩

set_option maxRecDepth 100000 in
set_option maxHeartbeats 4000000 in
theorem refTxt_any (b : Nat) (A : Option Addr) (xs : List Int) (c p : Nat) (bad : Bool) (w : World) (hB : Bx w b (.slice A xs.length c) (.int .i64 (p : Int)) (.bool bad)) (hx : SlB w A xs c) (hp : p ≤ xs.length) :
    Calls Tryz.prog 31 #[.pointer (some ⟨b, 0, none⟩)] w fun e w' => e = .returned (.string (rd gN e0 xs (p, bad)).1) ∧ Left b A c xs.length w (rd gN e0 xs (p, bad)).2 w' := by
  have hmx := hx.2.2.2
  have hxc := hx.2.1
  unfold maxLen at hmx
  have hget := fun W (hW : Below w.heap.size w W) => Sc.refRead_any (dropA A p c) (xs.drop p) (c - p) W (Cut.slB_drop (hx.kept hW) p hp)
  have hgi := fun t m (h : gN (xs.drop p) = some (t, m)) => (ScM.gN_some (ScM.bytes_drop hx.1.1 p) h).2.1
  simp only [List.length_drop] at hget hgi
  obtain ⟨N, hN⟩ : ∃ N, N = xs.length := ⟨_, rfl⟩
  simp only [← hN] at hget hgi hB
  rw [← hN] at hp hxc ⊢
  unfold dropA at hget
  have HX := Lib.hid hB
  clear hx hN hB
  cases hg : gN (xs.drop p) with
  | none =>
    have hr : rd gN e0 xs (p, bad) = (e0, (p, true)) := by
      cases bad
      · exact rd_none hg
      · exact rd_bad
    rw [hr]
    rw [hg] at hget
    have HGet := Lib.hid hget
    clear hg hr hgi hget hmx
    cases bad
    all_goals
      obtain ⟨⟨p0, p1, p2⟩, p3⟩ := HX.out
      go_enter Tryz.func31, Tryz.ntmps31
      go_wp2_with fail
      refine Reg.G_start (by kernel_rfl) (by repeat (first | exact Reg.frameless_bodyPost | refine Reg.frameless_then ?_ | refine Reg.frameless_inBlock ?_)) (fun W hW => ?_)
      have x0 := Reg.later_cell hW p0
      have x1 := Reg.later_cell hW p1
      clear p0 p1 p2 p3
      obtain ⟨D, hD⟩ : ∃ D, D = dropA A p c := ⟨_, rfl⟩
      unfold dropA at hD
      first | (refine Reg.G_step (i := 0) rfl (by kernel_rfl) (by rfl) (fun K hK => ?_); go_big_quiet_op; refine hK _ ?_; clear hK K) | (refine Reg.G_skip (i := 0) rfl (by kernel_rfl) (by rfl) ?_; simp only [Act.put, List.setIfInBounds_toArray, List.set_cons_zero, List.set_cons_succ])
      first | (refine Reg.G_step (i := 1) rfl (by kernel_rfl) (by rfl) (fun K hK => ?_); go_big_quiet_op; refine hK _ ?_; clear hK K) | (refine Reg.G_skip (i := 1) rfl (by kernel_rfl) (by rfl) ?_; simp only [Act.put, List.setIfInBounds_toArray, List.set_cons_zero, List.set_cons_succ])
      first | (refine Reg.G_step (i := 2) rfl (by kernel_rfl) (by rfl) (fun K hK => ?_); go_big_quiet_op; refine hK _ ?_; clear hK K) | (refine Reg.G_skip (i := 2) rfl (by kernel_rfl) (by rfl) ?_; simp only [Act.put, List.setIfInBounds_toArray, List.set_cons_zero, List.set_cons_succ])
      first | (refine Reg.G_step (i := 3) rfl (by kernel_rfl) (by rfl) (fun K hK => ?_); go_big_quiet_op; refine hK _ ?_; clear hK K) | (refine Reg.G_skip (i := 3) rfl (by kernel_rfl) (by rfl) ?_; simp only [Act.put, List.setIfInBounds_toArray, List.set_cons_zero, List.set_cons_succ])
      first | (refine Reg.G_step (i := 4) rfl (by kernel_rfl) (by rfl) (fun K hK => ?_); go_big_quiet_op; refine hK _ ?_; clear hK K) | (refine Reg.G_skip (i := 4) rfl (by kernel_rfl) (by rfl) ?_; simp only [Act.put, List.setIfInBounds_toArray, List.set_cons_zero, List.set_cons_succ])
      first | (refine Reg.G_step (i := 5) rfl (by kernel_rfl) (by rfl) (fun K hK => ?_); go_big_quiet_op; refine hK _ ?_; clear hK K) | (refine Reg.G_skip (i := 5) rfl (by kernel_rfl) (by rfl) ?_; simp only [Act.put, List.setIfInBounds_toArray, List.set_cons_zero, List.set_cons_succ])
      first | (refine Reg.G_step (i := 6) rfl (by kernel_rfl) (by rfl) (fun K hK => ?_); go_big_quiet_op; refine hK _ ?_; clear hK K) | (refine Reg.G_skip (i := 6) rfl (by kernel_rfl) (by rfl) ?_; simp only [Act.put, List.setIfInBounds_toArray, List.set_cons_zero, List.set_cons_succ])
      first | (refine Reg.G_step (i := 7) rfl (by kernel_rfl) (by rfl) (fun K hK => ?_); go_big_quiet_op; refine hK _ ?_; clear hK K) | (refine Reg.G_skip (i := 7) rfl (by kernel_rfl) (by rfl) ?_; simp only [Act.put, List.setIfInBounds_toArray, List.set_cons_zero, List.set_cons_succ])
      first | (refine Reg.G_step (i := 8) rfl (by kernel_rfl) (by rfl) (fun K hK => ?_); go_big_quiet_op; refine hK _ ?_; clear hK K) | (refine Reg.G_skip (i := 8) rfl (by kernel_rfl) (by rfl) ?_; simp only [Act.put, List.setIfInBounds_toArray, List.set_cons_zero, List.set_cons_succ])
      refine Reg.G_event (i := 9) rfl (by kernel_rfl) (by rfl) (fun K hK => ?_)
      go_simp
      refine (HGet.out W hW).mono ?_
      rintro e v0 ⟨rfl, hv0⟩
      refine hK _ _ hv0 ?_
      clear hK K x0 x1
      rw [← hD]
      clear hD
      simp only [gotN]
      have HV := Lib.hid (bt hW hv0)
      clear hv0
      first | (refine Reg.G_step (i := 10) rfl (by kernel_rfl) (by rfl) (fun K hK => ?_); go_big_quiet_op; refine hK _ ?_; clear hK K) | (refine Reg.G_skip (i := 10) rfl (by kernel_rfl) (by rfl) ?_; simp only [Act.put, List.setIfInBounds_toArray, List.set_cons_zero, List.set_cons_succ])
      first | (refine Reg.G_step (i := 11) rfl (by kernel_rfl) (by rfl) (fun K hK => ?_); go_big_quiet_op; refine hK _ ?_; clear hK K) | (refine Reg.G_skip (i := 11) rfl (by kernel_rfl) (by rfl) ?_; simp only [Act.put, List.setIfInBounds_toArray, List.set_cons_zero, List.set_cons_succ])
      first | (refine Reg.G_step (i := 12) rfl (by kernel_rfl) (by rfl) (fun K hK => ?_); go_big_quiet_op; refine hK _ ?_; clear hK K) | (refine Reg.G_skip (i := 12) rfl (by kernel_rfl) (by rfl) ?_; simp only [Act.put, List.setIfInBounds_toArray, List.set_cons_zero, List.set_cons_succ])
      first | (refine Reg.G_step (i := 13) rfl (by kernel_rfl) (by rfl) (fun K hK => ?_); go_big_quiet_op; refine hK _ ?_; clear hK K) | (refine Reg.G_skip (i := 13) rfl (by kernel_rfl) (by rfl) ?_; simp only [Act.put, List.setIfInBounds_toArray, List.set_cons_zero, List.set_cons_succ])
      first | (refine Reg.G_step (i := 14) rfl (by kernel_rfl) (by rfl) (fun K hK => ?_); go_big_quiet_op; refine hK _ ?_; clear hK K) | (refine Reg.G_skip (i := 14) rfl (by kernel_rfl) (by rfl) ?_; simp only [Act.put, List.setIfInBounds_toArray, List.set_cons_zero, List.set_cons_succ])
      first | (refine Reg.G_step (i := 15) rfl (by kernel_rfl) (by rfl) (fun K hK => ?_); go_big_quiet_op; refine hK _ ?_; clear hK K) | (refine Reg.G_skip (i := 15) rfl (by kernel_rfl) (by rfl) ?_; simp only [Act.put, List.setIfInBounds_toArray, List.set_cons_zero, List.set_cons_succ])
      first | (refine Reg.G_step (i := 16) rfl (by kernel_rfl) (by rfl) (fun K hK => ?_); go_big_quiet_op; refine hK _ ?_; clear hK K) | (refine Reg.G_skip (i := 16) rfl (by kernel_rfl) (by rfl) ?_; simp only [Act.put, List.setIfInBounds_toArray, List.set_cons_zero, List.set_cons_succ])
      refine Reg.G_done rfl ?_
      obtain ⟨⟨p0, p1, p2⟩, p3, p4⟩ := HX.out.kept HV.out
      go_wp2_with fail
      go_ret
      exact ⟨rfl, left_bad HV.out HX.out hp⟩
  | some y =>
    obtain ⟨t, u⟩ := y
    have hu := hgi t u hg
    have hpu : (p : Int) + (u : Int) ≤ 9223372036854775807 := by omega
    rw [hg] at hget
    have HGet := Lib.hid hget
    clear hget hgi hmx
    cases bad with
    | true =>
      rw [show rd gN e0 xs (p, true) = (e0, (p, true)) from rd_bad]
      clear hg hu
      obtain ⟨⟨p0, p1, p2⟩, p3⟩ := HX.out
      go_enter Tryz.func31, Tryz.ntmps31
      go_wp2_with fail
      refine Reg.G_start (by kernel_rfl) (by repeat (first | exact Reg.frameless_bodyPost | refine Reg.frameless_then ?_ | refine Reg.frameless_inBlock ?_)) (fun W hW => ?_)
      have x0 := Reg.later_cell hW p0
      have x1 := Reg.later_cell hW p1
      clear p0 p1 p2 p3
      obtain ⟨D, hD⟩ : ∃ D, D = dropA A p c := ⟨_, rfl⟩
      unfold dropA at hD
      first | (refine Reg.G_step (i := 0) rfl (by kernel_rfl) (by rfl) (fun K hK => ?_); go_big_quiet_op; refine hK _ ?_; clear hK K) | (refine Reg.G_skip (i := 0) rfl (by kernel_rfl) (by rfl) ?_; simp only [Act.put, List.setIfInBounds_toArray, List.set_cons_zero, List.set_cons_succ])
      first | (refine Reg.G_step (i := 1) rfl (by kernel_rfl) (by rfl) (fun K hK => ?_); go_big_quiet_op; refine hK _ ?_; clear hK K) | (refine Reg.G_skip (i := 1) rfl (by kernel_rfl) (by rfl) ?_; simp only [Act.put, List.setIfInBounds_toArray, List.set_cons_zero, List.set_cons_succ])
      first | (refine Reg.G_step (i := 2) rfl (by kernel_rfl) (by rfl) (fun K hK => ?_); go_big_quiet_op; refine hK _ ?_; clear hK K) | (refine Reg.G_skip (i := 2) rfl (by kernel_rfl) (by rfl) ?_; simp only [Act.put, List.setIfInBounds_toArray, List.set_cons_zero, List.set_cons_succ])
      first | (refine Reg.G_step (i := 3) rfl (by kernel_rfl) (by rfl) (fun K hK => ?_); go_big_quiet_op; refine hK _ ?_; clear hK K) | (refine Reg.G_skip (i := 3) rfl (by kernel_rfl) (by rfl) ?_; simp only [Act.put, List.setIfInBounds_toArray, List.set_cons_zero, List.set_cons_succ])
      first | (refine Reg.G_step (i := 4) rfl (by kernel_rfl) (by rfl) (fun K hK => ?_); go_big_quiet_op; refine hK _ ?_; clear hK K) | (refine Reg.G_skip (i := 4) rfl (by kernel_rfl) (by rfl) ?_; simp only [Act.put, List.setIfInBounds_toArray, List.set_cons_zero, List.set_cons_succ])
      first | (refine Reg.G_step (i := 5) rfl (by kernel_rfl) (by rfl) (fun K hK => ?_); go_big_quiet_op; refine hK _ ?_; clear hK K) | (refine Reg.G_skip (i := 5) rfl (by kernel_rfl) (by rfl) ?_; simp only [Act.put, List.setIfInBounds_toArray, List.set_cons_zero, List.set_cons_succ])
      first | (refine Reg.G_step (i := 6) rfl (by kernel_rfl) (by rfl) (fun K hK => ?_); go_big_quiet_op; refine hK _ ?_; clear hK K) | (refine Reg.G_skip (i := 6) rfl (by kernel_rfl) (by rfl) ?_; simp only [Act.put, List.setIfInBounds_toArray, List.set_cons_zero, List.set_cons_succ])
      first | (refine Reg.G_step (i := 7) rfl (by kernel_rfl) (by rfl) (fun K hK => ?_); go_big_quiet_op; refine hK _ ?_; clear hK K) | (refine Reg.G_skip (i := 7) rfl (by kernel_rfl) (by rfl) ?_; simp only [Act.put, List.setIfInBounds_toArray, List.set_cons_zero, List.set_cons_succ])
      first | (refine Reg.G_step (i := 8) rfl (by kernel_rfl) (by rfl) (fun K hK => ?_); go_big_quiet_op; refine hK _ ?_; clear hK K) | (refine Reg.G_skip (i := 8) rfl (by kernel_rfl) (by rfl) ?_; simp only [Act.put, List.setIfInBounds_toArray, List.set_cons_zero, List.set_cons_succ])
      refine Reg.G_event (i := 9) rfl (by kernel_rfl) (by rfl) (fun K hK => ?_)
      go_simp
      refine (HGet.out W hW).mono ?_
      rintro e v0 ⟨rfl, hv0⟩
      refine hK _ _ hv0 ?_
      clear hK K x0 x1
      rw [← hD]
      clear hD
      simp only [gotN]
      have HV := Lib.hid (bt hW hv0)
      clear hv0
      first | (refine Reg.G_step (i := 10) rfl (by kernel_rfl) (by rfl) (fun K hK => ?_); go_big_quiet_op; refine hK _ ?_; clear hK K) | (refine Reg.G_skip (i := 10) rfl (by kernel_rfl) (by rfl) ?_; simp only [Act.put, List.setIfInBounds_toArray, List.set_cons_zero, List.set_cons_succ])
      first | (refine Reg.G_step (i := 11) rfl (by kernel_rfl) (by rfl) (fun K hK => ?_); go_big_quiet_op; refine hK _ ?_; clear hK K) | (refine Reg.G_skip (i := 11) rfl (by kernel_rfl) (by rfl) ?_; simp only [Act.put, List.setIfInBounds_toArray, List.set_cons_zero, List.set_cons_succ])
      first | (refine Reg.G_step (i := 12) rfl (by kernel_rfl) (by rfl) (fun K hK => ?_); go_big_quiet_op; refine hK _ ?_; clear hK K) | (refine Reg.G_skip (i := 12) rfl (by kernel_rfl) (by rfl) ?_; simp only [Act.put, List.setIfInBounds_toArray, List.set_cons_zero, List.set_cons_succ])
      first | (refine Reg.G_step (i := 13) rfl (by kernel_rfl) (by rfl) (fun K hK => ?_); go_big_quiet_op; refine hK _ ?_; clear hK K) | (refine Reg.G_skip (i := 13) rfl (by kernel_rfl) (by rfl) ?_; simp only [Act.put, List.setIfInBounds_toArray, List.set_cons_zero, List.set_cons_succ])
      first | (refine Reg.G_step (i := 14) rfl (by kernel_rfl) (by rfl) (fun K hK => ?_); go_big_quiet_op; refine hK _ ?_; clear hK K) | (refine Reg.G_skip (i := 14) rfl (by kernel_rfl) (by rfl) ?_; simp only [Act.put, List.setIfInBounds_toArray, List.set_cons_zero, List.set_cons_succ])
      first | (refine Reg.G_step (i := 15) rfl (by kernel_rfl) (by rfl) (fun K hK => ?_); go_big_quiet_op; refine hK _ ?_; clear hK K) | (refine Reg.G_skip (i := 15) rfl (by kernel_rfl) (by rfl) ?_; simp only [Act.put, List.setIfInBounds_toArray, List.set_cons_zero, List.set_cons_succ])
      first | (refine Reg.G_step (i := 16) rfl (by kernel_rfl) (by rfl) (fun K hK => ?_); go_big_quiet_op; refine hK _ ?_; clear hK K) | (refine Reg.G_skip (i := 16) rfl (by kernel_rfl) (by rfl) ?_; simp only [Act.put, List.setIfInBounds_toArray, List.set_cons_zero, List.set_cons_succ])
      refine Reg.G_done rfl ?_
      obtain ⟨⟨p0, p1, p2⟩, p3, p4⟩ := HX.out.kept HV.out
      go_wp2_with fail
      go_ret
      exact ⟨rfl, left_bad HV.out HX.out hp⟩
    | false =>
      rw [show rd gN e0 xs (p, false) = (t, (p + u, false)) from rd_some hg]
      clear hg
      obtain ⟨⟨p0, p1, p2⟩, p3⟩ := HX.out
      go_enter Tryz.func31, Tryz.ntmps31
      go_wp2_with fail
      refine Reg.G_start (by kernel_rfl) (by repeat (first | exact Reg.frameless_bodyPost | refine Reg.frameless_then ?_ | refine Reg.frameless_inBlock ?_)) (fun W hW => ?_)
      have x0 := Reg.later_cell hW p0
      have x1 := Reg.later_cell hW p1
      clear p0 p1 p2 p3
      obtain ⟨D, hD⟩ : ∃ D, D = dropA A p c := ⟨_, rfl⟩
      unfold dropA at hD
      first | (refine Reg.G_step (i := 0) rfl (by kernel_rfl) (by rfl) (fun K hK => ?_); go_big_quiet_op; refine hK _ ?_; clear hK K) | (refine Reg.G_skip (i := 0) rfl (by kernel_rfl) (by rfl) ?_; simp only [Act.put, List.setIfInBounds_toArray, List.set_cons_zero, List.set_cons_succ])
      first | (refine Reg.G_step (i := 1) rfl (by kernel_rfl) (by rfl) (fun K hK => ?_); go_big_quiet_op; refine hK _ ?_; clear hK K) | (refine Reg.G_skip (i := 1) rfl (by kernel_rfl) (by rfl) ?_; simp only [Act.put, List.setIfInBounds_toArray, List.set_cons_zero, List.set_cons_succ])
      first | (refine Reg.G_step (i := 2) rfl (by kernel_rfl) (by rfl) (fun K hK => ?_); go_big_quiet_op; refine hK _ ?_; clear hK K) | (refine Reg.G_skip (i := 2) rfl (by kernel_rfl) (by rfl) ?_; simp only [Act.put, List.setIfInBounds_toArray, List.set_cons_zero, List.set_cons_succ])
      first | (refine Reg.G_step (i := 3) rfl (by kernel_rfl) (by rfl) (fun K hK => ?_); go_big_quiet_op; refine hK _ ?_; clear hK K) | (refine Reg.G_skip (i := 3) rfl (by kernel_rfl) (by rfl) ?_; simp only [Act.put, List.setIfInBounds_toArray, List.set_cons_zero, List.set_cons_succ])
      first | (refine Reg.G_step (i := 4) rfl (by kernel_rfl) (by rfl) (fun K hK => ?_); go_big_quiet_op; refine hK _ ?_; clear hK K) | (refine Reg.G_skip (i := 4) rfl (by kernel_rfl) (by rfl) ?_; simp only [Act.put, List.setIfInBounds_toArray, List.set_cons_zero, List.set_cons_succ])
      first | (refine Reg.G_step (i := 5) rfl (by kernel_rfl) (by rfl) (fun K hK => ?_); go_big_quiet_op; refine hK _ ?_; clear hK K) | (refine Reg.G_skip (i := 5) rfl (by kernel_rfl) (by rfl) ?_; simp only [Act.put, List.setIfInBounds_toArray, List.set_cons_zero, List.set_cons_succ])
      first | (refine Reg.G_step (i := 6) rfl (by kernel_rfl) (by rfl) (fun K hK => ?_); go_big_quiet_op; refine hK _ ?_; clear hK K) | (refine Reg.G_skip (i := 6) rfl (by kernel_rfl) (by rfl) ?_; simp only [Act.put, List.setIfInBounds_toArray, List.set_cons_zero, List.set_cons_succ])
      first | (refine Reg.G_step (i := 7) rfl (by kernel_rfl) (by rfl) (fun K hK => ?_); go_big_quiet_op; refine hK _ ?_; clear hK K) | (refine Reg.G_skip (i := 7) rfl (by kernel_rfl) (by rfl) ?_; simp only [Act.put, List.setIfInBounds_toArray, List.set_cons_zero, List.set_cons_succ])
      first | (refine Reg.G_step (i := 8) rfl (by kernel_rfl) (by rfl) (fun K hK => ?_); go_big_quiet_op; refine hK _ ?_; clear hK K) | (refine Reg.G_skip (i := 8) rfl (by kernel_rfl) (by rfl) ?_; simp only [Act.put, List.setIfInBounds_toArray, List.set_cons_zero, List.set_cons_succ])
      refine Reg.G_event (i := 9) rfl (by kernel_rfl) (by rfl) (fun K hK => ?_)
      go_simp
      refine (HGet.out W hW).mono ?_
      rintro e v0 ⟨rfl, hv0⟩
      refine hK _ _ hv0 ?_
      clear hK K x0 x1
      rw [← hD]
      clear hD
      simp only [gotN]
      have HV := Lib.hid (bt hW hv0)
      clear hv0
      first | (refine Reg.G_step (i := 10) rfl (by kernel_rfl) (by rfl) (fun K hK => ?_); go_big_quiet_op; refine hK _ ?_; clear hK K) | (refine Reg.G_skip (i := 10) rfl (by kernel_rfl) (by rfl) ?_; simp only [Act.put, List.setIfInBounds_toArray, List.set_cons_zero, List.set_cons_succ])
      first | (refine Reg.G_step (i := 11) rfl (by kernel_rfl) (by rfl) (fun K hK => ?_); go_big_quiet_op; refine hK _ ?_; clear hK K) | (refine Reg.G_skip (i := 11) rfl (by kernel_rfl) (by rfl) ?_; simp only [Act.put, List.setIfInBounds_toArray, List.set_cons_zero, List.set_cons_succ])
      first | (refine Reg.G_step (i := 12) rfl (by kernel_rfl) (by rfl) (fun K hK => ?_); go_big_quiet_op; refine hK _ ?_; clear hK K) | (refine Reg.G_skip (i := 12) rfl (by kernel_rfl) (by rfl) ?_; simp only [Act.put, List.setIfInBounds_toArray, List.set_cons_zero, List.set_cons_succ])
      first | (refine Reg.G_step (i := 13) rfl (by kernel_rfl) (by rfl) (fun K hK => ?_); go_big_quiet_op; refine hK _ ?_; clear hK K) | (refine Reg.G_skip (i := 13) rfl (by kernel_rfl) (by rfl) ?_; simp only [Act.put, List.setIfInBounds_toArray, List.set_cons_zero, List.set_cons_succ])
      first | (refine Reg.G_step (i := 14) rfl (by kernel_rfl) (by rfl) (fun K hK => ?_); go_big_quiet_op; refine hK _ ?_; clear hK K) | (refine Reg.G_skip (i := 14) rfl (by kernel_rfl) (by rfl) ?_; simp only [Act.put, List.setIfInBounds_toArray, List.set_cons_zero, List.set_cons_succ])
      first | (refine Reg.G_step (i := 15) rfl (by kernel_rfl) (by rfl) (fun K hK => ?_); go_big_quiet_op; refine hK _ ?_; clear hK K) | (refine Reg.G_skip (i := 15) rfl (by kernel_rfl) (by rfl) ?_; simp only [Act.put, List.setIfInBounds_toArray, List.set_cons_zero, List.set_cons_succ])
      first | (refine Reg.G_step (i := 16) rfl (by kernel_rfl) (by rfl) (fun K hK => ?_); go_big_quiet_op; refine hK _ ?_; clear hK K) | (refine Reg.G_skip (i := 16) rfl (by kernel_rfl) (by rfl) ?_; simp only [Act.put, List.setIfInBounds_toArray, List.set_cons_zero, List.set_cons_succ])
      refine Reg.G_done rfl ?_
      obtain ⟨⟨p0, p1, p2⟩, p3, p4⟩ := HX.out.kept HV.out
      go_wp2_with fail
      go_ret
      exact ⟨rfl, left_got HV.out HX.out (show p + u ≤ N by omega)⟩
end Go.Proofs.YtbmdkibmfkmjoaaGreat.Qy

namespace Go.Proofs.YtbmdkibmfkmjoaaGreat.Qy
open Go.RowKit Go.Proofs.YtbmdkibmfkmjoaaGreat.BM Go.Proofs.YtbmdkibmfkmjoaaGreat.LM Go.Proofs.YtbmdkibmfkmjoaaGreat.VaM Go.Proofs.YtbmdkibmfkmjoaaGreat.ExM Go.Proofs.YtbmdkibmfkmjoaaGreat.QyM
open Go.Proofs.YtbmdkibmfkmjoaaGreat.Ex (SlO slO_none slO_len encO KO)

/-- Parts stay, where another block grows. -/
theorem slO_grown' {w w' : World} {r : Option Nat} {A : Option Addr} {l : List O} {c : Nat} (h : SlO w A l c) (hg : w.grownBy w' r) (hb : 0 < l.length → ∀ a, A = some a → some a.block ≠ r) : SlO w' A l c := by
  obtain ⟨⟨⟨vs, h1, h2⟩, h3⟩, h4⟩ := h
  refine ⟨⟨⟨vs, fun hx => ?_, RG.Elems.map (w := w) (w' := w') (p := fun _ => True) (q := fun _ => True) (fun _ _ h => h) h2⟩, h3⟩, h4⟩
  obtain ⟨g, o, e, hc⟩ := h1 hx
  have hl : 0 < l.length := by
    have h5 := RG.Elems.len h2
    have h6 : l.length * KO.size = l.length * 5 := rfl
    omega
  have hne : some g ≠ r := hb hl _ e
  exact ⟨g, o, e, fun j u hj => hg.cell (hc j u hj) hne⟩

theorem slO_lt {w : World} {A : Option Addr} {l : List O} {c : Nat} (h : SlO w A l c) (h0 : 0 < l.length) {a : Addr} (ha : A = some a) : a.block < w.heap.size := by
  obtain ⟨b, q, cs, e, hW⟩ := h.1.at (by decide) 0 _ (List.getElem?_eq_getElem h0)
  rw [ha] at e
  injection e with e
  subst e
  obtain ⟨hr, hc⟩ := hW w (Below.refl _ _)
  have hl := KO.len hr
  have h5 : KO.size = 5 := rfl
  exact World.block_lt_of_cell? w _ (hc 0 _ (List.getElem?_eq_getElem (by omega)))

/-- A step's numbers are ints, its strings' sizes are some. -/
def FineSt (x : St) : Prop := (x.s.size ≤ maxLen ∧ x.t.size ≤ maxLen) ∧ (-9223372036854775808 ≤ x.lo ∧ x.lo ≤ 9223372036854775807) ∧ -9223372036854775808 ≤ x.hi ∧ x.hi ≤ 9223372036854775807

/-- A step's own cells: its expressions' slices lead to blocks of which p tells. -/
def encSt (x : St) (A : Option Addr) (c : Nat) (B : Option Addr) (d : Nat) : List Value := [.string x.s, .slice A x.f.length c, .int .i64 x.lo, .int .i64 x.hi, .bool x.g, .string x.t, .slice B x.h.length d]
def RelSt (p : Nat → Prop) (w : World) (x : St) (cs : List Value) : Prop :=
  ∃ A c B d, cs = encSt x A c B d ∧ SlO w A x.f c ∧ SlO w B x.h d ∧ FineSt x ∧ (0 < x.f.length → ∀ a, A = some a → p a.block) ∧ (0 < x.h.length → ∀ a, B = some a → p a.block)

/-- How a step lies. -/
def KSt : RG.Kind St where
  size := 7
  rel := RelSt
  len := fun ⟨_, _, _, _, h, _⟩ => by rw [h]; rfl
  one := fun ⟨_, _, _, _, h, _⟩ u hu => by
    rw [h] at hu
    simp only [encSt, List.mem_cons, List.not_mem_nil, or_false] at hu
    rcases hu with rfl | rfl | rfl | rfl | rfl | rfl | rfl <;> rfl
  mono := fun ⟨A, c, B, d, h1, h2, h3, h4, h5, h6⟩ k => ⟨A, c, B, d, h1, h2, h3, h4, fun h0 a ha => k _ (slO_lt h2 h0 ha) (h5 h0 a ha), fun h0 a ha => k _ (slO_lt h3 h0 ha) (h6 h0 a ha)⟩
  kept := fun ⟨A, c, B, d, h1, h2, h3, h4⟩ hb => ⟨A, c, B, d, h1, h2.kept hb, h3.kept hb, h4⟩
  grown := fun ⟨A, c, B, d, h1, h2, h3, h4, h5, h6⟩ hg hr => ⟨A, c, B, d, h1, slO_grown' h2 hg (fun h0 a ha => hr _ (h5 h0 a ha)), slO_grown' h3 hg (fun h0 a ha => hr _ (h6 h0 a ha)), h4, h5, h6⟩

theorem tySt : RG.Ty 23 47 7 104 (.agg #[.string ⟨#[]⟩, .slice none 0 0, .int .i64 0, .int .i64 0, .bool false, .string ⟨#[]⟩, .slice none 0 0]) :=
  ⟨by kernel_rfl, by kernel_rfl, by kernel_rfl, fun _ => by kernel_rfl, rfl, by decide, by decide⟩

/-- A slice of steps: where it lies, its length and its capacity. -/
def SlSt (w : World) (A : Option Addr) (l : List St) (c : Nat) : Prop := RG.SlG KSt (fun _ => True) w A l c
theorem SlSt.kept {w w' : World} {A : Option Addr} {l : List St} {c : Nat} (h : SlSt w A l c) (hb : Below w.heap.size w w') : SlSt w' A l c := RG.SlG.kept h hb
theorem slSt_none (w : World) : SlSt w none [] 0 := RG.slG_none _ _ _
theorem slSt_len {w : World} {A : Option Addr} {l : List St} {c : Nat} (h : SlSt w A l c) : l.length ≤ 9223372036854775807 := RG.slG_len h

/-- A step's seven cells, wherever they lie. -/
def CellSt (w : World) (b q : Nat) (x : St) (A : Option Addr) (c : Nat) (B : Option Addr) (d : Nat) : Prop :=
  w.cell? ⟨b, q, none⟩ = some (.string x.s) ∧ w.cell? ⟨b, q + 1, none⟩ = some (.slice A x.f.length c) ∧ w.cell? ⟨b, q + 2, none⟩ = some (.int .i64 x.lo) ∧ w.cell? ⟨b, q + 3, none⟩ = some (.int .i64 x.hi) ∧
    w.cell? ⟨b, q + 4, none⟩ = some (.bool x.g) ∧ w.cell? ⟨b, q + 5, none⟩ = some (.string x.t) ∧ w.cell? ⟨b, q + 6, none⟩ = some (.slice B x.h.length d)

/-- The j-th of them. -/
theorem SlSt.at {w : World} {A : Option Addr} {l : List St} {c : Nat} (h : SlSt w A l c) (j : Nat) (hj : j < l.length) :
    ∃ b q A1 c1 B1 d1, (∀ W n k, j < n → (Instr.indexAt 23 (.slice A n k) (.int .i64 (j : Int))).run Tryz.prog W = .ok (.pointer (some ⟨b, q, none⟩)) W) ∧
      (∀ W, Below w.heap.size w W → CellSt W b q (l.getD j t0) A1 c1 B1 d1 ∧ SlO W A1 (l.getD j t0).f c1 ∧ SlO W B1 (l.getD j t0).h d1) ∧ FineSt (l.getD j t0) := by
  have hd : l[j]? = some (l.getD j t0) := by rw [List.getD_eq_getElem?_getD, List.getElem?_eq_getElem hj]; rfl
  obtain ⟨b, o, cs, rfl, hW⟩ := RG.SlG.at h (by decide) j _ hd
  obtain ⟨⟨A1, c1, B1, d1, h1, h2, h3, h4, _⟩, hc⟩ := hW w (Below.refl _ _)
  refine ⟨b, o + j * 7, A1, c1, B1, d1, fun W n k hn => tySt.index W b o n k j hn, fun W hb => ?_, h4⟩
  have hcell := fun i u (hu : cs[i]? = some u) => by
    have h5 := hc i u hu
    have h6 := hb.cell (p := ⟨b, o + j * KSt.size + i, none⟩) (World.block_lt_of_cell? w _ h5)
    rw [← h6] at h5
    exact h5
  rw [h1] at hcell
  exact ⟨⟨hcell 0 _ rfl, hcell 1 _ rfl, hcell 2 _ rfl, hcell 3 _ rfl, hcell 4 _ rfl, hcell 5 _ rfl, hcell 6 _ rfl⟩, h2.kept hb, h3.kept hb⟩

/-- A query's numbers are ints. -/
def FineQ (q : Q) : Prop := (-9223372036854775808 ≤ q.w ∧ q.w ≤ 9223372036854775807) ∧ (-9223372036854775808 ≤ q.a ∧ q.a ≤ 9223372036854775807) ∧ (-9223372036854775808 ≤ q.i ∧ q.i ≤ 9223372036854775807) ∧ -9223372036854775808 ≤ q.f ∧ q.f ≤ 9223372036854775807

/-- A query, as a value of the program. -/
def agQ (q : Q) (A : Option Addr) (c : Nat) : Value := .agg #[.slice A q.p.length c, .int .i64 q.w, .int .i64 q.a, .int .i64 q.i, .int .i64 q.f]
/-- Its cells in a block of its own. -/
def encQ (q : Q) (A : Option Addr) (c : Nat) : List Value := [.slice A q.p.length c, .int .i64 q.w, .int .i64 q.a, .int .i64 q.i, .int .i64 q.f]
def BxQ (w : World) (b : Nat) (q : Q) (A : Option Addr) (c : Nat) : Prop := RG.BxN w b (encQ q A c)
theorem bxQ_new (w : World) (q : Q) (A : Option Addr) (c : Nat) : BxQ (w.alloc (.cells #[.slice A q.p.length c, .int .i64 q.w, .int .i64 q.a, .int .i64 q.i, .int .i64 q.f] 25)) w.heap.size q A c := RG.bxN_new w 25 (encQ q A c)
theorem BxQ.kept {w w' : World} {b : Nat} {q : Q} {A : Option Addr} {c : Nat} (h : BxQ w b q A c) (hb : Below w.heap.size w w') : BxQ w' b q A c := RG.BxN.kept h hb
theorem BxQ.cells {w : World} {b : Nat} {q : Q} {A : Option Addr} {c : Nat} (h : BxQ w b q A c) : w.cell? ⟨b, 0, none⟩ = some (.slice A q.p.length c) ∧ w.cell? ⟨b, 1, none⟩ = some (.int .i64 q.w) ∧ w.cell? ⟨b, 2, none⟩ = some (.int .i64 q.a) ∧ w.cell? ⟨b, 3, none⟩ = some (.int .i64 q.i) ∧ w.cell? ⟨b, 4, none⟩ = some (.int .i64 q.f) :=
  ⟨(h 0 _ rfl).1, (h 1 _ rfl).1, (h 2 _ rfl).1, (h 3 _ rfl).1, (h 4 _ rfl).1⟩

/-- A block of a step's cells. -/
def BxSt (w : World) (b : Nat) (x : St) (A : Option Addr) (c : Nat) (B : Option Addr) (d : Nat) : Prop := RG.BxN w b (encSt x A c B d)
theorem bxSt_new (w : World) (x : St) (A : Option Addr) (c : Nat) (B : Option Addr) (d : Nat) : BxSt (w.alloc (.cells #[.string x.s, .slice A x.f.length c, .int .i64 x.lo, .int .i64 x.hi, .bool x.g, .string x.t, .slice B x.h.length d] 47)) w.heap.size x A c B d := RG.bxN_new w 47 (encSt x A c B d)
theorem BxSt.kept {w w' : World} {b : Nat} {x : St} {A : Option Addr} {c : Nat} {B : Option Addr} {d : Nat} (h : BxSt w b x A c B d) (hb : Below w.heap.size w w') : BxSt w' b x A c B d := RG.BxN.kept h hb
theorem BxSt.cells {w : World} {b : Nat} {x : St} {A : Option Addr} {c : Nat} {B : Option Addr} {d : Nat} (h : BxSt w b x A c B d) : CellSt w b 0 x A c B d :=
  ⟨(h 0 _ rfl).1, (h 1 _ rfl).1, (h 2 _ rfl).1, (h 3 _ rfl).1, (h 4 _ rfl).1, (h 5 _ rfl).1, (h 6 _ rfl).1⟩
end Go.Proofs.YtbmdkibmfkmjoaaGreat.Qy

namespace Go.Proofs.YtbmdkibmfkmjoaaGreat.Ex
open Go.RowKit Go.Proofs.YtbmdkibmfkmjoaaGreat.BM Go.Proofs.YtbmdkibmfkmjoaaGreat.VaM Go.Proofs.YtbmdkibmfkmjoaaGreat.Va Go.Proofs.YtbmdkibmfkmjoaaGreat.ExM Go.Proofs.YtbmdkibmfkmjoaaGreat.EvM

/-- Parts that the program lays down in a block of their own. -/
theorem slO_new (w : World) (l : List O) (hf : ∀ x ∈ l, Fin x) (hl : l.length ≤ maxLen) : SlO (w.alloc (.cells (l.flatMap encO).toArray 80)) (some ⟨w.heap.size, 0, none⟩) l l.length := by
  refine ⟨⟨⟨l.flatMap encO, fun _ => ⟨w.heap.size, 0, rfl, fun j u hj => ?_⟩, elems_o _ _ _⟩, Nat.le_refl _, (fun h => by cases h), hl⟩, hf⟩
  rw [World.cell?_alloc_at (hn := rfl), Nat.zero_add]
  simpa using hj



theorem slO_1 (w : World) (x : O) (hx : Fin x) : SlO (w.alloc (.cells #[.int .i64 x.c, .int .i64 x.a, .int .i64 x.v.k, .int .i64 x.v.n, .string x.v.s] 80)) (some ⟨w.heap.size, 0, none⟩) [x] 1 :=
  slO_new w [x] (fun y hy => by rw [List.mem_singleton.1 hy]; exact hx) (show 1 ≤ maxLen from by unfold maxLen; decide)
end Go.Proofs.YtbmdkibmfkmjoaaGreat.Ex

namespace Go.Proofs.YtbmdkibmfkmjoaaGreat.Ex
open Go.RowKit Go.Proofs.YtbmdkibmfkmjoaaGreat.BM Go.Proofs.YtbmdkibmfkmjoaaGreat.LM

theorem tyB : RG.Ty 26 5 1 1 (.int .u8 0) := ⟨by kernel_rfl, by kernel_rfl, by kernel_rfl, fun _ => by kernel_rfl, rfl, by decide, by decide⟩

theorem byte_at {w : World} {A : Option Addr} {xs : List Int} {c : Nat} (h : SlB w A xs c) (p : Nat) (hp : p < xs.length) :
    ∃ b q, (∀ W, (Instr.indexAt 26 (.slice A xs.length c) (.int .i64 (p : Int))).run Tryz.prog W = .ok (.pointer (some ⟨b, q, none⟩)) W) ∧ (∀ W, Below w.heap.size w W → W.cell? ⟨b, q, none⟩ = some (.int .u8 (xs.getD p 0))) ∧ 0 ≤ xs.getD p 0 ∧ xs.getD p 0 < 256 := by
  have hb := h.1.1 (xs.getD p 0) (by rw [List.getD_eq_getElem?_getD, List.getElem?_eq_getElem hp]; exact List.getElem_mem hp)
  obtain ⟨b, o, hA, hc⟩ := h.1.2 (by omega)
  refine ⟨b, o + p * 1, fun W => by rw [hA]; exact tyB.index W b o _ c p hp, fun W hW => ?_, hb.1, hb.2⟩
  obtain ⟨b', o', hA', hc'⟩ := (h.kept hW).1.2 (by omega)
  rw [hA] at hA'
  injection hA' with e
  injection e with e1 e2
  subst e1 e2
  rw [Nat.mul_one]
  exact hc' p hp

theorem drop_at {xs : List Int} {p : Nat} (hp : p < xs.length) : xs.drop p = xs.getD p 0 :: xs.drop (p + 1) := by
  rw [List.drop_eq_getElem_cons hp, List.getD_eq_getElem?_getD, List.getElem?_eq_getElem hp]
  rfl
end Go.Proofs.YtbmdkibmfkmjoaaGreat.Ex

namespace Go.Proofs.YtbmdkibmfkmjoaaGreat.Ex
open Go.RowKit Go.Proofs.YtbmdkibmfkmjoaaGreat.BM Go.Proofs.YtbmdkibmfkmjoaaGreat.ExM

/-- What Get answers. -/
def Gots (xs : List Int) (w : World) : Ending → World → Prop := fun e w' =>
  ∃ A c, e = .returned (.tuple #[.slice A (gotL (gL xs)).1.length c, .int .i64 ((gotL (gL xs)).2.1 : Nat), .bool (gotL (gL xs)).2.2]) ∧ SlO w' A (gotL (gL xs)).1 c ∧ Below w.heap.size w w'

/-- The same, and where the operations lie. -/
def GotsF (xs : List Int) (w : World) : Ending → World → Prop := fun e w' =>
  ∃ A c, e = .returned (.tuple #[.slice A (gotL (gL xs)).1.length c, .int .i64 ((gotL (gL xs)).2.1 : Nat), .bool (gotL (gL xs)).2.2]) ∧ SlO w' A (gotL (gL xs)).1 c ∧ Below w.heap.size w w' ∧ ∀ a, A = some a → w.heap.size ≤ a.block
theorem gots_of {xs : List Int} {w : World} {e : Ending} {w' : World} (h : GotsF xs w e w') : Gots xs w e w' := by
  obtain ⟨A, c, h1, h2, h3, _⟩ := h
  exact ⟨A, c, h1, h2, h3⟩
end Go.Proofs.YtbmdkibmfkmjoaaGreat.Ex

namespace Go.Proofs.YtbmdkibmfkmjoaaGreat.Ex
open Go.RowKit Go.Proofs.YtbmdkibmfkmjoaaGreat.BM Go.Proofs.YtbmdkibmfkmjoaaGreat.VaM Go.Proofs.YtbmdkibmfkmjoaaGreat.Va Go.Proofs.YtbmdkibmfkmjoaaGreat.ExM Go.Proofs.YtbmdkibmfkmjoaaGreat.EvM

/-- Whether a part may be, by its questions one by one. -/
theorem ok_iff {x : O} {b1 b2 b3 b4 b5 b6 b7 b8 b9 : Bool} (g1 : decide (x.c < 0) = b1) (g2 : decide (10 ≤ x.c) = b2) (g3 : decide (x.a < 0) = b3) (g4 : decide (6 ≤ x.a) = b4) (g5 : (x.c != 1) = b5) (g6 : (x.a != 0) = b6) (g7 : decide (VaM.May x.v) = b7) (g8 : (x.c != 0) = b8) (g9 : (!same x.v v0) = b9) :
    Ok x ↔ b1 = false ∧ b2 = false ∧ b3 = false ∧ b4 = false ∧ (b5 = false ∨ b6 = false) ∧ b7 = true ∧ (b8 = false ∨ b9 = false) := by
  subst g1 g2 g3 g4 g5 g6 g7 g8 g9
  have h9 : (!same x.v v0) = false ↔ x.v = v0 := by rw [Bool.not_eq_false', same_iff]
  unfold Ok
  rw [h9]
  simp only [decide_eq_false_iff_not, decide_eq_true_iff, bne_eq_false_iff_eq]
  constructor
  · rintro ⟨h1, h2, h3, h4, h5, h6, h7⟩
    exact ⟨by omega, by omega, by omega, by omega, h5, h6, h7⟩
  · rintro ⟨h1, h2, h3, h4, h5, h6, h7⟩
    exact ⟨by omega, by omega, by omega, by omega, h5, h6, h7⟩

theorem okWays (b1 b2 b3 b4 b5 b6 b7 b8 b9 : Bool) :
    (b1 = true ∨ (b1 = false ∧ b2 = true) ∨ (b1 = false ∧ b2 = false ∧ b3 = true) ∨ (b1 = false ∧ b2 = false ∧ b3 = false ∧ b4 = true) ∨
      (b1 = false ∧ b2 = false ∧ b3 = false ∧ b4 = false ∧ b5 = true ∧ b6 = true) ∨
      (b1 = false ∧ b2 = false ∧ b3 = false ∧ b4 = false ∧ b5 = false ∧ b7 = false) ∨
      (b1 = false ∧ b2 = false ∧ b3 = false ∧ b4 = false ∧ b5 = true ∧ b6 = false ∧ b7 = false) ∨
      (b1 = false ∧ b2 = false ∧ b3 = false ∧ b4 = false ∧ b5 = false ∧ b7 = true ∧ b8 = true ∧ b9 = true) ∨
      (b1 = false ∧ b2 = false ∧ b3 = false ∧ b4 = false ∧ b5 = true ∧ b6 = false ∧ b7 = true ∧ b8 = true ∧ b9 = true)) ∨
    ((b1 = false ∧ b2 = false ∧ b3 = false ∧ b4 = false ∧ b5 = false ∧ b7 = true ∧ b8 = false) ∨
      (b1 = false ∧ b2 = false ∧ b3 = false ∧ b4 = false ∧ b5 = false ∧ b7 = true ∧ b8 = true ∧ b9 = false) ∨
      (b1 = false ∧ b2 = false ∧ b3 = false ∧ b4 = false ∧ b5 = true ∧ b6 = false ∧ b7 = true ∧ b8 = false) ∨
      (b1 = false ∧ b2 = false ∧ b3 = false ∧ b4 = false ∧ b5 = true ∧ b6 = false ∧ b7 = true ∧ b8 = true ∧ b9 = false)) := by
  cases b1 <;> cases b2 <;> cases b3 <;> cases b4 <;> cases b5 <;> cases b6 <;> cases b7 <;> cases b8 <;> cases b9 <;> simp

set_option maxRecDepth 100000 in
set_option maxHeartbeats 8000000 in
theorem refMay_any (l : List O) (A : Option Addr) (c : Nat) (w : World) (hS : SlO w A l c) :
    Calls Tryz.prog 52 #[.slice A l.length c] w fun e w' => e = .returned (.bool (decide (May l))) ∧ Below w.heap.size w w' := by
  have hl := slO_len hS
  have hmay : May l ↔ (∀ i, i < l.length → Ok (l.getD i o0)) ∧ l.length ≤ 12 := Iff.rfl
  obtain ⟨n, hn⟩ : ∃ n, n = l.length := ⟨_, rfl⟩
  rw [← hn] at hl hmay ⊢
  have HLen := Lib.hid hn
  have HS := Lib.hid hS
  have HMay := Lib.hid hmay
  clear hn hS hmay
  go_enter Tryz.func52, Tryz.ntmps52
  go_wp2_with fail
  go_loopw [3] (fun i wr => ∃ j : Nat, i = .int .i64 j ∧ j ≤ n ∧ (∀ r, r < j → Ok (l.getD r o0)) ∧ Below w.heap.size w wr) (fun i _ => n - (intOf i).toNat)
  case atStart => exact ⟨0, rfl, Nat.zero_le _, fun r hr => absurd hr (Nat.not_lt_zero r), Below.refl _ _⟩
  case round =>
    obtain ⟨j, rfl, hj, hall, hbel⟩ := hrel
    have HAl := Lib.hid hall
    have HBl := Lib.hid hbel
    clear hall hbel
    by_cases hjn : j < n
    · obtain ⟨b, q, hix, hc, _⟩ := HS.out.at j (by rw [← HLen.out]; exact hjn)
      obtain ⟨f, hf⟩ : ∃ f, f = l.getD j o0 := ⟨_, rfl⟩
      rw [← hf] at hc
      obtain ⟨x0, x1, x2, x3, x4⟩ := hc wr HBl.out
      have hi := fun W => hix W n c hjn
      have HF := Lib.hid hf
      clear hc hix hf
      have ha := (Below.refl wr.heap.size wr).alloc (Nat.le_refl _) (.cells #[.int .i64 f.c, .int .i64 f.a, .int .i64 f.v.k, .int .i64 f.v.n, .string f.v.s] 80)
      have hx2 := bxO_new wr f
      have hneq := fun W => neq_v f.v.k f.v.n 0 0 f.v.s ⟨#[]⟩ W
      obtain ⟨b1, g1⟩ : ∃ b, decide (f.c < 0) = b := ⟨_, rfl⟩
      obtain ⟨b2, g2⟩ : ∃ b, decide (10 ≤ f.c) = b := ⟨_, rfl⟩
      obtain ⟨b3, g3⟩ : ∃ b, decide (f.a < 0) = b := ⟨_, rfl⟩
      obtain ⟨b4, g4⟩ : ∃ b, decide (6 ≤ f.a) = b := ⟨_, rfl⟩
      obtain ⟨b5, g5⟩ : ∃ b, (f.c != 1) = b := ⟨_, rfl⟩
      obtain ⟨b6, g6⟩ : ∃ b, (f.a != 0) = b := ⟨_, rfl⟩
      obtain ⟨b7, g7⟩ : ∃ b, decide (VaM.May f.v) = b := ⟨_, rfl⟩
      obtain ⟨b8, g8⟩ : ∃ b, (f.c != 0) = b := ⟨_, rfl⟩
      obtain ⟨b9, g9⟩ : ∃ b, (!same f.v v0) = b := ⟨_, rfl⟩
      have HOk := Lib.hid (ok_iff g1 g2 g3 g4 g5 g6 g7 g8 g9)
      have hm := fun W => Va.refMay_any f.v.k f.v.n f.v.s W
      obtain ⟨fc, fa, fk, fn, fs⟩ := f
      simp only at x0 x1 x2 x3 x4 hneq g1 g2 g3 g4 g5 g6 g7 g8 g9 hm
      simp only [g7] at hm
      have h9 : (!same (⟨fk, fn, fs⟩ : V) ⟨0, 0, ⟨#[]⟩⟩) = b9 := g9
      simp only [h9] at hneq
      have HX2 := Lib.hid hx2
      have HB2 := Lib.hid (bt HBl.out ha)
      have HM := Lib.hid hm
      have G1 := Lib.hid g1
      have G2 := Lib.hid g2
      have G3 := Lib.hid g3
      have G4 := Lib.hid g4
      have G5 := Lib.hid g5
      have G6 := Lib.hid g6
      have G8 := Lib.hid g8
      have HNq := Lib.hid hneq
      clear ha hm hx2 g1 g2 g3 g4 g5 g6 g7 g8 g9 h9 hneq
      obtain ⟨p0, p1, p2, p3, p4⟩ := HX2.out.cells
      simp only at p0 p1 p2 p3 p4
      go_wp2_with fail
      obtain ⟨w2, hw2⟩ : ∃ w2, w2 = wr.alloc (.cells #[.int .i64 fc, .int .i64 fa, .int .i64 fk, .int .i64 fn, .string fs] 80) := ⟨_, rfl⟩
      obtain ⟨g, hg⟩ : ∃ g, g = wr.heap.size := ⟨_, rfl⟩
      rw [← hw2] at HX2 HB2 ⊢
      rw [← hg] at HX2 ⊢
      clear hw2 hg x0 x1 x2 x3 x4 p0 p1 p2 p3 p4
      refine (HM.out w2).mono ?_
      rintro e w3 ⟨rfl, hb3⟩
      have HB3 := Lib.hid (bt HB2.out hb3)
      have HX3 := Lib.hid (HX2.out.kept hb3)
      clear hb3 HB2 HX2 HM
      obtain ⟨p0, p1, p2, p3, p4⟩ := HX3.out.cells
      simp only at p0 p1 p2 p3 p4
      have g1 := G1.out
      have g2 := G2.out
      have g3 := G3.out
      have g4 := G4.out
      have g5 := G5.out
      have g6 := G6.out
      have g8 := G8.out
      have hneq := HNq.out
      clear G1 G2 G3 G4 G5 G6 G8 HNq
      rcases okWays b1 b2 b3 b4 b5 b6 b7 b8 b9 with h | h
      · have HNo := Lib.hid (show ¬ May l from fun k => by
          have h1 := (HMay.out.1 k).1 j hjn
          rw [← HF.out] at h1
          obtain ⟨k1, k2, k3, k4, k5, k6, k7⟩ := HOk.out.1 h1
          revert h
          subst k1 k2 k3 k4 k6
          rcases k5 with rfl | rfl <;> rcases k7 with rfl | rfl <;> simp)
        clear HOk
        rcases h with rfl | ⟨rfl, rfl⟩ | ⟨rfl, rfl, rfl⟩ | ⟨rfl, rfl, rfl, rfl⟩ | ⟨rfl, rfl, rfl, rfl, rfl, rfl⟩ | ⟨rfl, rfl, rfl, rfl, rfl, rfl⟩ | ⟨rfl, rfl, rfl, rfl, rfl, rfl, rfl⟩ | ⟨rfl, rfl, rfl, rfl, rfl, rfl, rfl, rfl⟩ | ⟨rfl, rfl, rfl, rfl, rfl, rfl, rfl, rfl, rfl⟩
        all_goals
          go_wp2_with fail
          go_ret
          exact ⟨ret_v (x := .bool false) (by rw [decide_eq_false HNo.out]), HB3.out⟩
      · have HY := Lib.hid (show Ok ⟨fc, fa, fk, fn, fs⟩ from HOk.out.2 (by rcases h with ⟨rfl, rfl, rfl, rfl, rfl, rfl, rfl⟩ | ⟨rfl, rfl, rfl, rfl, rfl, rfl, rfl, rfl⟩ | ⟨rfl, rfl, rfl, rfl, rfl, rfl, rfl, rfl⟩ | ⟨rfl, rfl, rfl, rfl, rfl, rfl, rfl, rfl, rfl⟩ <;> simp))
        have HGo := Lib.hid (show ∀ r, r < j + 1 → Ok (l.getD r o0) from fun r hr => by
          by_cases e : r = j
          · rw [e, ← HF.out]
            exact HY.out
          · exact HAl.out r (by omega))
        clear HOk HY
        rcases h with ⟨rfl, rfl, rfl, rfl, rfl, rfl, rfl⟩ | ⟨rfl, rfl, rfl, rfl, rfl, rfl, rfl, rfl⟩ | ⟨rfl, rfl, rfl, rfl, rfl, rfl, rfl, rfl⟩ | ⟨rfl, rfl, rfl, rfl, rfl, rfl, rfl, rfl, rfl⟩
        all_goals
          go_wp2_with fail
          go_roundw
          case rel => exact ⟨j + 1, by go_num, by omega, HGo.out, HB3.out⟩
          case measure => simp [intOf]; omega
    · obtain rfl : j = n := by omega
      by_cases h12 : j ≤ 12
      · have hd : decide ((j : Int) ≤ 12) = true := by rw [decide_eq_true_iff]; omega
        have HY := Lib.hid (HMay.out.2 ⟨HAl.out, h12⟩)
        clear h12
        go_wp2_with fail
        go_ret
        exact ⟨ret_v (x := .bool true) (by rw [decide_eq_true HY.out]), HBl.out⟩
      · have hd : decide ((j : Int) ≤ 12) = false := by rw [decide_eq_false_iff_not]; omega
        have HNo := Lib.hid (show ¬ May l from fun h => h12 (HMay.out.1 h).2)
        clear h12
        go_wp2_with fail
        go_ret
        exact ⟨ret_v (x := .bool false) (by rw [decide_eq_false HNo.out]), HBl.out⟩
end Go.Proofs.YtbmdkibmfkmjoaaGreat.Ex

namespace Go.Proofs.YtbmdkibmfkmjoaaGreat.Ex
open Go.RowKit Go.Proofs.YtbmdkibmfkmjoaaGreat.BM Go.Proofs.YtbmdkibmfkmjoaaGreat.LM Go.Proofs.YtbmdkibmfkmjoaaGreat.VaM Go.Proofs.YtbmdkibmfkmjoaaGreat.Va Go.Proofs.YtbmdkibmfkmjoaaGreat.ExM

theorem op_append_o {w : World} {o : Oper} {a : Act} {K' : Act → World → Prop} {Q : Exit → Act → World → Prop} (s x : Operand)
    (ho : o.op = .call { callee := .builtin .append, args := #[s, x], argTypes := #[45, 45] })
    (base : Nat) (v : Value) (n : Nat) (l : List O) (hs : a.eval s = v) (hown : w.ownsRow base 80 5 v n (l.flatMap encO))
    (A : Option Addr) (m c : Nat) (r : List O) (hx : a.eval x = .slice A m c) (hm : r.length = m) (hB : SlO w A r c)
    (hsz : n + m ≤ 1000000000) (hbase : base ≤ w.heap.size)
    (hk : ∀ v' w', w'.ownsRow base 80 5 v' (n + m) ((l ++ r).flatMap encO) → w.grownBy w' v.ownBlock → K' (a.put o.dst v') w') : o.wp Tryz.prog a w K' Q := by
  obtain ⟨⟨⟨us, h1, h2⟩, _, h3, _⟩, _⟩ := hB
  obtain rfl := elems_is h2
  exact tyO.op_append (K := KO) (fun _ => True) s x ho base v n (l.flatMap encO) l hs hown (elems_o _ _ _) A m c (r.flatMap encO) r hx hm h1 (elems_o _ _ _) h3 hsz hbase fun v' w' g1 _ g3 => hk v' w' (by rw [List.flatMap_append]; exact g1) g3

theorem wp_append_o {w : World} {ops : Array Oper} {rest : List Oper} {o : Oper} {a : Act} {Q : Exit → Act → World → Prop} (hgd : o.guard = none) (s x : Operand)
    (ho : o.op = .call { callee := .builtin .append, args := #[s, x], argTypes := #[45, 45] })
    (base : Nat) (v : Value) (n : Nat) (l : List O) (hs : a.eval s = v) (hown : w.ownsRow base 80 5 v n (l.flatMap encO))
    (A : Option Addr) (m c : Nat) (r : List O) (hx : a.eval x = .slice A m c) (hm : r.length = m) (hB : SlO w A r c)
    (hsz : n + m ≤ 1000000000) (hbase : base ≤ w.heap.size)
    (hk : ∀ v' w', w'.ownsRow base 80 5 v' (n + m) ((l ++ r).flatMap encO) → w.grownBy w' v.ownBlock → wpList Tryz.prog ops Q rest (a.put o.dst v') w') : wpList Tryz.prog ops Q (o :: rest) a w :=
  wpList_plain hgd fun _ hK2 => op_append_o s x ho base v n l hs hown A m c r hx hm hB hsz hbase fun v' w' g1 g2 => hK2 _ _ (hk v' w' g1 g2)
end Go.Proofs.YtbmdkibmfkmjoaaGreat.Ex

namespace Go.Proofs.YtbmdkibmfkmjoaaGreat.LeZ
open Go.RowKit Go.Proofs.YtbmdkibmfkmjoaaGreat.BM

theorem refZig_any (n : Int) (w : World) (h0 : -9223372036854775808 ≤ n) (h1 : n ≤ 9223372036854775807) :
    Calls Tryz.prog 83 #[.int .i64 n] w fun e w' => e = .returned (.int .u64 (zig n)) ∧ w = w' := by
  by_cases h : n < 0
  · go_enter Tryz.func83, Tryz.ntmps83
    go_wp2
    go_ret
    refine ⟨ret_int ?_, rfl⟩
    simp only [zig]
    rw [if_pos (by omega)]
    omega
  · go_enter Tryz.func83, Tryz.ntmps83
    go_wp2
    go_ret
    refine ⟨ret_int ?_, rfl⟩
    simp only [zig]
    rw [if_neg (by omega)]

theorem refZag_any (n : Int) (w : World) (h0 : 0 ≤ n) (h1 : n ≤ 18446744073709551615) :
    Calls Tryz.prog 104 #[.int .u64 n] w fun e w' => e = .returned (.int .i64 (zag n)) ∧ w = w' := by
  by_cases h : n % 2 = 1
  · have h2 : ¬ n % 2 = 0 := by omega
    go_enter Tryz.func104, Tryz.ntmps104
    go_wp2
    go_ret
    refine ⟨ret_int ?_, rfl⟩
    simp only [zag]
    rw [if_pos h]
  · have h2 : n % 2 = 0 := by omega
    go_enter Tryz.func104, Tryz.ntmps104
    go_wp2
    go_ret
    refine ⟨ret_int ?_, rfl⟩
    simp only [zag]
    rw [if_neg (by omega)]
end Go.Proofs.YtbmdkibmfkmjoaaGreat.LeZ

namespace Go.Proofs.YtbmdkibmfkmjoaaGreat.Va
open Go.RowKit Go.Proofs.YtbmdkibmfkmjoaaGreat.BM Go.Proofs.YtbmdkibmfkmjoaaGreat.LM Go.Proofs.YtbmdkibmfkmjoaaGreat.LeM Go.Proofs.YtbmdkibmfkmjoaaGreat.LeZ Go.Proofs.YtbmdkibmfkmjoaaGreat.VaM

def rdV (k : Int) (n : Nat) (ys : List Int) : V × Nat × Bool :=
  if k = 0 then (⟨0, zag n, e0⟩, 0, true) else if k = 2 then (if n ≤ 40 ∧ n ≤ ys.length then (⟨2, 0, strOfNums (ys.take n)⟩, n, true) else (⟨0, 0, e0⟩, 0, false)) else (⟨k, wrap64 n, e0⟩, 0, true)

/-- A value, how many bytes, and whether. -/
def got3 (r : V × Nat × Bool) : Value := .tuple #[.agg #[.int .i64 r.1.k, .int .i64 r.1.n, .string r.1.s], .int .i64 (r.2.1 : Int), .bool r.2.2]

set_option maxRecDepth 100000 in
theorem read_any (k : Int) (n : Nat) (A : Option Addr) (ys : List Int) (c : Nat) (w : World) (hn : n < 18446744073709551616) (hy : SlB w A ys c) (h64 : ys.length ≤ 9223372036854775807) :
    Calls Tryz.prog 136 #[.int .i64 k, .int .u64 n, .slice A ys.length c] w fun e w' => e = .returned (got3 (rdV k n ys)) ∧ Below w.heap.size w w' := by
  have HB := Lib.hid (fun C => (Below.refl w.heap.size w).alloc (Nat.le_refl _) (.cells C 78))
  by_cases k0 : k = 0
  · subst k0
    have HZ := Lib.hid (fun W => Zag_any (n : Int) W (by omega) (by omega))
    have HR := Lib.hid (show got3 (rdV 0 n ys) = .tuple #[.agg #[.int .i64 0, .int .i64 (zag n), .string ⟨#[]⟩], .int .i64 0, .bool true] from by rw [rdV, if_pos rfl]; rfl)
    clear hy
    go_enter Tryz.func136, Tryz.ntmps136
    go_wp2_with fail
    refine (HZ.out _).mono ?_
    rintro e w1 ⟨rfl, rfl⟩
    go_wp2_with fail
    obtain ⟨⟨r0, r1, r2⟩, _⟩ := bx_new w (.int .i64 0) (.int .i64 (zag n)) (.string ⟨#[]⟩)
    exact bodyPost_ret (v := .tuple #[.agg #[.int .i64 0, .int .i64 (zag n), .string ⟨#[]⟩], .int .i64 0, .bool true]) (by simp [results, Tryz.results136, go_sem]) rfl ⟨ret_v HR.out, HB.out _⟩
  · by_cases k2 : k = 2
    · subst k2
      by_cases hc : n ≤ 40 ∧ n ≤ ys.length
      · have HR := Lib.hid (show got3 (rdV 2 n ys) = .tuple #[.agg #[.int .i64 2, .int .i64 0, .string (strOfNums (ys.take n))], .int .i64 n, .bool true] from by rw [rdV, if_neg k0, if_pos rfl, if_pos hc]; rfl)
        have hcap := hy.2.1
        have hlt : (ys.take n).length = n := by rw [List.length_take]; omega
        have sl := fun W => Cut.slice_hi_k .u64 W A ys.length c n (by omega)
        have cv := fun W (hW : Below w.heap.size w W) => conv_any (isB_take (isB_kept hy.1 hW) n) c 9 Tryz.underlying9
        obtain ⟨L, hL⟩ : ∃ L, L = ys.length := ⟨_, rfl⟩
        obtain ⟨S, hS⟩ : ∃ S, S = strOfNums (ys.take n) := ⟨_, rfl⟩
        rw [← hS] at HR
        simp only [hlt, ← hS] at cv
        rw [← hL] at sl hc h64 ⊢
        have hcv := cv _ (HB.out #[.int .i64 0, .int .i64 0, .string ⟨#[]⟩])
        obtain ⟨hc1, hc2⟩ := hc
        clear hy hL hS hlt hcap cv
        go_enter Tryz.func136, Tryz.ntmps136
        go_wp2_with fail
        obtain ⟨⟨r0, r1, r2⟩, _⟩ := bx_new w (.int .i64 2) (.int .i64 0) (.string S)
        exact bodyPost_ret (v := .tuple #[.agg #[.int .i64 2, .int .i64 0, .string S], .int .i64 n, .bool true]) (by simp [results, Tryz.results136, go_sem]) rfl ⟨ret_v HR.out, HB.out _⟩
      · have HR := Lib.hid (show got3 (rdV 2 n ys) = .tuple #[.agg #[.int .i64 0, .int .i64 0, .string ⟨#[]⟩], .int .i64 0, .bool false] from by rw [rdV, if_neg k0, if_pos rfl, if_neg hc]; rfl)
        obtain ⟨L, hL⟩ : ∃ L, L = ys.length := ⟨_, rfl⟩
        rw [← hL] at hc h64 ⊢
        clear hy hL
        go_enter Tryz.func136, Tryz.ntmps136
        go_wp2_with fail
        obtain ⟨⟨r0, r1, r2⟩, _⟩ := bx_new w (.int .i64 0) (.int .i64 0) (.string ⟨#[]⟩)
        exact bodyPost_ret (v := .tuple #[.agg #[.int .i64 0, .int .i64 0, .string ⟨#[]⟩], .int .i64 0, .bool false]) (by simp [results, Tryz.results136, go_sem]) rfl ⟨ret_v HR.out, HB.out _⟩
    · have HR := Lib.hid (show got3 (rdV k n ys) = .tuple #[.agg #[.int .i64 k, .int .i64 (wrap64 n), .string ⟨#[]⟩], .int .i64 0, .bool true] from by rw [rdV, if_neg k0, if_neg k2]; rfl)
      have b0 : (k == 0) = false := by simpa using k0
      have b2 : (k == 2) = false := by simpa using k2
      clear hy
      go_enter Tryz.func136, Tryz.ntmps136
      go_wp2_with fail
      obtain ⟨⟨r0, r1, r2⟩, _⟩ := bx_new w (.int .i64 k) (.int .i64 (wrap64 n)) (.string ⟨#[]⟩)
      exact bodyPost_ret (v := .tuple #[.agg #[.int .i64 k, .int .i64 (wrap64 n), .string ⟨#[]⟩], .int .i64 0, .bool true]) (by simp [results, Tryz.results136, go_sem]) rfl ⟨ret_v HR.out, HB.out _⟩
end Go.Proofs.YtbmdkibmfkmjoaaGreat.Va

namespace Go.Proofs.YtbmdkibmfkmjoaaGreat.Va
open Go.RowKit Go.Proofs.YtbmdkibmfkmjoaaGreat.BM Go.Proofs.YtbmdkibmfkmjoaaGreat.LM Go.Proofs.YtbmdkibmfkmjoaaGreat.LeM Go.Proofs.YtbmdkibmfkmjoaaGreat.LeZ Go.Proofs.YtbmdkibmfkmjoaaGreat.VaM

/-- Get by read: behind the kind and the number. -/
theorem getP_read {k : Int} {t : List Int} {n u : Nat} (hg : getS t = some (n, u)) (hn : n < 18446744073709551616) :
    getP (k :: t) = if (rdV k n (t.drop u)).2.2 = true ∧ May (rdV k n (t.drop u)).1 then some ((rdV k n (t.drop u)).1, 1 + u + (rdV k n (t.drop u)).2.1) else none := by
  show getB k t (getS t) = _
  rw [hg]
  simp only [getB]
  unfold rdV
  by_cases k0 : k = 0
  · rw [if_pos k0, if_pos k0, if_pos ⟨rfl, Or.inr ⟨rfl, Or.inl rfl⟩⟩]
    rfl
  · rw [if_neg k0, if_neg k0]
    by_cases k2 : k = 2
    · rw [if_pos k2, if_pos k2, List.length_drop]
      by_cases hc : n ≤ 40 ∧ n ≤ t.length - u
      · rw [if_pos hc, if_pos hc, if_pos ⟨rfl, Or.inl ⟨rfl, rfl, by simp only; rw [size_str, List.length_take]; omega⟩⟩]
      · rw [if_neg hc, if_neg hc, if_neg (by simp)]
    · rw [if_neg k2, if_neg k2]
      simp only [true_and, Nat.add_zero]
      by_cases hc : (k = 1 ∧ n ≤ 1) ∨ (k = 3 ∧ n ≤ 1125899906842624)
      · have hw : wrap64 (n : Int) = n := IntWalk.wrap64_in _ (by omega)
        rw [if_pos hc, hw, if_pos]
        refine Or.inr ⟨rfl, Or.inr ?_⟩
        rcases hc with ⟨c1, c2⟩ | ⟨c1, c2⟩
        · exact Or.inl ⟨c1, by simp only; omega⟩
        · exact Or.inr ⟨c1, by simp only; omega, by simp only; omega⟩
      · rw [if_neg hc, if_neg]
        rintro (⟨h1, _⟩ | ⟨_, h1 | ⟨h1, h2⟩ | ⟨h1, h2, h3⟩⟩)
        · exact k2 h1
        · exact k0 h1
        · simp only at h1 h2
          unfold wrap64 at h2
          omega
        · simp only at h1 h2 h3
          unfold wrap64 at h2 h3
          omega

/-- b[0] -/
theorem index_0 (w : World) (b o len cap : Nat) (h : 0 < len) : (Instr.indexAt 26 (.slice (some ⟨b, o, none⟩) len cap) (.int .i64 0)).run Tryz.prog w = .ok (.pointer (some ⟨b, o, none⟩)) w := by
  rw [run_indexAt_slice w _ _ _ _ _ _ elem_b, if_pos (by omega), size_b]
  simp [Result.andThen, Addr.add_lit]

/-- b[1:] -/
theorem slice_1 (w : World) (A : Option Addr) (len cap : Nat) :
    (Instr.sliceAt 26 (.slice A (len + 1) cap) (some (.int .i64 1)) none none).run Tryz.prog w = .ok (.slice (dropA A 1 cap) len (cap - 1)) w := by
  have h := slice_lo w A (len + 1) cap 1 (by omega)
  rw [Nat.add_sub_cancel] at h
  exact h

/-- What Get leaves. -/
def Gots (xs : List Int) (w : World) : Ending → World → Prop := fun e w' => e = .returned (got3 (gotP (getP xs))) ∧ Below w.heap.size w w'

set_option maxRecDepth 100000 in
theorem Get_nil (A : Option Addr) (c : Nat) (w : World) : Calls Tryz.prog 131 #[.slice A 0 c] w (Gots [] w) := by
  go_enter Tryz.func131, Tryz.ntmps131
  go_wp2_with fail
  obtain ⟨⟨r0, r1, r2⟩, _⟩ := bx_new w (.int .i64 0) (.int .i64 0) (.string ⟨#[]⟩)
  exact bodyPost_ret (v := .tuple #[.agg #[.int .i64 0, .int .i64 0, .string ⟨#[]⟩], .int .i64 0, .bool false]) (by simp [results, Tryz.results131, go_sem]) rfl ⟨rfl, (Below.refl _ _).alloc (Nat.le_refl _) _⟩

set_option maxRecDepth 100000 in
theorem Get_no (A : Option Addr) (k : Int) (t : List Int) (c : Nat) (w : World) (h : SlB w A (k :: t) c) (hg : getS t = none) : Calls Tryz.prog 131 #[.slice A (k :: t).length c] w (Gots (k :: t) w) := by
  have hm := h.2.2.2
  have hc := h.2.1
  unfold maxLen at hm
  rw [List.length_cons] at hc ⊢
  have hB := (Below.refl w.heap.size w).alloc (Nat.le_refl _) (.cells #[.int .i64 0, .int .i64 0, .string ⟨#[]⟩] 78)
  have hr : gotP (getP (k :: t)) = (⟨0, 0, e0⟩, 0, false) := by
    rw [show getP (k :: t) = getB k t (getS t) from rfl, hg]
    rfl
  have hsl := fun W => slice_1 W A t.length c
  obtain ⟨D, hD⟩ : ∃ D, D = dropA A 1 c := ⟨_, rfl⟩
  have hd := (Cut.slB_drop h 1 (by simp)).kept hB
  rw [← hD] at hsl hd
  have hGet := LeG.Get_any D t (c - 1) _ (by omega) hd.1
  rw [hg] at hGet
  have HG := Lib.hid hGet
  have HR := Lib.hid hr
  obtain ⟨L, hL⟩ : ∃ L, L = t.length := ⟨_, rfl⟩
  rw [← hL] at hsl HG hc ⊢
  have HB := Lib.hid hB
  clear hB hr hD hd hGet hg hL h
  go_enter Tryz.func131, Tryz.ntmps131
  go_wp2_with fail
  refine HG.out.mono ?_
  rintro e w1 ⟨rfl, rfl⟩
  simp only [LeG.gotV]
  go_wp2_with fail
  obtain ⟨⟨r0, r1, r2⟩, _⟩ := bx_new w (.int .i64 0) (.int .i64 0) (.string ⟨#[]⟩)
  exact bodyPost_ret (v := .tuple #[.agg #[.int .i64 0, .int .i64 0, .string ⟨#[]⟩], .int .i64 0, .bool false]) (by simp [results, Tryz.results131, go_sem]) rfl ⟨ret_v (by rw [HR.out]; rfl), HB.out⟩

set_option maxRecDepth 100000 in
set_option maxHeartbeats 2000000 in
theorem Get_yes (A : Option Addr) (b o : Nat) (hA : A = some ⟨b, o, none⟩) (k : Int) (t : List Int) (c : Nat) (w : World) (h : SlB w A (k :: t) c) (n u : Nat) (hg : getS t = some (n, u)) : Calls Tryz.prog 131 #[.slice A (k :: t).length c] w (Gots (k :: t) w) := by
  have hm := h.2.2.2
  have hc := h.2.1
  unfold maxLen at hm
  rw [List.length_cons] at hc ⊢
  have htb : ∀ x ∈ t, (0 : Int) ≤ x ∧ x < 256 := fun x hx => h.1.1 x (List.mem_cons_of_mem _ hx)
  have hk := h.1.1 k (by simp)
  obtain ⟨hn, hu, hpu⟩ := (getS_iff t htb n u).1 hg
  have hu10 : u ≤ 10 := by
    have h10 := putL_len64 hn
    rw [hpu, List.length_take] at h10
    omega
  clear hpu
  have hB := (Below.refl w.heap.size w).alloc (Nat.le_refl _) (.cells #[.int .i64 0, .int .i64 0, .string ⟨#[]⟩] 78)
  have hr := getP_read (k := k) hg hn
  have hdl : (t.drop u).length = t.length - u := List.length_drop
  obtain ⟨rk, rn, rs, more, is, hrd⟩ : ∃ rk rn rs more is, rdV k n (t.drop u) = (⟨rk, rn, rs⟩, more, is) := ⟨_, _, _, _, _, rfl⟩
  have hsl := fun W => slice_1 W A t.length c
  have hsl2 := fun W => slice_lo W A (t.length + 1) c (1 + u) (by omega)
  have hd := (Cut.slB_drop h 1 (by simp)).kept hB
  have hcell : w.cell? ⟨b, o, none⟩ = some (.int .u8 k) := by
    rw [hA] at h
    have h0 := isB_cell h.1 0 (by simp)
    rw [Nat.add_zero, List.getD_cons_zero] at h0
    exact h0
  have hix : ∀ W, (Instr.indexAt 26 (.slice A (t.length + 1) c) (.int .i64 0)).run Tryz.prog W = .ok (.pointer (some ⟨b, o, none⟩)) W := fun W => by
    rw [hA]
    exact index_0 W b o _ c (by omega)
  obtain ⟨D, hD⟩ : ∃ D, D = dropA A 1 c := ⟨_, rfl⟩
  obtain ⟨E, hE⟩ : ∃ E, E = dropA A (1 + u) c := ⟨_, rfl⟩
  have hd2 := Cut.slB_drop h (1 + u) (by rw [List.length_cons]; omega)
  rw [Nat.add_comm 1 u, List.drop_succ_cons, Nat.add_comm u 1] at hd2
  rw [← hD] at hsl hd
  rw [← hE] at hsl2 hd2
  have hGet := LeG.Get_any D t (c - 1) _ (by omega) hd.1
  rw [hg] at hGet
  have HG := Lib.hid hGet
  have hrd' := fun W (hW : Below w.heap.size w W) => read_any k n E (t.drop u) (c - (1 + u)) W hn (hd2.kept hW) (by omega)
  rw [hrd] at hr
  simp only [hrd, hdl] at hrd'
  simp only at hr
  have hmore : (more : Int) ≤ 40 := by
    have h1 : more = (rdV k n (t.drop u)).2.1 := by rw [hrd]
    rw [h1]
    unfold rdV
    split
    · simp
    · split
      · split
        · simp only; omega
        · simp
      · simp
  obtain ⟨L, hL⟩ : ∃ L, L = t.length := ⟨_, rfl⟩
  rw [← hL] at hsl hsl2 HG hc hu ⊢
  simp only [← hL] at hix
  simp only [← hL] at hrd'
  rw [show L + 1 - (1 + u) = L - u from by omega, show ((1 + u : Nat) : Int) = 1 + (u : Int) from by omega] at hsl2
  have hcell' := fun W (hW : Below (w.alloc (.cells #[.int .i64 0, .int .i64 0, .string ⟨#[]⟩] 78)).heap.size (w.alloc (.cells #[.int .i64 0, .int .i64 0, .string ⟨#[]⟩] 78)) W) => show W.cell? ⟨b, o, none⟩ = some (.int .u8 k) from by
    rw [(bt hB hW).cell (World.block_lt_of_cell? w _ hcell)]
    exact hcell
  have HRd := Lib.hid (fun W (hW : Below (w.alloc (.cells #[.int .i64 0, .int .i64 0, .string ⟨#[]⟩] 78)).heap.size (w.alloc (.cells #[.int .i64 0, .int .i64 0, .string ⟨#[]⟩] 78)) W) => hrd' W (bt hB hW))
  have HC := Lib.hid hcell'
  have HR := Lib.hid hr
  have HB := Lib.hid hB
  have HX := Lib.hid (bx_new w (.int .i64 0) (.int .i64 0) (.string ⟨#[]⟩))
  clear hA hB hr hD hE hd hd2 hGet hg hL h hrd hrd' hcell hcell' htb hdl
  go_enter Tryz.func131, Tryz.ntmps131
  go_wp2_with fail
  refine HG.out.mono ?_
  rintro e w1 ⟨rfl, rfl⟩
  simp only [LeG.gotV]
  obtain ⟨w1, hw1⟩ : ∃ w1, w1 = w.alloc (.cells #[.int .i64 0, .int .i64 0, .string ⟨#[]⟩] 78) := ⟨_, rfl⟩
  rw [← hw1] at HRd HC HB HX ⊢
  have hsz1 : w.heap.size ≤ w1.heap.size := HB.out.size
  clear hw1 HG
  go_wp2_with fail
  refine RegB.GS_start (fun x => Below w1.heap.size w1 x) (by kernel_rfl) (by repeat (first | exact Reg.frameless_bodyPost | refine Reg.frameless_then ?_ | refine Reg.frameless_inBlock ?_)) (fun W hW => hW) (fun W hW => ?_)
  have HW := Lib.hid hW
  have x0 : ∀ x : RegB.At (fun x => Below w1.heap.size w1 x), x.world.cell? ⟨b, o, none⟩ = some (.int .u8 k) := fun x => HC.out _ x.ok
  haveI : Nonempty (RegB.At (fun x => Below w1.heap.size w1 x)) := ⟨⟨W, hW⟩⟩
  clear hW
  first | (refine RegB.GS_step (i := 0) rfl (by kernel_rfl) (by rfl) (fun K hK => ?_); go_big_quiet_op; refine hK _ ?_; clear hK K)
  first | (refine RegB.GS_step (i := 1) rfl (by kernel_rfl) (by rfl) (fun K hK => ?_); go_big_quiet_op; refine hK _ ?_; clear hK K)
  first | (refine RegB.GS_step (i := 2) rfl (by kernel_rfl) (by rfl) (fun K hK => ?_); go_big_quiet_op; refine hK _ ?_; clear hK K)
  first | (refine RegB.GS_step (i := 3) rfl (by kernel_rfl) (by rfl) (fun K hK => ?_); go_big_quiet_op; refine hK _ ?_; clear hK K)
  first | (refine RegB.GS_step (i := 4) rfl (by kernel_rfl) (by rfl) (fun K hK => ?_); go_big_quiet_op; refine hK _ ?_; clear hK K)
  first | (refine RegB.GS_step (i := 5) rfl (by kernel_rfl) (by rfl) (fun K hK => ?_); go_big_quiet_op; refine hK _ ?_; clear hK K)
  first | (refine RegB.GS_step (i := 6) rfl (by kernel_rfl) (by rfl) (fun K hK => ?_); go_big_quiet_op; refine hK _ ?_; clear hK K)
  first | (refine RegB.GS_step (i := 7) rfl (by kernel_rfl) (by rfl) (fun K hK => ?_); go_big_quiet_op; refine hK _ ?_; clear hK K)
  refine RegB.GS_fork (i := 8) (j := 13) rfl rfl (by kernel_rfl) (by rfl) (by rfl) (fun K hK => ?_) (fun K hK => ?_)
  focus
    go_simp
    refine (HRd.out _ HW.out).mono ?_
    rintro e w4 ⟨rfl, hB4⟩
    simp only [got3]
    refine hK _ _ (bt HW.out hB4) ?_
    clear hK K
    first | (refine RegB.GS_step (i := 9) rfl (by kernel_rfl) (by rfl) (fun K hK => ?_); go_big_quiet_op; refine hK _ ?_; clear hK K)
    first | (refine RegB.GS_step (i := 10) rfl (by kernel_rfl) (by rfl) (fun K hK => ?_); go_big_quiet_op; refine hK _ ?_; clear hK K)
    first | (refine RegB.GS_step (i := 11) rfl (by kernel_rfl) (by rfl) (fun K hK => ?_); go_big_quiet_op; refine hK _ ?_; clear hK K)
    first | (refine RegB.GS_step (i := 12) rfl (by kernel_rfl) (by rfl) (fun K hK => ?_); go_big_quiet_op; refine hK _ ?_; clear hK K)
    refine RegB.GS_event (i := 13) rfl (by kernel_rfl) (by rfl) (fun K hK => ?_)
    go_simp
    refine hK _ _ (bt HW.out (bt hB4 ((Below.refl _ _).alloc (Nat.le_refl _) _))) ?_
    clear hK K
    refine RegB.GS_event (i := 14) rfl (by kernel_rfl) (by rfl) (fun K hK => ?_)
    go_simp
    refine hK _ _ (bt HW.out (bt hB4 ((Below.refl _ _).alloc (Nat.le_refl _) _))) ?_
    clear hK K
    first | (refine RegB.GS_step (i := 15) rfl (by kernel_rfl) (by rfl) (fun K hK => ?_); go_big_quiet_op; refine hK _ ?_; clear hK K)
    first | (refine RegB.GS_step (i := 16) rfl (by kernel_rfl) (by rfl) (fun K hK => ?_); go_big_quiet_op; refine hK _ ?_; clear hK K)
    refine RegB.GS_done (by kernel_rfl) ?_
    have hbx := bx_new w4 (.int .i64 rk) (.int .i64 rn) (.string rs)
    have hbel := bt HW.out (bt hB4 ((Below.refl _ w4).alloc (Nat.le_refl _) (.cells #[.int .i64 rk, .int .i64 rn, .string rs] 78)))
    obtain ⟨bk, hbk⟩ : ∃ bk, bk = w4.heap.size := ⟨_, rfl⟩
    obtain ⟨w5, hw5⟩ : ∃ w5, w5 = w4.alloc (.cells #[.int .i64 rk, .int .i64 rn, .string rs] 78) := ⟨_, rfl⟩
    rw [← hw5] at hbx hbel ⊢
    rw [← hbk] at hbx ⊢
    have HBk := Lib.hid hbx
    have HB5 := Lib.hid hbel
    clear hbx hbel hB4 hbk hw5
  rotate_left
  focus
    go_simp
    refine hK _ _ (bt HW.out ((Below.refl _ _).alloc (Nat.le_refl _) _)) ?_
    clear hK K
    refine RegB.GS_event (i := 8) rfl (by kernel_rfl) (by rfl) (fun K hK => ?_)
    go_simp
    refine (HRd.out _ (bt HW.out ((Below.refl _ _).alloc (Nat.le_refl _) _))).mono ?_
    rintro e w4 ⟨rfl, hB4⟩
    simp only [got3]
    refine hK _ _ (bt HW.out (bt ((Below.refl _ _).alloc (Nat.le_refl _) _) hB4)) ?_
    clear hK K
    first | (refine RegB.GS_step (i := 9) rfl (by kernel_rfl) (by rfl) (fun K hK => ?_); go_big_quiet_op; refine hK _ ?_; clear hK K)
    first | (refine RegB.GS_step (i := 10) rfl (by kernel_rfl) (by rfl) (fun K hK => ?_); go_big_quiet_op; refine hK _ ?_; clear hK K)
    first | (refine RegB.GS_step (i := 11) rfl (by kernel_rfl) (by rfl) (fun K hK => ?_); go_big_quiet_op; refine hK _ ?_; clear hK K)
    first | (refine RegB.GS_step (i := 12) rfl (by kernel_rfl) (by rfl) (fun K hK => ?_); go_big_quiet_op; refine hK _ ?_; clear hK K)
    have hbx0 := (bx_new W (.int .i64 0) (.int .i64 0) (.string ⟨#[]⟩)).kept hB4
    obtain ⟨⟨z0, z1, z2⟩, z3, z4, z5⟩ := hbx0
    have hbel : Below w1.heap.size w1 (((w4.setCell ⟨W.heap.size, 0, none⟩ (.int .i64 rk)).setCell ⟨W.heap.size, 1, none⟩ (.int .i64 rn)).setCell ⟨W.heap.size, 2, none⟩ (.string rs)) := stored3 (bt HW.out (bt ((Below.refl _ W).alloc (Nat.le_refl _) (.cells #[.int .i64 0, .int .i64 0, .string ⟨#[]⟩] 78)) hB4)) HW.out.size _ _ _
    refine RegB.GS_event (i := 14) rfl (by kernel_rfl) (by rfl) (fun K hK => ?_)
    go_simp
    refine hK _ _ hbel ?_
    clear hK K
    first | (refine RegB.GS_step (i := 15) rfl (by kernel_rfl) (by rfl) (fun K hK => ?_); go_big_quiet_op; refine hK _ ?_; clear hK K)
    first | (refine RegB.GS_step (i := 16) rfl (by kernel_rfl) (by rfl) (fun K hK => ?_); go_big_quiet_op; refine hK _ ?_; clear hK K)
    refine RegB.GS_done (by kernel_rfl) ?_
    have hbx := bx_store ((bx_new W (.int .i64 0) (.int .i64 0) (.string ⟨#[]⟩)).kept hB4) (.int .i64 rk) (.int .i64 rn) (.string rs)
    obtain ⟨bk, hbk⟩ : ∃ bk, bk = W.heap.size := ⟨_, rfl⟩
    rw [← hbk] at hbx hbel ⊢
    obtain ⟨w5, hw5⟩ : ∃ w5, w5 = ((w4.setCell ⟨bk, 0, none⟩ (.int .i64 rk)).setCell ⟨bk, 1, none⟩ (.int .i64 rn)).setCell ⟨bk, 2, none⟩ (.string rs) := ⟨_, rfl⟩
    rw [← hw5] at hbx hbel ⊢
    have HBk := Lib.hid hbx
    have HB5 := Lib.hid hbel
    clear hbx hbel hB4 hbk hw5 z0 z1 z2 z3 z4 z5
  all_goals
    cases is
    · have HN := Lib.hid (show gotP (getP (k :: t)) = (⟨0, 0, e0⟩, 0, false) from by rw [HR.out, if_neg (by simp)]; rfl)
      have hx := HX.out.kept HB5.out
      have HBB := Lib.hid HB5.out
      have hst := bx_store hx (.int .i64 0) (.int .i64 0) (.string ⟨#[]⟩)
      obtain ⟨⟨r0, r1, r2⟩, _⟩ := hst
      have R0 := Lib.hid r0
      have R1 := Lib.hid r1
      have R2 := Lib.hid r2
      have HF := Lib.hid (stored3 (bt HB.out HBB.out) (Nat.le_refl _) (.int .i64 0) (.int .i64 0) (.string ⟨#[]⟩))
      obtain ⟨⟨p0, p1, p2⟩, p3, p4, p5⟩ := hx
      clear r0 r1 r2
      go_wp2_with fail
      obtain ⟨W2, hW2⟩ : ∃ W2, W2 = ((w5.setCell ⟨w.heap.size, 0, none⟩ (.int .i64 0)).setCell ⟨w.heap.size, 1, none⟩ (.int .i64 0)).setCell ⟨w.heap.size, 2, none⟩ (.string ⟨#[]⟩) := ⟨_, rfl⟩
      rw [← hW2] at HF R0 R1 R2 ⊢
      have r0 := R0.out
      have r1 := R1.out
      have r2 := R2.out
      clear hW2 p0 p1 p2 p3 p4 p5
      exact bodyPost_ret (v := .tuple #[.agg #[.int .i64 0, .int .i64 0, .string ⟨#[]⟩], .int .i64 0, .bool false]) (by simp [results, Tryz.results131, go_sem, r0, r1, r2]) rfl ⟨ret_v (by rw [HN.out]; rfl), HF.out⟩
    · obtain ⟨⟨q0, q1, q2⟩, _⟩ := HBk.out
      go_wp2_with fail
      refine (May_any rk rn rs _).mono ?_
      rintro e w6 ⟨rfl, hb6⟩
      have hx := HX.out.kept (bt HB5.out hb6)
      have HBB := Lib.hid (bt HB5.out hb6)
      have HBk6 := Lib.hid (HBk.out.kept hb6)
      clear q0 q1 q2 hb6 HB5 HBk
      by_cases hmay : May ⟨rk, rn, rs⟩
      · rw [decide_eq_true hmay]
        have HN := Lib.hid (show gotP (getP (k :: t)) = (⟨rk, rn, rs⟩, 1 + u + more, true) from by rw [HR.out, if_pos ⟨trivial, hmay⟩]; rfl)
        have hst := bx_store hx (.int .i64 rk) (.int .i64 rn) (.string rs)
        obtain ⟨⟨r0, r1, r2⟩, _⟩ := hst
        have R0 := Lib.hid r0
        have R1 := Lib.hid r1
        have R2 := Lib.hid r2
        have HF := Lib.hid (stored3 (bt HB.out HBB.out) (Nat.le_refl _) (.int .i64 rk) (.int .i64 rn) (.string rs))
        obtain ⟨⟨p0, p1, p2⟩, p3, p4, p5⟩ := hx
        obtain ⟨⟨q0, q1, q2⟩, _⟩ := HBk6.out
        clear r0 r1 r2 hmay
        go_wp2_with fail
        obtain ⟨W2, hW2⟩ : ∃ W2, W2 = ((w6.setCell ⟨w.heap.size, 0, none⟩ (.int .i64 rk)).setCell ⟨w.heap.size, 1, none⟩ (.int .i64 rn)).setCell ⟨w.heap.size, 2, none⟩ (.string rs) := ⟨_, rfl⟩
        rw [← hW2] at HF R0 R1 R2 ⊢
        have r0 := R0.out
        have r1 := R1.out
        have r2 := R2.out
        clear hW2 p0 p1 p2 p3 p4 p5 q0 q1 q2
        have hw64 : wrap64 (1 + (u : Int) + (more : Int)) = 1 + (u : Int) + (more : Int) := IntWalk.wrap64_in _ (by omega)
        have hcast : ((1 + u + more : Nat) : Int) = 1 + (u : Int) + (more : Int) := by omega
        exact bodyPost_ret (v := .tuple #[.agg #[.int .i64 rk, .int .i64 rn, .string rs], .int .i64 (1 + (u : Int) + more), .bool true]) (by simp [results, Tryz.results131, go_sem, r0, r1, r2]) rfl ⟨ret_v (by rw [HN.out, got3]; simp only [hcast]), HF.out⟩
      · rw [decide_eq_false hmay]
        have HN := Lib.hid (show gotP (getP (k :: t)) = (⟨0, 0, e0⟩, 0, false) from by rw [HR.out, if_neg (fun h => hmay h.2)]; rfl)
        clear hmay
        have hst := bx_store hx (.int .i64 0) (.int .i64 0) (.string ⟨#[]⟩)
        obtain ⟨⟨r0, r1, r2⟩, _⟩ := hst
        have R0 := Lib.hid r0
        have R1 := Lib.hid r1
        have R2 := Lib.hid r2
        have HF := Lib.hid (stored3 (bt HB.out HBB.out) (Nat.le_refl _) (.int .i64 0) (.int .i64 0) (.string ⟨#[]⟩))
        obtain ⟨⟨p0, p1, p2⟩, p3, p4, p5⟩ := hx
        clear r0 r1 r2
        go_wp2_with fail
        obtain ⟨W2, hW2⟩ : ∃ W2, W2 = ((w6.setCell ⟨w.heap.size, 0, none⟩ (.int .i64 0)).setCell ⟨w.heap.size, 1, none⟩ (.int .i64 0)).setCell ⟨w.heap.size, 2, none⟩ (.string ⟨#[]⟩) := ⟨_, rfl⟩
        rw [← hW2] at HF R0 R1 R2 ⊢
        have r0 := R0.out
        have r1 := R1.out
        have r2 := R2.out
        clear hW2 p0 p1 p2 p3 p4 p5
        exact bodyPost_ret (v := .tuple #[.agg #[.int .i64 0, .int .i64 0, .string ⟨#[]⟩], .int .i64 0, .bool false]) (by simp [results, Tryz.results131, go_sem, r0, r1, r2]) rfl ⟨ret_v (by rw [HN.out]; rfl), HF.out⟩

/-- Get of any bytes. -/
theorem Get_any (A : Option Addr) (xs : List Int) (c : Nat) (w : World) (h : SlB w A xs c) : Calls Tryz.prog 131 #[.slice A xs.length c] w (Gots xs w) := by
  cases xs with
  | nil => exact Get_nil A c w
  | cons k t =>
    cases hg : getS t with
    | none => exact Get_no A k t c w h hg
    | some p =>
      obtain ⟨n, u⟩ := p
      obtain ⟨b, o, hA, _⟩ := h.1.2 (by simp)
      exact Get_yes A b o hA k t c w h n u hg
end Go.Proofs.YtbmdkibmfkmjoaaGreat.Va
