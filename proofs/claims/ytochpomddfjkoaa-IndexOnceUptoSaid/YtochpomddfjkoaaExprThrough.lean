/- What an expression comes to, by the document's answer; asked: the values and the parts may be, and lie where the slices say. -/
import Derived.Test.YtochpomddfjkoaaExprTwo
import Derived.Test.YtochpomddfjkoaaExprPile
import Derived.Test.YtochpomddfjkoaaOpRow
import Derived.Test.YtochpomddfjkoaaRegionB
namespace Go.Proofs.Ytochpomddfjkoaa.Ex
open Go.RowKit Go.Proofs.Ytochpomddfjkoaa.BM Go.Proofs.Ytochpomddfjkoaa.VaM Go.Proofs.Ytochpomddfjkoaa.Va Go.Proofs.Ytochpomddfjkoaa.ExM Go.Proofs.Ytochpomddfjkoaa.EvM

section
variable {vs : List V} {kb : Bool} {o : O} {p : List V}
theorem step_push (h : o.c = 0) : ExM.step vs kb o p = .ok (p ++ [o.v]) := by rw [ExM.step, if_pos h]
theorem step_load (h : o.c = 1) : ExM.step vs kb o p = if o.a.toNat < vs.length then .ok (p ++ [vs.getD o.a.toNat v0]) else .error 3 := by rw [ExM.step, if_neg (by omega), if_pos h]
theorem step_not (h : o.c = 9) : ExM.step vs kb o p = if p.length < 1 then .error 2 else if (p.getD (p.length - 1) v0).k ≠ 1 then .error 5 else .ok (p.take (p.length - 1) ++ [truth (decide ((p.getD (p.length - 1) v0).n = 0))]) := by rw [ExM.step, if_neg (by omega), if_neg (by omega), if_pos h]
theorem step_two (h0 : o.c ≠ 0) (h1 : o.c ≠ 1) (h9 : o.c ≠ 9) : ExM.step vs kb o p = if p.length < 2 then .error 2 else if (two o.c (p.getD (p.length - 2) v0) (p.getD (p.length - 1) v0)).2 = 0 ∨ (kb = true ∧ (two o.c (p.getD (p.length - 2) v0) (p.getD (p.length - 1) v0)).2 = 6) then .ok (p.take (p.length - 2) ++ [(two o.c (p.getD (p.length - 2) v0) (p.getD (p.length - 1) v0)).1]) else .error (two o.c (p.getD (p.length - 2) v0) (p.getD (p.length - 1) v0)).2 := by
  rw [ExM.step, if_neg h0, if_neg h1, if_neg h9]
end

theorem run_drop (vs : List V) (kb : Bool) (l : List O) (j : Nat) (p : List V) (hj : j < l.length) : ExM.run vs kb (l.drop j) p = match ExM.step vs kb (l.getD j o0) p with
    | .error e => .error e
    | .ok q => ExM.run vs kb (l.drop (j + 1)) q := by
  rw [List.drop_eq_getElem_cons hj, ExM.run, List.getD_eq_getElem?_getD, List.getElem?_eq_getElem hj]
  rfl

theorem run_err {vs : List V} {kb : Bool} {l : List O} {j : Nat} {p : List V} {e : Int} {R : V × Int} (hj : j < l.length) (h : fin (ExM.run vs kb (l.drop j) p) = R) (hs : ExM.step vs kb (l.getD j o0) p = .error e) : R = (v0, e) := by
  rw [run_drop vs kb l j p hj, hs] at h
  exact h.symm

theorem run_ok {vs : List V} {kb : Bool} {l : List O} {j : Nat} {p q : List V} {R : V × Int} (hj : j < l.length) (h : fin (ExM.run vs kb (l.drop j) p) = R) (hs : ExM.step vs kb (l.getD j o0) p = .ok q) : fin (ExM.run vs kb (l.drop (j + 1)) q) = R := by
  rw [run_drop vs kb l j p hj, hs] at h
  exact h

theorem two_rng (c : Int) {a b : V} : Rng (two c a b).1 := by
  have h0 : Rng v0 := ⟨by decide, by decide⟩
  have ht : ∀ x : Bool, Rng (truth x) := fun x => by cases x <;> exact ⟨by decide, by decide⟩
  unfold two
  split
  · exact h0
  · split
    · exact ht _
    · split
      · split
        · exact h0
        · exact ht _
      · split
        · split
          · exact h0
          · exact ht _
        · split
          · exact h0
          · split
            · rename_i h
              exact fits_iff.1 h
            · exact h0

theorem ne_own {A : Option Addr} {lo g g8 t c : Nat} (h : ∀ a, A = some a → lo ≤ a.block ∧ a.block < g) (hg : g < g8) : some g8 ≠ Value.ownBlock (.slice A t c) := by
  cases A with
  | none => intro h; cases h
  | some a =>
    intro k
    have h1 := (h a rfl).2
    have h2 : some g8 = some a.block := k
    injection h2 with h2
    omega

theorem way_good {kb : Bool} {r : Int} (h : r = 0 ∨ (kb = true ∧ r = 6)) : (kb = true ∧ r = 0) ∨ (kb = false ∧ r = 0) ∨ (kb = true ∧ r = 6) := by
  rcases h with h | ⟨h1, h2⟩
  · cases kb
    · exact Or.inr (Or.inl ⟨rfl, h⟩)
    · exact Or.inl ⟨rfl, h⟩
  · exact Or.inr (Or.inr ⟨h1, h2⟩)

theorem way_bad {kb : Bool} {r : Int} (h : kb = true → (r == 6) = false) : (kb = true ∧ (r == 6) = false) ∨ kb = false := by
  cases kb
  · exact Or.inr rfl
  · exact Or.inl ⟨rfl, h rfl⟩

/-- What two ways lead to. -/
theorem midway {P Q : Nat → World → Prop} {G : Prop} (h : (∀ g w, P g w → Q g w) → G) (k : ∀ g w, P g w → Q g w) : G := h k

/-- The pile, as the loop carries it. -/
structure St (base : Nat) (w1 : World) (vs : List V) (kb : Bool) (l : List O) (R : V × Int) (j : Nat) (p : List V) (u : Value) (wr : World) : Prop where
  few : p.length ≤ j
  pile : Pile base p u wr
  run : fin (ExM.run vs kb (l.drop j) p) = R
  bel : Below base w1 wr

set_option maxRecDepth 100000 in
set_option maxHeartbeats 16000000 in
theorem through_any (vs : List V) (l : List O) (kb : Bool) (A : Option Addr) (c : Nat) (B : Option Addr) (d : Nat) (w : World) (hV : SlV w A vs c) (hO : SlO w B l d) (hvm : ∀ x ∈ vs, VaM.May x) (hom : ∀ x ∈ l, Ok x) (hlen : l.length ≤ 12) :
    Calls Try.prog 44 #[.slice A vs.length c, .slice B l.length d, .bool kb] w (TwoV (through vs l kb) w) := by
  have hlv := slV_len hV
  have hvat := fun k (hk : k < vs.length) => hV.at v0 k hk
  have hvmm := fun k (hk : k < vs.length) => hvm _ (EvM.getD_mem (l := vs) (i := k) hk)
  have hok := fun j (hj : j < l.length) => hom _ (ExM.getD_mem (l := l) (i := j) hj)
  have herr := fun j p e R => @run_err vs kb l j p e R
  have hrok := fun j p q R => @run_ok vs kb l j p q R
  obtain ⟨R, hR⟩ : ∃ R, R = through vs l kb := ⟨_, rfl⟩
  have hst : fin (ExM.run vs kb (l.drop 0) []) = R := by rw [hR]; rfl
  have hend : ∀ p, fin (ExM.run vs kb (l.drop l.length) p) = R → R = if p.length = 1 then (p.getD 0 v0, 0) else (v0, 2) := fun p h => by
    rw [List.drop_length] at h
    exact h.symm
  rw [← hR]
  obtain ⟨n, hn⟩ : ∃ n, n = l.length := ⟨_, rfl⟩
  obtain ⟨vn, hvn⟩ : ∃ n, n = vs.length := ⟨_, rfl⟩
  rw [← hn, ← hvn]
  rw [← hn] at hlen
  rw [← hvn] at hlv
  simp only [← hn] at hok herr hrok hend
  simp only [← hvn] at hvat hvmm
  have HVn := Lib.hid hvn
  have HLen := Lib.hid hn
  have HVat := Lib.hid hvat
  have HVm := Lib.hid hvmm
  have HOk := Lib.hid hok
  have HErr := Lib.hid herr
  have HRok := Lib.hid hrok
  have HEnd := Lib.hid hend
  have HO := Lib.hid hO
  have HSt := Lib.hid hst
  have HZ1 := Lib.hid (bx_new_t w 52 (.int .i64 0) (.int .i64 0) (.string ⟨#[]⟩))
  have HB1 := Lib.hid ((Below.refl w.heap.size w).alloc (Nat.le_refl _) (.cells #[.int .i64 0, .int .i64 0, .string ⟨#[]⟩] 52))
  have HW1 := Lib.hid (show w.heap.size < (w.alloc (.cells #[.int .i64 0, .int .i64 0, .string ⟨#[]⟩] 52)).heap.size from by simp)
  clear hV hO hvm hom hvat hvmm hok herr hrok hst hend hR hn hvn
  go_enter Try.func44, Try.ntmps44
  go_wp2_with fail
  obtain ⟨w1, hw1⟩ : ∃ w1, w1 = w.alloc (.cells #[.int .i64 0, .int .i64 0, .string ⟨#[]⟩] 52) := ⟨_, rfl⟩
  rw [← hw1] at HZ1 HB1 HW1 ⊢
  clear hw1
  go_loopw [8, 9] (fun u i wr => ∃ (j : Nat) (p : List V), i = .int .i64 j ∧ j ≤ n ∧ St w1.heap.size w1 vs kb l R j p u wr) (fun _ i _ => n - (intOf i).toNat)
  case atStart => exact ⟨0, [], rfl, Nat.zero_le _, Nat.le_refl _, pile_nil _ _, HSt.out, Below.refl _ _⟩
  case round =>
    obtain ⟨j, p, rfl, hj, hst⟩ := hrel
    have HBl := Lib.hid (show Below w1.heap.size w1 wr from hst.bel)
    have HRun := Lib.hid hst.run
    have hfew := hst.few
    obtain ⟨A0, c0, rfl, hS, hA⟩ := hst.pile.sl
    have HP := Lib.hid hst.pile
    have HZr := Lib.hid (HZ1.out.kept HBl.out)
    have HSl := Lib.hid hS
    have HAb := Lib.hid hA
    obtain ⟨m, hm⟩ : ∃ m, m = p.length := ⟨_, rfl⟩
    rw [← hm] at hfew HP ⊢
    have HM := Lib.hid hm
    clear hst hS hA hm
    by_cases hjn : j < n
    · obtain ⟨b, q, hix, hc, hfz⟩ := HO.out.at j (by rw [← HLen.out]; exact hjn)
      have hokx := HOk.out j hjn
      have herr := fun e => HErr.out j p e R hjn HRun.out
      have hrok := fun q => HRok.out j p q R hjn HRun.out
      obtain ⟨f, hf⟩ : ∃ f, f = l.getD j o0 := ⟨_, rfl⟩
      rw [← hf] at hc hfz hokx
      simp only [← hf] at herr hrok
      obtain ⟨x0, x1, x2, x3, x4⟩ := hc wr (bt HB1.out HBl.out)
      have hi := fun W => hix W n d hjn
      obtain ⟨fc, fa, fk, fn, fs⟩ := f
      simp only at x0 x1 x2 x3 x4
      obtain ⟨k1, k2, k3, k4, k5, k6, k7⟩ := hokx
      simp only at k1 k2 k3 k4 k5 k6 k7
      have HEr := Lib.hid herr
      have HRo := Lib.hid hrok
      have HMx := Lib.hid (show VaM.May ⟨fk, fn, fs⟩ ∧ Rng ⟨fk, fn, fs⟩ from ⟨k6, hfz.2.1⟩)
      have ha := (Below.refl wr.heap.size wr).alloc (Nat.le_refl _) (.cells #[.int .i64 fc, .int .i64 fa, .int .i64 fk, .int .i64 fn, .string fs] 57)
      have HX2 := Lib.hid (bxO_new wr ⟨fc, fa, fk, fn, fs⟩)
      have HB2 := Lib.hid (show Below w1.heap.size w1 (wr.alloc (.cells #[.int .i64 fc, .int .i64 fa, .int .i64 fk, .int .i64 fn, .string fs] 57)) from bt HBl.out ha)
      have HP2 := Lib.hid (HP.out.kept ha)
      have HZ2 := Lib.hid (HZr.out.kept ha)
      have HSl2 := Lib.hid (HSl.out.kept ha)
      have hs2 : (wr.alloc (.cells #[.int .i64 fc, .int .i64 fa, .int .i64 fk, .int .i64 fn, .string fs] 57)).heap.size = wr.heap.size + 1 := by simp
      obtain ⟨p0, p1, p2, p3, p4⟩ := HX2.out.cells
      simp only at p0 p1 p2 p3 p4
      clear hc hix hf hfz ha herr hrok k5 k6 k7 HZr HP HSl
      by_cases h0 : fc = 0
      · have g0 : (fc == 0) = true := by simpa using h0
        have H0 := Lib.hid h0
        clear h0
        have ha3 := (Below.refl (wr.alloc (.cells #[.int .i64 fc, .int .i64 fa, .int .i64 fk, .int .i64 fn, .string fs] 57)).heap.size (wr.alloc (.cells #[.int .i64 fc, .int .i64 fa, .int .i64 fk, .int .i64 fn, .string fs] 57))).alloc (Nat.le_refl _) (.cells #[.int .i64 fk, .int .i64 fn, .string fs] 52)
        have hn3 := one_new (wr.alloc (.cells #[.int .i64 fc, .int .i64 fa, .int .i64 fk, .int .i64 fn, .string fs] 57)) ⟨fk, fn, fs⟩
        simp only [hs2] at hn3
        have HN3 := Lib.hid hn3
        have HP3 := Lib.hid (HP2.out.kept ha3)
        have HB3 := Lib.hid (bt HB2.out ha3)
        have hz3 := HB3.out.size
        have HGo := Lib.hid (HRo.out _ (step_push H0.out))
        have HMm := Lib.hid (HMx.out)
        have hp3 := HP3.out.1
        rw [← HM.out] at hp3
        have HPo := Lib.hid hp3
        clear ha3 hn3 hp3 hs2
        go_wp2_with (at_builtin; refine wp_append_v rfl (.tmp 29) (.tmp 32) rfl w1.heap.size _ m p rfl HPo.out (some ⟨wr.heap.size + 1, 0, none⟩) 1 1 [⟨fk, fn, fs⟩] rfl rfl HN3.out (by omega) hz3 ?_; intro u4 w4 hown4 hgrow4; refine pause ?_)
        have HB4 := Lib.hid (HB3.out.grown hgrow4 hz3 (fun q hq => (HP3.out.1.lt q hq).1))
        have HSt4 := Lib.hid (show St w1.heap.size w1 vs kb l R (j + 1) (p ++ [⟨fk, fn, fs⟩]) u4 w4 from ⟨by rw [List.length_append, ← HM.out]; simp; omega, ⟨by rw [List.length_append, ← HM.out]; exact hown4, fun y hy => by
          rcases List.mem_append.1 hy with hy | hy
          · exact HP3.out.2 y hy
          · rw [List.mem_singleton.1 hy]
            exact HMm.out⟩, HGo.out, HB4.out⟩)
        clear hown4 hgrow4
        unfold Pause
        go_wp2_with fail
        go_roundw
        case rel => exact ⟨j + 1, _, by go_num, by omega, HSt4.out⟩
        case measure => simp [intOf]; omega
      · have g0 : (fc == 0) = false := by simpa using h0
        by_cases h1 : fc = 1
        · have g1 : (fc == 1) = true := by simpa using h1
          have H1 := Lib.hid h1
          clear h1
          have hld := step_load (vs := vs) (kb := kb) (p := p) (o := ⟨fc, fa, fk, fn, fs⟩) H1.out
          rw [← HVn.out] at hld
          simp only at hld
          by_cases hv : fa.toNat < vn
          · have g2 : decide ((vn : Int) ≤ fa) = false := by rw [decide_eq_false_iff_not]; omega
            rw [if_pos hv] at hld
            have hix2 : ∀ j : Nat, (j : Int) = fa.toNat → (.int .i64 fa : Value) = .int .i64 (j : Int) := fun j h => by
              rw [h, Int.toNat_of_nonneg k3]
            obtain ⟨b2, q2, hi2, hc2, _, hr2⟩ := HVat.out fa.toNat hv
            have hm2 := HVm.out fa.toNat hv
            have hi3 := fun W => hi2 W vn c hv
            rw [← hix2 fa.toNat rfl] at hi3
            obtain ⟨⟨ek, en, es⟩, he⟩ : ∃ e, e = vs.getD fa.toNat v0 := ⟨_, rfl⟩
            rw [← he] at hld hc2 hr2 hm2
            obtain ⟨y0, y1, y2⟩ := hc2 (wr.alloc (.cells #[.int .i64 fc, .int .i64 fa, .int .i64 fk, .int .i64 fn, .string fs] 57)) (bt HB1.out HB2.out)
            simp only at y0 y1 y2
            clear hix2 hi2 hc2 he
            have ha3 := (Below.refl (wr.alloc (.cells #[.int .i64 fc, .int .i64 fa, .int .i64 fk, .int .i64 fn, .string fs] 57)).heap.size (wr.alloc (.cells #[.int .i64 fc, .int .i64 fa, .int .i64 fk, .int .i64 fn, .string fs] 57))).alloc (Nat.le_refl _) (.cells #[.int .i64 ek, .int .i64 en, .string es] 52)
            have hn3 := one_new (wr.alloc (.cells #[.int .i64 fc, .int .i64 fa, .int .i64 fk, .int .i64 fn, .string fs] 57)) ⟨ek, en, es⟩
            simp only [hs2] at hn3
            have HN3 := Lib.hid hn3
            have HP3 := Lib.hid (HP2.out.kept ha3)
            have HB3 := Lib.hid (bt HB2.out ha3)
            have hz3 := HB3.out.size
            have HGo := Lib.hid (HRo.out _ hld)
            have HMm := Lib.hid (And.intro hm2 hr2)
            have hp3 := HP3.out.1
            rw [← HM.out] at hp3
            have HPo := Lib.hid hp3
            clear ha3 hn3 hp3 hs2
            go_wp2_with (at_builtin; refine wp_append_v rfl (.tmp 43) (.tmp 49) rfl w1.heap.size _ m p rfl HPo.out (some ⟨wr.heap.size + 1, 0, none⟩) 1 1 [⟨ek, en, es⟩] rfl rfl HN3.out (by omega) hz3 ?_; intro u4 w4 hown4 hgrow4; refine pause ?_)
            have HB4 := Lib.hid (HB3.out.grown hgrow4 hz3 (fun q hq => (HP3.out.1.lt q hq).1))
            have HSt4 := Lib.hid (show St w1.heap.size w1 vs kb l R (j + 1) (p ++ [⟨ek, en, es⟩]) u4 w4 from ⟨by rw [List.length_append, ← HM.out]; simp; omega, ⟨by rw [List.length_append, ← HM.out]; exact hown4, fun y hy => by
              rcases List.mem_append.1 hy with hy | hy
              · exact HP3.out.2 y hy
              · rw [List.mem_singleton.1 hy]
                exact HMm.out⟩, HGo.out, HB4.out⟩)
            clear hown4 hgrow4
            unfold Pause
            go_wp2_with fail
            go_roundw
            case rel => exact ⟨j + 1, _, by go_num, by omega, HSt4.out⟩
            case measure => simp [intOf]; omega
          · have g2 : decide ((vn : Int) ≤ fa) = true := by rw [decide_eq_true_iff]; omega
            rw [if_neg hv] at hld
            clear hs2
            have HRe := Lib.hid (HEr.out 3 hld)
            have hst := bx_store HZ2.out (.int .i64 0) (.int .i64 0) (.string ⟨#[]⟩)
            obtain ⟨⟨g0, g1, g2⟩, _⟩ := hst
            have G0 := Lib.hid g0
            have G1 := Lib.hid g1
            have G2 := Lib.hid g2
            have HF := Lib.hid (stored3 (bt HB1.out HB2.out) (Nat.le_refl _) (.int .i64 0) (.int .i64 0) (.string ⟨#[]⟩))
            obtain ⟨⟨z0, z1, z2⟩, z3, z4, z5⟩ := HZ2.out
            clear g0 g1 g2
            go_wp2_with fail
            obtain ⟨W2, hW2⟩ : ∃ W2, W2 = (((wr.alloc (.cells #[.int .i64 fc, .int .i64 fa, .int .i64 fk, .int .i64 fn, .string fs] 57)).setCell ⟨w.heap.size, 0, none⟩ (.int .i64 0)).setCell ⟨w.heap.size, 1, none⟩ (.int .i64 0)).setCell ⟨w.heap.size, 2, none⟩ (.string ⟨#[]⟩) := ⟨_, rfl⟩
            rw [← hW2] at HF G0 G1 G2 ⊢
            have g0 := G0.out
            have g1 := G1.out
            have g2 := G2.out
            clear hW2 z0 z1 z2 z3 z4 z5
            exact bodyPost_ret (v := .tuple #[.agg #[.int .i64 0, .int .i64 0, .string ⟨#[]⟩], .int .i64 3]) (by simp [results, Try.results44, go_sem, g0, g1, g2]) rfl ⟨ret_v (by rw [HRe.out]; rfl), HF.out⟩
        · have g1 : (fc == 1) = false := by simpa using h1
          by_cases h9 : fc = 9
          · have g9 : (fc == 9) = true := by simpa using h9
            have H9 := Lib.hid h9
            clear h9
            have hno := step_not (vs := vs) (kb := kb) (p := p) (o := ⟨fc, fa, fk, fn, fs⟩) H9.out
            rw [← HM.out] at hno
            by_cases hm1 : m < 1
            · have g2 : decide ((m : Int) < 1) = true := by rw [decide_eq_true_iff]; omega
              rw [if_pos hm1] at hno
              clear hs2
              have HRe := Lib.hid (HEr.out 2 hno)
              have hst := bx_store HZ2.out (.int .i64 0) (.int .i64 0) (.string ⟨#[]⟩)
              obtain ⟨⟨g0, g1, g2⟩, _⟩ := hst
              have G0 := Lib.hid g0
              have G1 := Lib.hid g1
              have G2 := Lib.hid g2
              have HF := Lib.hid (stored3 (bt HB1.out HB2.out) (Nat.le_refl _) (.int .i64 0) (.int .i64 0) (.string ⟨#[]⟩))
              obtain ⟨⟨z0, z1, z2⟩, z3, z4, z5⟩ := HZ2.out
              clear g0 g1 g2
              go_wp2_with fail
              obtain ⟨W2, hW2⟩ : ∃ W2, W2 = (((wr.alloc (.cells #[.int .i64 fc, .int .i64 fa, .int .i64 fk, .int .i64 fn, .string fs] 57)).setCell ⟨w.heap.size, 0, none⟩ (.int .i64 0)).setCell ⟨w.heap.size, 1, none⟩ (.int .i64 0)).setCell ⟨w.heap.size, 2, none⟩ (.string ⟨#[]⟩) := ⟨_, rfl⟩
              rw [← hW2] at HF G0 G1 G2 ⊢
              have g0 := G0.out
              have g1 := G1.out
              have g2 := G2.out
              clear hW2 z0 z1 z2 z3 z4 z5
              exact bodyPost_ret (v := .tuple #[.agg #[.int .i64 0, .int .i64 0, .string ⟨#[]⟩], .int .i64 2]) (by simp [results, Try.results44, go_sem, g0, g1, g2]) rfl ⟨ret_v (by rw [HRe.out]; rfl), HF.out⟩
            · have g2 : decide ((m : Int) < 1) = false := by rw [decide_eq_false_iff_not]; omega
              rw [if_neg hm1] at hno
              have hm1' : m - 1 < p.length := by rw [← HM.out]; omega
              obtain ⟨b2, q2, hi2, hc2, _, hr2⟩ := HSl2.out.at v0 (m - 1) hm1'
              have hi3 := fun W => hi2 W m c0 (by omega)
              rw [show ((m - 1 : Nat) : Int) = (m : Int) - 1 from by omega] at hi3
              obtain ⟨⟨ek, en, es⟩, he⟩ : ∃ e, e = p.getD (m - 1) v0 := ⟨_, rfl⟩
              rw [← he] at hno hc2
              obtain ⟨y0, y1, y2⟩ := hc2 (wr.alloc (.cells #[.int .i64 fc, .int .i64 fa, .int .i64 fk, .int .i64 fn, .string fs] 57)) (Below.refl _ _)
              simp only at y0 y1 y2 hno
              clear hi2 hc2 hr2 he
              by_cases hk : ek = 1
              · have g3 : (ek != 1) = false := by rw [hk]; rfl
                rw [if_neg (fun h => h hk)] at hno
                clear hk
                obtain ⟨z, hz⟩ : ∃ z, (en == 0) = z := ⟨_, rfl⟩
                rw [show decide (en = 0) = z from by rw [← hz]; rfl] at hno
                have HGo := Lib.hid (HRo.out _ hno)
                clear hno hs2 HEr HRo
                go_wp2_with fail
                refine (truth_any z _).mono ?_
                rintro e w4 ⟨rfl, hb4⟩
                have HB4 := Lib.hid (bt HB2.out hb4)
                have hp4 := HP2.out.kept hb4
                rw [HM.out] at hp4
                obtain ⟨gg, qq, hA0, hgb, hi5, ⟨o0, o1, o2, e0', e1', e2'⟩, ⟨f0, f1, f2⟩, hset⟩ := hp4.store (m - 1) hm1'
                obtain ⟨hp5, hgr5⟩ := hset (truth z) (truth_may z) (by cases z <;> exact ⟨by decide, by decide⟩)
                have hb5 := HB4.out.grown hgr5 HB4.out.size (fun q hq => by injection hq with hq; omega)
                rw [take_snocV' (by rw [← HM.out]; omega)] at hp5
                rw [← HM.out] at hi5 hp5
                rw [show ((m - 1 : Nat) : Int) = (m : Int) - 1 from by omega] at hi5
                have e := (hi3 w4).symm.trans (hi5 w4)
                simp only [Result.ok.injEq, Value.pointer.injEq, Option.some.injEq, Addr.mk.injEq, and_true] at e
                obtain ⟨rfl, rfl⟩ := e
                clear hi5
                obtain ⟨tn, htn⟩ : ∃ t, t = (truth z).n := ⟨_, rfl⟩
                have HTn := Lib.hid htn
                rw [← htn] at hp5 hb5 ⊢
                have HP5 := Lib.hid hp5
                have HB5 := Lib.hid hb5
                clear hp4 hset hp5 hgr5 hb5 hb4 htn hA0
                have HSt4 := Lib.hid (show St w1.heap.size w1 vs kb l R (j + 1) (p.take (m - 1) ++ [truth z]) (.slice A0 m c0) (((w4.setCell ⟨b2, q2, none⟩ (.int .i64 1)).setCell ⟨b2, q2 + 1, none⟩ (.int .i64 tn)).setCell ⟨b2, q2 + 2, none⟩ (.string ⟨#[]⟩)) from ⟨by rw [List.length_append, List.length_take, ← HM.out]; simp; omega, HP5.out, HGo.out, HB5.out⟩)
                go_wp2_with fail
                go_roundw
                case rel => exact ⟨j + 1, _, by go_num, by omega, HSt4.out⟩
                case measure => simp [intOf]; omega
              · have g3 : (ek != 1) = true := by rw [bne_iff_ne]; exact hk
                rw [if_pos hk] at hno
                clear hs2
                have HRe := Lib.hid (HEr.out 5 hno)
                have hst := bx_store HZ2.out (.int .i64 0) (.int .i64 0) (.string ⟨#[]⟩)
                obtain ⟨⟨g0, g1, g2⟩, _⟩ := hst
                have G0 := Lib.hid g0
                have G1 := Lib.hid g1
                have G2 := Lib.hid g2
                have HF := Lib.hid (stored3 (bt HB1.out HB2.out) (Nat.le_refl _) (.int .i64 0) (.int .i64 0) (.string ⟨#[]⟩))
                obtain ⟨⟨z0, z1, z2⟩, z3, z4, z5⟩ := HZ2.out
                clear g0 g1 g2
                go_wp2_with fail
                obtain ⟨W2, hW2⟩ : ∃ W2, W2 = (((wr.alloc (.cells #[.int .i64 fc, .int .i64 fa, .int .i64 fk, .int .i64 fn, .string fs] 57)).setCell ⟨w.heap.size, 0, none⟩ (.int .i64 0)).setCell ⟨w.heap.size, 1, none⟩ (.int .i64 0)).setCell ⟨w.heap.size, 2, none⟩ (.string ⟨#[]⟩) := ⟨_, rfl⟩
                rw [← hW2] at HF G0 G1 G2 ⊢
                have g0 := G0.out
                have g1 := G1.out
                have g2 := G2.out
                clear hW2 z0 z1 z2 z3 z4 z5
                exact bodyPost_ret (v := .tuple #[.agg #[.int .i64 0, .int .i64 0, .string ⟨#[]⟩], .int .i64 5]) (by simp [results, Try.results44, go_sem, g0, g1, g2]) rfl ⟨ret_v (by rw [HRe.out]; rfl), HF.out⟩
          · have g9 : (fc == 9) = false := by simpa using h9
            have htw := step_two (vs := vs) (kb := kb) (p := p) (o := ⟨fc, fa, fk, fn, fs⟩) h0 h1 h9
            rw [← HM.out] at htw
            by_cases hm2 : m < 2
            · have g2 : decide ((m : Int) < 2) = true := by rw [decide_eq_true_iff]; omega
              rw [if_pos hm2] at htw
              clear hs2
              have HRe := Lib.hid (HEr.out 2 htw)
              have hst := bx_store HZ2.out (.int .i64 0) (.int .i64 0) (.string ⟨#[]⟩)
              obtain ⟨⟨g0, g1, g2⟩, _⟩ := hst
              have G0 := Lib.hid g0
              have G1 := Lib.hid g1
              have G2 := Lib.hid g2
              have HF := Lib.hid (stored3 (bt HB1.out HB2.out) (Nat.le_refl _) (.int .i64 0) (.int .i64 0) (.string ⟨#[]⟩))
              obtain ⟨⟨z0, z1, z2⟩, z3, z4, z5⟩ := HZ2.out
              clear g0 g1 g2
              go_wp2_with fail
              obtain ⟨W2, hW2⟩ : ∃ W2, W2 = (((wr.alloc (.cells #[.int .i64 fc, .int .i64 fa, .int .i64 fk, .int .i64 fn, .string fs] 57)).setCell ⟨w.heap.size, 0, none⟩ (.int .i64 0)).setCell ⟨w.heap.size, 1, none⟩ (.int .i64 0)).setCell ⟨w.heap.size, 2, none⟩ (.string ⟨#[]⟩) := ⟨_, rfl⟩
              rw [← hW2] at HF G0 G1 G2 ⊢
              have g0 := G0.out
              have g1 := G1.out
              have g2 := G2.out
              clear hW2 z0 z1 z2 z3 z4 z5
              exact bodyPost_ret (v := .tuple #[.agg #[.int .i64 0, .int .i64 0, .string ⟨#[]⟩], .int .i64 2]) (by simp [results, Try.results44, go_sem, g0, g1, g2]) rfl ⟨ret_v (by rw [HRe.out]; rfl), HF.out⟩
            · have g2 : decide ((m : Int) < 2) = false := by rw [decide_eq_false_iff_not]; omega
              rw [if_neg hm2] at htw
              have hm1' : m - 1 < p.length := by rw [← HM.out]; omega
              have hm2' : m - 2 < p.length := by rw [← HM.out]; omega
              obtain ⟨b2, q2, hi2, hc2, _, hr2⟩ := HSl2.out.at v0 (m - 1) hm1'
              obtain ⟨b3, q3, hi3, hc3, _, hr3⟩ := HSl2.out.at v0 (m - 2) hm2'
              have hy2 := (HP2.out.2 _ (EvM.getD_mem (l := p) (i := m - 1) hm1')).1
              have hy3 := (HP2.out.2 _ (EvM.getD_mem (l := p) (i := m - 2) hm2')).1
              have hi4 := fun W => hi2 W m c0 (by omega)
              have hi5 := fun W => hi3 W m c0 (by omega)
              rw [show ((m - 1 : Nat) : Int) = (m : Int) - 1 from by omega] at hi4
              rw [show ((m - 2 : Nat) : Int) = (m : Int) - 2 from by omega] at hi5
              obtain ⟨e2, he2⟩ : ∃ e, e = p.getD (m - 1) v0 := ⟨_, rfl⟩
              obtain ⟨e3, he3⟩ : ∃ e, e = p.getD (m - 2) v0 := ⟨_, rfl⟩
              rw [← he2] at hc2 hr2 hy2
              rw [← he3] at hc3 hr3 hy3
              rw [← he2, ← he3] at htw
              have htv := fun W => two_any fc e3 e2 W hy3 hy2 hr3 hr2
              have hym := two_may fc e3 e2
              have hyr := @two_rng fc e3 e2
              simp only at htw
              obtain ⟨Y, hY⟩ : ∃ Y, Y = two fc e3 e2 := ⟨_, rfl⟩
              rw [← hY] at htw hym hyr
              simp only [← hY] at htv
              clear hY he2 he3 hi2 hi3 hy2 hy3 hr2 hr3
              obtain ⟨⟨yk, yn, ys⟩, r⟩ := Y
              unfold TwoV at htv
              simp only at htw hym hyr htv
              obtain ⟨ak, an, az⟩ := e3
              obtain ⟨bk, bn, bz⟩ := e2
              have HTv := Lib.hid htv
              have HYm := Lib.hid (And.intro hym hyr)
              have HTw := Lib.hid htw
              clear htw hym hyr htv
              go_wp2_with fail
              obtain ⟨w2, hw2⟩ : ∃ w2, w2 = (wr.alloc (.cells #[.int .i64 fc, .int .i64 fa, .int .i64 fk, .int .i64 fn, .string fs] 57)) := ⟨_, rfl⟩
              obtain ⟨g, hg⟩ : ∃ g, g = wr.heap.size := ⟨_, rfl⟩
              rw [← hw2] at HX2 HB2 HP2 HZ2 HSl2 hs2 ⊢
              simp only [← hw2] at hc2 hc3
              have HC2 := Lib.hid hc2
              have HC3 := Lib.hid hc3
              clear hc2 hc3
              have hAb := HAb.out
              rw [← hg] at HX2 hs2 hAb ⊢
              have HS2 := Lib.hid hs2
              clear hs2
              have HAg := Lib.hid (show ∀ a, A0 = some a → w1.heap.size ≤ a.block ∧ a.block < g from hAb)
              clear hw2 hg hAb HAb p0 p1 p2 p3 p4 x0 x1 x2 x3 x4
              have HCap := Lib.hid (show m ≤ c0 from by rw [HM.out]; exact HSl2.out.1.2.1)
              apply midway (P := fun g8 w8 => Bx w8 g8 (.int .i64 yk) (.int .i64 yn) (.string ys) ∧ Below w2.heap.size w2 w8 ∧ g < g8)
              case h =>
                intro key
                refine RegB.GS_start (fun x => Below w2.heap.size w2 x) (by kernel_rfl) (by repeat (first | with_reducible exact Reg.frameless_bodyPost | with_reducible refine Reg.frameless_then ?_ | with_reducible refine Reg.frameless_inBlock ?_ | refine Reg.frameless_then ?_ | refine Reg.frameless_inBlock ?_)) (fun W hW => hW) (fun W hW => ?_)
                have HW := Lib.hid hW
                have x0 : ∀ x : RegB.At (fun x => Below w2.heap.size w2 x), x.world.cell? ⟨g, 0, none⟩ = some (.int .i64 fc) := fun x => (HX2.out.kept x.ok).cells.1
                have x1 : ∀ x : RegB.At (fun x => Below w2.heap.size w2 x), x.world.cell? ⟨b3, q3, none⟩ = some (.int .i64 ak) := fun x => (HC3.out x.world x.ok).1
                have x2 : ∀ x : RegB.At (fun x => Below w2.heap.size w2 x), x.world.cell? ⟨b3, q3 + 1, none⟩ = some (.int .i64 an) := fun x => (HC3.out x.world x.ok).2.1
                have x3 : ∀ x : RegB.At (fun x => Below w2.heap.size w2 x), x.world.cell? ⟨b3, q3 + 2, none⟩ = some (.string az) := fun x => (HC3.out x.world x.ok).2.2
                have x4 : ∀ x : RegB.At (fun x => Below w2.heap.size w2 x), x.world.cell? ⟨b2, q2, none⟩ = some (.int .i64 bk) := fun x => (HC2.out x.world x.ok).1
                have x5 : ∀ x : RegB.At (fun x => Below w2.heap.size w2 x), x.world.cell? ⟨b2, q2 + 1, none⟩ = some (.int .i64 bn) := fun x => (HC2.out x.world x.ok).2.1
                have x6 : ∀ x : RegB.At (fun x => Below w2.heap.size w2 x), x.world.cell? ⟨b2, q2 + 2, none⟩ = some (.string bz) := fun x => (HC2.out x.world x.ok).2.2
                haveI : Nonempty (RegB.At (fun x => Below w2.heap.size w2 x)) := ⟨⟨W, hW⟩⟩
                clear hW
                first | (refine RegB.GS_step (i := 0) rfl (by kernel_rfl) (by rfl) (fun K hK => ?_); go_big_quiet_op; refine hK _ ?_; clear hK K)
                first | (refine RegB.GS_step (i := 1) rfl (by kernel_rfl) (by rfl) (fun K hK => ?_); go_big_quiet_op; refine hK _ ?_; clear hK K)
                first | (refine RegB.GS_step (i := 2) rfl (by kernel_rfl) (by rfl) (fun K hK => ?_); go_big_quiet_op; refine hK _ ?_; clear hK K)
                first | (refine RegB.GS_step (i := 3) rfl (by kernel_rfl) (by rfl) (fun K hK => ?_); go_big_quiet_op; refine hK _ ?_; clear hK K)
                first | (refine RegB.GS_step (i := 4) rfl (by kernel_rfl) (by rfl) (fun K hK => ?_); go_big_quiet_op; refine hK _ ?_; clear hK K)
                first | (refine RegB.GS_step (i := 5) rfl (by kernel_rfl) (by rfl) (fun K hK => ?_); go_big_quiet_op; refine hK _ ?_; clear hK K)
                first | (refine RegB.GS_step (i := 6) rfl (by kernel_rfl) (by rfl) (fun K hK => ?_); go_big_quiet_op; refine hK _ ?_; clear hK K)
                first | (refine RegB.GS_step (i := 7) rfl (by kernel_rfl) (by rfl) (fun K hK => ?_); go_big_quiet_op; refine hK _ ?_; clear hK K)
                first | (refine RegB.GS_step (i := 8) rfl (by kernel_rfl) (by rfl) (fun K hK => ?_); go_big_quiet_op; refine hK _ ?_; clear hK K)
                first | (refine RegB.GS_step (i := 9) rfl (by kernel_rfl) (by rfl) (fun K hK => ?_); go_big_quiet_op; refine hK _ ?_; clear hK K)
                first | (refine RegB.GS_step (i := 10) rfl (by kernel_rfl) (by rfl) (fun K hK => ?_); go_big_quiet_op; refine hK _ ?_; clear hK K)
                first | (refine RegB.GS_step (i := 11) rfl (by kernel_rfl) (by rfl) (fun K hK => ?_); go_big_quiet_op; refine hK _ ?_; clear hK K)
                refine RegB.GS_fork (i := 12) (j := 16) rfl rfl (by kernel_rfl) (by rfl) (by rfl) (fun K hK => ?_) (fun K hK => ?_)
                · go_simp
                  refine (HTv.out _).mono ?_
                  rintro e w5 ⟨rfl, hb5⟩
                  refine hK _ _ (bt HW.out hb5) ?_
                  clear hK K
                  first | (refine RegB.GS_step (i := 13) rfl (by kernel_rfl) (by rfl) (fun K hK => ?_); go_big_quiet_op; refine hK _ ?_; clear hK K)
                  first | (refine RegB.GS_step (i := 14) rfl (by kernel_rfl) (by rfl) (fun K hK => ?_); go_big_quiet_op; refine hK _ ?_; clear hK K)
                  first | (refine RegB.GS_step (i := 15) rfl (by kernel_rfl) (by rfl) (fun K hK => ?_); go_big_quiet_op; refine hK _ ?_; clear hK K)
                  refine RegB.GS_event (i := 16) rfl (by kernel_rfl) (by rfl) (fun K hK => ?_)
                  go_simp
                  refine hK _ _ (bt HW.out (bt hb5 ((Below.refl _ _).alloc (Nat.le_refl _) _))) ?_
                  clear hK K
                  refine RegB.GS_event (i := 17) rfl (by kernel_rfl) (by rfl) (fun K hK => ?_)
                  go_simp
                  refine hK _ _ (bt HW.out (bt hb5 ((Below.refl _ _).alloc (Nat.le_refl _) _))) ?_
                  clear hK K
                  first | (refine RegB.GS_step (i := 18) rfl (by kernel_rfl) (by rfl) (fun K hK => ?_); go_big_quiet_op; refine hK _ ?_; clear hK K)
                  refine RegB.GS_done (by kernel_rfl) ?_
                  have HX8 := Lib.hid (bx_new_t w5 52 (.int .i64 yk) (.int .i64 yn) (.string ys))
                  have HB8 := Lib.hid (show Below w2.heap.size w2 (w5.alloc (.cells #[.int .i64 yk, .int .i64 yn, .string ys] 52)) from bt HW.out (bt hb5 ((Below.refl _ _).alloc (Nat.le_refl _) _)))
                  have hg8 : g < w5.heap.size := by have := (bt HW.out hb5).size; have := HS2.out; omega
                  obtain ⟨g8, hgg⟩ : ∃ g, g = w5.heap.size := ⟨_, rfl⟩
                  obtain ⟨w8, hw8⟩ : ∃ w8, w8 = w5.alloc (.cells #[.int .i64 yk, .int .i64 yn, .string ys] 52) := ⟨_, rfl⟩
                  rw [← hw8] at HX8 HB8 ⊢
                  rw [← hgg] at HX8 hg8 ⊢
                  exact key g8 w8 ⟨HX8.out, HB8.out, hg8⟩
                · go_simp
                  refine hK _ _ (bt HW.out ((Below.refl _ _).alloc (Nat.le_refl _) _)) ?_
                  clear hK K
                  refine RegB.GS_event (i := 12) rfl (by kernel_rfl) (by rfl) (fun K hK => ?_)
                  go_simp
                  refine (HTv.out _).mono ?_
                  rintro e w5 ⟨rfl, hb5⟩
                  refine hK _ _ (bt HW.out (bt ((Below.refl _ _).alloc (Nat.le_refl _) _) hb5)) ?_
                  clear hK K
                  first | (refine RegB.GS_step (i := 13) rfl (by kernel_rfl) (by rfl) (fun K hK => ?_); go_big_quiet_op; refine hK _ ?_; clear hK K)
                  first | (refine RegB.GS_step (i := 14) rfl (by kernel_rfl) (by rfl) (fun K hK => ?_); go_big_quiet_op; refine hK _ ?_; clear hK K)
                  first | (refine RegB.GS_step (i := 15) rfl (by kernel_rfl) (by rfl) (fun K hK => ?_); go_big_quiet_op; refine hK _ ?_; clear hK K)
                  have hz5 := (bx_new_t W 52 (.int .i64 0) (.int .i64 0) (.string ⟨#[]⟩)).kept hb5
                  have hst5 := stored3 (b := W.heap.size) (bt HW.out (bt ((Below.refl W.heap.size W).alloc (Nat.le_refl _) (.cells #[.int .i64 0, .int .i64 0, .string ⟨#[]⟩] 52)) hb5)) HW.out.size (.int .i64 yk) (.int .i64 yn) (.string ys)
                  have hbx5 := bx_store hz5 (.int .i64 yk) (.int .i64 yn) (.string ys)
                  obtain ⟨⟨z0, z1, z2⟩, z3, z4, z5⟩ := hz5
                  refine RegB.GS_event (i := 17) rfl (by kernel_rfl) (by rfl) (fun K hK => ?_)
                  go_simp
                  refine hK _ _ hst5 ?_
                  clear hK K z0 z1 z2 z3 z4 z5
                  first | (refine RegB.GS_step (i := 18) rfl (by kernel_rfl) (by rfl) (fun K hK => ?_); go_big_quiet_op; refine hK _ ?_; clear hK K)
                  refine RegB.GS_done (by kernel_rfl) ?_
                  have HX8 := Lib.hid hbx5
                  have HB8 := Lib.hid hst5
                  have hg8 : g < W.heap.size := by have := HW.out.size; have := HS2.out; omega
                  obtain ⟨g8, hgg⟩ : ∃ g, g = W.heap.size := ⟨_, rfl⟩
                  rw [← hgg] at HX8 HB8 hg8 ⊢
                  obtain ⟨w8, hw8⟩ : ∃ w8, w8 = ((w5.setCell ⟨g8, 0, none⟩ (.int .i64 yk)).setCell ⟨g8, 1, none⟩ (.int .i64 yn)).setCell ⟨g8, 2, none⟩ (.string ys) := ⟨_, rfl⟩
                  rw [← hw8] at HX8 HB8 ⊢
                  exact key g8 w8 ⟨HX8.out, HB8.out, hg8⟩
              case k =>
                intro g8 w8 hkey
                have HX8 := Lib.hid hkey.1
                have HB8 := Lib.hid hkey.2.1
                have hg8 := hkey.2.2
                clear hkey HC2 HC3 hi hi4 hi5 HX2 HSl2 HTv HVat HVm HOk HErr HRok HSt
                have HB9 := Lib.hid (bt HB2.out HB8.out)
                have HP9 := Lib.hid (HP2.out.kept HB8.out)
                have HZ9 := Lib.hid (HZ2.out.kept HB8.out)
                by_cases hgo : r = 0 ∨ (kb = true ∧ r = 6)
                · skip
                  have hcap : m ≤ c0 := HCap.out
                  have hsl := fun W => tyV.cut W A0 m c0 (m - 2) (by omega)
                  rw [show ((m - 2 : Nat) : Int) = (m : Int) - 2 from by omega] at hsl
                  have hp9 := HP9.out
                  rw [HM.out] at hp9
                  have hpc := hp9.cut (m - 2) (by rw [← HM.out]; omega)
                  have htl : (p.take (m - 2)).length = m - 2 := by rw [List.length_take, ← HM.out]; omega
                  obtain ⟨t, ht⟩ : ∃ t, t = m - 2 := ⟨_, rfl⟩
                  rw [← ht] at hpc htl
                  simp only [← ht] at hsl
                  have HGo := Lib.hid (HRo.out _ (by rw [HTw.out, if_pos hgo]))
                  rw [← ht] at HGo
                  have HPc := Lib.hid hpc
                  have HTl := Lib.hid htl
                  have htj : t ≤ j := by omega
                  have HNe := Lib.hid (ne_own (t := t) (c := c0) HAg.out hg8)
                  have hway := way_good hgo
                  clear hp9 hpc htl ht hgo
                  rcases hway with ⟨rfl, rfl⟩ | ⟨rfl, rfl⟩ | ⟨rfl, rfl⟩
                  all_goals
                    go_wp2_with fail
                    refine RegB.GS_start (fun x => Bx x g8 (.int .i64 yk) (.int .i64 yn) (.string ys)) (by kernel_rfl) (by repeat (first | with_reducible exact Reg.frameless_bodyPost | with_reducible refine Reg.frameless_then ?_ | with_reducible refine Reg.frameless_inBlock ?_ | refine Reg.frameless_then ?_ | refine Reg.frameless_inBlock ?_)) (fun W hW => HX8.out.kept hW) (fun W hW => ?_)
                    have HW := Lib.hid hW
                    have x0 : ∀ x : RegB.At (fun x => Bx x g8 (.int .i64 yk) (.int .i64 yn) (.string ys)), x.world.cell? ⟨g8, 0, none⟩ = some (.int .i64 yk) := fun x => x.ok.1.1
                    have x1 : ∀ x : RegB.At (fun x => Bx x g8 (.int .i64 yk) (.int .i64 yn) (.string ys)), x.world.cell? ⟨g8, 1, none⟩ = some (.int .i64 yn) := fun x => x.ok.1.2.1
                    have x2 : ∀ x : RegB.At (fun x => Bx x g8 (.int .i64 yk) (.int .i64 yn) (.string ys)), x.world.cell? ⟨g8, 2, none⟩ = some (.string ys) := fun x => x.ok.1.2.2
                    haveI : Nonempty (RegB.At (fun x => Bx x g8 (.int .i64 yk) (.int .i64 yn) (.string ys))) := ⟨⟨W, HX8.out.kept hW⟩⟩
                    clear hW
                    first | (refine RegB.GS_step (i := 0) rfl (by kernel_rfl) (by rfl) (fun K hK => ?_); go_big_quiet_op; refine hK _ ?_; clear hK K)
                    first | (refine RegB.GS_step (i := 1) rfl (by kernel_rfl) (by rfl) (fun K hK => ?_); go_big_quiet_op; refine hK _ ?_; clear hK K)
                    first | (refine RegB.GS_step (i := 2) rfl (by kernel_rfl) (by rfl) (fun K hK => ?_); go_big_quiet_op; refine hK _ ?_; clear hK K)
                    first | (refine RegB.GS_step (i := 3) rfl (by kernel_rfl) (by rfl) (fun K hK => ?_); go_big_quiet_op; refine hK _ ?_; clear hK K)
                    first | (refine RegB.GS_step (i := 4) rfl (by kernel_rfl) (by rfl) (fun K hK => ?_); go_big_quiet_op; refine hK _ ?_; clear hK K)
                    refine RegB.GS_event (i := 5) rfl (by kernel_rfl) (by rfl) (fun K hK => ?_)
                    go_simp
                    have ha10 := (Below.refl W.heap.size W).alloc (Nat.le_refl _) (.cells #[.int .i64 yk, .int .i64 yn, .string ys] 52)
                    refine hK _ _ ((HX8.out.kept HW.out).kept ha10) ?_
                    clear hK K
                    have hn10 := one_new W ⟨yk, yn, ys⟩
                    have hp10 := (HPc.out.kept HW.out).kept ha10
                    have hb10 := bt HB9.out (bt HW.out ha10)
                    have hz10 := hb10.size
                    have ho10 := hp10.1
                    rw [HTl.out] at ho10
                    refine RegB.GS_event (i := 6) rfl (by kernel_rfl) (by rfl) (fun K hK => ?_)
                    refine op_append_v (.tmp 108) (.tmp 110) rfl w1.heap.size (.slice A0 t c0) t (p.take t) rfl ho10 (some ⟨W.heap.size, 0, none⟩) 1 1 [⟨yk, yn, ys⟩] rfl rfl hn10 (by omega) hz10 ?_
                    intro u11 w11 hown11 hgrow11
                    refine hK _ _ (((HX8.out.kept HW.out).kept ha10).grown hgrow11 HNe.out) ?_
                    clear hK K
                    simp only [Act.put, List.setIfInBounds_toArray, List.set_cons_zero, List.set_cons_succ]
                    first | (refine RegB.GS_step (i := 7) rfl (by kernel_rfl) (by rfl) (fun K hK => ?_); go_big_quiet_op; refine hK _ ?_; clear hK K)
                    refine RegB.GS_done (by kernel_rfl) ?_
                    have HB11 := Lib.hid (hb10.grown hgrow11 hz10 (fun q hq => (hp10.1.lt q hq).1))
                    have HSt11 := Lib.hid (show St w1.heap.size w1 vs _ l R (j + 1) (p.take t ++ [⟨yk, yn, ys⟩]) u11 w11 from ⟨by rw [List.length_append, HTl.out]; simp; omega, ⟨by rw [List.length_append, HTl.out]; exact hown11, fun y hy => by
                      rcases List.mem_append.1 hy with hy | hy
                      · exact HPc.out.2 y hy
                      · rw [List.mem_singleton.1 hy]
                        exact HYm.out⟩, HGo.out, HB11.out⟩)
                    clear hown11 hgrow11 hn10 hp10 ho10 hb10 hz10 ha10 x0 x1 x2 hsl
                    go_wp2_with fail
                    go_roundw
                    case rel => exact ⟨j + 1, _, by go_num, by omega, HSt11.out⟩
                    case measure => simp [intOf]; omega
                · have HBad := Lib.hid (by rw [HTw.out, if_neg hgo] : ExM.step vs kb ⟨fc, fa, fk, fn, fs⟩ p = .error r)
                  have hr0 : (r != 0) = true := by rw [bne_iff_ne]; exact fun h => hgo (Or.inl h)
                  have hr6 : kb = true → (r == 6) = false := fun h => by rw [beq_eq_false_iff_ne]; exact fun k => hgo (Or.inr ⟨h, k⟩)
                  have HErr2 := Lib.hid (HEr.out r HBad.out)
                  clear hgo HBad
                  have hway := way_bad hr6
                  clear hr6
                  rcases hway with ⟨rfl, hr6⟩ | rfl
                  all_goals
                    have HRe := Lib.hid (HErr2.out)
                    have hst := bx_store HZ9.out (.int .i64 0) (.int .i64 0) (.string ⟨#[]⟩)
                    obtain ⟨⟨g0, g1, g2⟩, _⟩ := hst
                    have G0 := Lib.hid g0
                    have G1 := Lib.hid g1
                    have G2 := Lib.hid g2
                    have HF := Lib.hid (stored3 (bt HB1.out HB9.out) (Nat.le_refl _) (.int .i64 0) (.int .i64 0) (.string ⟨#[]⟩))
                    obtain ⟨⟨z0, z1, z2⟩, z3, z4, z5⟩ := HZ9.out
                    clear g0 g1 g2
                    go_wp2_with fail
                    obtain ⟨W2, hW2⟩ : ∃ W2, W2 = ((w8.setCell ⟨w.heap.size, 0, none⟩ (.int .i64 0)).setCell ⟨w.heap.size, 1, none⟩ (.int .i64 0)).setCell ⟨w.heap.size, 2, none⟩ (.string ⟨#[]⟩) := ⟨_, rfl⟩
                    rw [← hW2] at HF G0 G1 G2 ⊢
                    have g0 := G0.out
                    have g1 := G1.out
                    have g2 := G2.out
                    clear hW2 z0 z1 z2 z3 z4 z5
                    exact bodyPost_ret (v := .tuple #[.agg #[.int .i64 0, .int .i64 0, .string ⟨#[]⟩], .int .i64 r]) (by simp [results, Try.results44, go_sem, g0, g1, g2]) rfl ⟨ret_v (by rw [HRe.out]; rfl), HF.out⟩
    · obtain rfl : j = n := by omega
      have hend := HEnd.out p HRun.out
      by_cases h1 : m = 1
      · have g1 : ((m : Int) != 1) = false := by rw [h1]; rfl
        rw [if_pos (by rw [← HM.out]; exact h1)] at hend
        obtain ⟨b2, q2, hi2, hc2, _, _⟩ := HSl.out.at v0 0 (by rw [← HM.out]; omega)
        have hi3 := fun W => hi2 W m c0 (by omega)
        rw [show ((0 : Nat) : Int) = 0 from rfl] at hi3
        obtain ⟨⟨ek, en, es⟩, he⟩ : ∃ e, e = p.getD 0 v0 := ⟨_, rfl⟩
        rw [← he] at hend hc2
        obtain ⟨y0, y1, y2⟩ := hc2 wr (Below.refl _ _)
        simp only at y0 y1 y2
        have HRe := Lib.hid hend
        have hst := bx_store HZr.out (.int .i64 ek) (.int .i64 en) (.string es)
        obtain ⟨⟨g0, g1', g2⟩, _⟩ := hst
        have G0 := Lib.hid g0
        have G1 := Lib.hid g1'
        have G2 := Lib.hid g2
        have HF := Lib.hid (stored3 (bt HB1.out HBl.out) (Nat.le_refl _) (.int .i64 ek) (.int .i64 en) (.string es))
        obtain ⟨⟨z0, z1, z2⟩, z3, z4, z5⟩ := HZr.out
        clear g0 g1' g2 h1 hend he hi2 hc2
        go_wp2_with fail
        obtain ⟨W2, hW2⟩ : ∃ W2, W2 = ((wr.setCell ⟨w.heap.size, 0, none⟩ (.int .i64 ek)).setCell ⟨w.heap.size, 1, none⟩ (.int .i64 en)).setCell ⟨w.heap.size, 2, none⟩ (.string es) := ⟨_, rfl⟩
        rw [← hW2] at HF G0 G1 G2 ⊢
        have g0 := G0.out
        have g1 := G1.out
        have g2 := G2.out
        clear hW2 z0 z1 z2 z3 z4 z5
        exact bodyPost_ret (v := .tuple #[.agg #[.int .i64 ek, .int .i64 en, .string es], .int .i64 0]) (by simp [results, Try.results44, go_sem, g0, g1, g2]) rfl ⟨ret_v (by rw [HRe.out]), HF.out⟩
      · have g1 : ((m : Int) != 1) = true := by rw [bne_iff_ne]; omega
        rw [if_neg (by rw [← HM.out]; exact h1)] at hend
        clear h1
        have HRe := Lib.hid (hend)
        have hst := bx_store HZr.out (.int .i64 0) (.int .i64 0) (.string ⟨#[]⟩)
        obtain ⟨⟨g0, g1, g2⟩, _⟩ := hst
        have G0 := Lib.hid g0
        have G1 := Lib.hid g1
        have G2 := Lib.hid g2
        have HF := Lib.hid (stored3 (bt HB1.out HBl.out) (Nat.le_refl _) (.int .i64 0) (.int .i64 0) (.string ⟨#[]⟩))
        obtain ⟨⟨z0, z1, z2⟩, z3, z4, z5⟩ := HZr.out
        clear g0 g1 g2
        go_wp2_with fail
        obtain ⟨W2, hW2⟩ : ∃ W2, W2 = ((wr.setCell ⟨w.heap.size, 0, none⟩ (.int .i64 0)).setCell ⟨w.heap.size, 1, none⟩ (.int .i64 0)).setCell ⟨w.heap.size, 2, none⟩ (.string ⟨#[]⟩) := ⟨_, rfl⟩
        rw [← hW2] at HF G0 G1 G2 ⊢
        have g0 := G0.out
        have g1 := G1.out
        have g2 := G2.out
        clear hW2 z0 z1 z2 z3 z4 z5
        exact bodyPost_ret (v := .tuple #[.agg #[.int .i64 0, .int .i64 0, .string ⟨#[]⟩], .int .i64 2]) (by simp [results, Try.results44, go_sem, g0, g1, g2]) rfl ⟨ret_v (by rw [HRe.out]; rfl), HF.out⟩
end Go.Proofs.Ytochpomddfjkoaa.Ex
