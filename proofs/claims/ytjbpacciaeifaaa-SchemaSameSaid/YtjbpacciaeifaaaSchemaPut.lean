/- putName and Put: a schema's bytes; asked: the fields lie where the slice says. -/
import Derived.Test.YtjbpacciaeifaaaSchemaMay
import Derived.Test.YtjbpacciaeifaaaPutSl
import Derived.Test.YtjbpacciaeifaaaStdConcat
import Derived.Test.YtjbpacciaeifaaaLNew
import Derived.Test.YtjbpacciaeifaaaRegAppend
namespace Go.Proofs.Ytjbpacciaeifaaa.Sc
open Go.RowKit Go.Proofs.Ytjbpacciaeifaaa.BM Go.Proofs.Ytjbpacciaeifaaa.LM Go.Proofs.Ytjbpacciaeifaaa.LeM Go.Proofs.Ytjbpacciaeifaaa.VaM Go.Proofs.Ytjbpacciaeifaaa.Va Go.Proofs.Ytjbpacciaeifaaa.ScM

/-- Bytes in memory of the call's own. -/
def Bys (xs : List Int) (w : World) : Ending → World → Prop := fun e w' => ∃ A c, e = .returned (.slice A xs.length c) ∧ SlB w' A xs c ∧ w'.ownsRow w.heap.size 5 1 (.slice A xs.length c) xs.length (cs xs) ∧ Below w.heap.size w w'

set_option maxRecDepth 100000 in
theorem putName_any (s : ByteArray) (w : World) (hs : s.size ≤ 100000) : Calls Try.prog 25 #[.string s] w (Bys (pn s) w) := by
  have HP := Lib.hid (fun W => Put_sl s.size W (by omega))
  have hl := putL_len64 (n := s.size) (by omega)
  obtain ⟨L, hL⟩ : ∃ L, L = (putL s.size).length := ⟨_, rfl⟩
  rw [← hL] at hl
  have HL := Lib.hid hL
  clear hL
  go_enter Try.func25, Try.ntmps25
  go_wp2_with fail
  refine (HP.out _).mono ?_
  rintro e w1 ⟨A, c, rfl, _, hown, hb⟩
  rw [← HL.out] at hown ⊢
  have HO := Lib.hid hown
  have HB := Lib.hid hb
  have hz := hb.size
  clear hown hb HP
  go_wp2_with (at_builtin; refine wp_append_s rfl (.tmp 6) (.tmp 7) 9 (by kernel_rfl) rfl w.heap.size _ L (putL s.size) rfl HO.out s rfl (by omega) (by omega) ?_; intro v1 w2 hown2 hgrow2; refine pause ?_)
  have hB2 : Below w.heap.size w w2 := HB.out.grown hgrow2 (by omega) (fun q hq => (HO.out.lt q hq).1)
  obtain ⟨A2, c2, rfl, hl2, h2, _⟩ := own_slB hown2 (pn_bytes s)
  have HO2 := Lib.hid hown2
  have HS := Lib.hid h2
  have HB2 := Lib.hid hB2
  have HL2 := Lib.hid hl2
  clear h2 hB2 hown2 hgrow2 hl2
  unfold Pause
  go_wp2_with fail
  go_ret
  refine ⟨A2, c2, rfl, HS.out, ?_, HB2.out⟩
  have h := HO2.out
  rw [HL2.out] at h
  exact h

/-- What Put leaves. -/
def Putted (s : Sc) (w : World) : Ending → World → Prop := fun e w' => ∃ A c, e = .returned (.tuple #[.slice A (pv s).length c, .bool (decide (May s))]) ∧ SlB w' A (pv s) c ∧ (∀ a, A = some a → w.heap.size ≤ a.block) ∧ Below w.heap.size w w'

theorem take_snocF {l : List F} {j : Nat} (hj : j < l.length) : l.take (j + 1) = l.take j ++ [l.getD j d0] := by
  rw [List.take_succ_eq_append_getElem hj]
  simp [List.getD_eq_getElem?_getD, hj]

theorem own_low {w : World} {base base' n : Nat} {v : Value} {xs : List Value} (h : w.ownsRow base 5 1 v n xs) (hb : base' ≤ base) : w.ownsRow base' 5 1 v n xs := by
  refine ⟨h.1, ?_⟩
  rcases h.2 with h0 | ⟨g, cap, cur, hv, hg, hr⟩
  · exact Or.inl h0
  · exact Or.inr ⟨g, cap, cur, hv, Nat.le_trans hb hg, hr⟩

theorem own_row {w : World} {base n : Nat} {A : Option Addr} {c : Nat} {xs ys : List Int} (h : w.ownsRow base 5 1 (.slice A n c) n (cs xs)) (e : xs = ys) : w.ownsRow base 5 1 (.slice A n c) n (cs ys) := e ▸ h

set_option maxRecDepth 100000 in
set_option maxHeartbeats 4000000 in
theorem Put_any (s : Sc) (A : Option Addr) (c : Nat) (w : World) (hS : SlF w A s.f c) (hz : Fine s) :
    Calls Try.prog 12 #[.agg #[.string s.s, .int .i64 s.v, .slice A s.f.length c]] w (Putted s w) := by
  have hm1 := fun W (hW : Below w.heap.size w W) => May_any s A c W (hS.kept hW) hz
  have hl := slF_len hS
  have HS := Lib.hid hS
  by_cases hmay : May s
  · have HMay := Lib.hid hmay
    have hpv : pv s = pS s := by rw [pv, if_pos hmay]
    have hnm := nm_size hmay.1
    have hv1 := hmay.2.1
    have hv2 := hmay.2.2.1
    have hl6 := hmay.2.2.2.1
    have hlen := (pS_len hmay).2
    have hok : ∀ f ∈ s.f, FOk f := fun f hf => hmay.fok hf
    simp only [decide_eq_true hmay] at hm1
    have HPv := Lib.hid hpv
    have HOk := Lib.hid hok
    clear hz hpv hmay hok hS
    obtain ⟨nm, v, l⟩ := s
    have hpS : ∀ j, j ≤ l.length → ((pn nm ++ (putL v.toNat ++ putL l.length)) ++ pfs (l.take j)).length ≤ 200 := fun j hj => by
      have h1 := pfs_len (l := l.take j) (fun f hf => HOk.out f (List.mem_of_mem_take hf))
      have h2 := putL_len64 (n := v.toNat) (by simp only at hv2; omega)
      have h3 := putL_len64 (n := l.length) (by simp only at hl6; omega)
      have h4 := pn_len hnm.2
      simp only at h1 h4 hnm hl6
      rw [List.length_take] at h1
      simp only [List.length_append]
      omega
    simp only at hm1 HS hl hnm hv1 hv2 hl6 HOk ⊢
    have HPn := Lib.hid (fun W => putName_any nm W (by omega))
    have HPv1 := Lib.hid (fun W => Put_sl v.toNat W (by omega))
    have HPl := Lib.hid (fun W => Put_sl l.length W (by omega))
    have hvn : ((v.toNat : Nat) : Int) = v := by omega
    rw [hvn] at HPv1
    obtain ⟨P, hP⟩ : ∃ P, P = pn nm ++ (putL v.toNat ++ putL l.length) := ⟨_, rfl⟩
    rw [← hP] at hpS
    have HPre := Lib.hid hP
    have HpS := Lib.hid hpS
    obtain ⟨n, hn⟩ : ∃ n, n = l.length := ⟨_, rfl⟩
    simp only [← hn] at hm1 HPl
    rw [← hn] at hl hl6 HpS ⊢
    have HN := Lib.hid hn
    have HM1 := Lib.hid hm1
    have HX0 := Lib.hid (bx_new_t w 24 (.string nm) (.int .i64 v) (.slice A n c))
    have HB0 := Lib.hid ((Below.refl w.heap.size w).alloc (Nat.le_refl _) (.cells #[.string nm, .int .i64 v, .slice A n c] 24))
    clear hn hm1 hpS hP hvn
    obtain ⟨⟨p0, p1, p2⟩, _⟩ := HX0.out
    go_enter Try.func12, Try.ntmps12
    go_wp2_with fail
    refine (HM1.out _ HB0.out).mono ?_
    rintro e w1 ⟨rfl, hb1⟩
    have HB1 := Lib.hid (bt HB0.out hb1)
    have HX1 := Lib.hid (HX0.out.kept hb1)
    clear hb1 HB0 HX0 p0 p1 p2 HM1
    go_wp2_with fail
    refine Reg.G_start (by kernel_rfl) (by repeat (first | exact Reg.frameless_bodyPost | refine Reg.frameless_then ?_ | refine Reg.frameless_inBlock ?_)) (fun W hW => ?_)
    have HX2 := Lib.hid (HX1.out.kept hW)
    obtain ⟨⟨p0, p1, p2⟩, _⟩ := HX1.out
    have x0 := Reg.later_cell hW p0
    have x1 := Reg.later_cell hW p1
    have x2 := Reg.later_cell hW p2
    clear p0 p1 p2
    first | (refine Reg.G_step (i := 0) rfl (by kernel_rfl) (by rfl) (fun K hK => ?_); go_big_quiet_op; refine hK _ ?_; clear hK K) | (refine Reg.G_skip (i := 0) rfl (by kernel_rfl) (by rfl) ?_; simp only [Act.put, List.setIfInBounds_toArray, List.set_cons_zero, List.set_cons_succ])
    first | (refine Reg.G_step (i := 1) rfl (by kernel_rfl) (by rfl) (fun K hK => ?_); go_big_quiet_op; refine hK _ ?_; clear hK K) | (refine Reg.G_skip (i := 1) rfl (by kernel_rfl) (by rfl) ?_; simp only [Act.put, List.setIfInBounds_toArray, List.set_cons_zero, List.set_cons_succ])
    first | (refine Reg.G_step (i := 3) rfl (by kernel_rfl) (by rfl) (fun K hK => ?_); go_big_quiet_op; refine hK _ ?_; clear hK K) | (refine Reg.G_skip (i := 3) rfl (by kernel_rfl) (by rfl) ?_; simp only [Act.put, List.setIfInBounds_toArray, List.set_cons_zero, List.set_cons_succ])
    first | (refine Reg.G_step (i := 4) rfl (by kernel_rfl) (by rfl) (fun K hK => ?_); go_big_quiet_op; refine hK _ ?_; clear hK K) | (refine Reg.G_skip (i := 4) rfl (by kernel_rfl) (by rfl) ?_; simp only [Act.put, List.setIfInBounds_toArray, List.set_cons_zero, List.set_cons_succ])
    first | (refine Reg.G_step (i := 5) rfl (by kernel_rfl) (by rfl) (fun K hK => ?_); go_big_quiet_op; refine hK _ ?_; clear hK K) | (refine Reg.G_skip (i := 5) rfl (by kernel_rfl) (by rfl) ?_; simp only [Act.put, List.setIfInBounds_toArray, List.set_cons_zero, List.set_cons_succ])
    first | (refine Reg.G_step (i := 7) rfl (by kernel_rfl) (by rfl) (fun K hK => ?_); go_big_quiet_op; refine hK _ ?_; clear hK K) | (refine Reg.G_skip (i := 7) rfl (by kernel_rfl) (by rfl) ?_; simp only [Act.put, List.setIfInBounds_toArray, List.set_cons_zero, List.set_cons_succ])
    first | (refine Reg.G_step (i := 8) rfl (by kernel_rfl) (by rfl) (fun K hK => ?_); go_big_quiet_op; refine hK _ ?_; clear hK K) | (refine Reg.G_skip (i := 8) rfl (by kernel_rfl) (by rfl) ?_; simp only [Act.put, List.setIfInBounds_toArray, List.set_cons_zero, List.set_cons_succ])
    first | (refine Reg.G_step (i := 9) rfl (by kernel_rfl) (by rfl) (fun K hK => ?_); go_big_quiet_op; refine hK _ ?_; clear hK K) | (refine Reg.G_skip (i := 9) rfl (by kernel_rfl) (by rfl) ?_; simp only [Act.put, List.setIfInBounds_toArray, List.set_cons_zero, List.set_cons_succ])
    first | (refine Reg.G_step (i := 10) rfl (by kernel_rfl) (by rfl) (fun K hK => ?_); go_big_quiet_op; refine hK _ ?_; clear hK K) | (refine Reg.G_skip (i := 10) rfl (by kernel_rfl) (by rfl) ?_; simp only [Act.put, List.setIfInBounds_toArray, List.set_cons_zero, List.set_cons_succ])
    refine Reg.G_event (i := 2) rfl (by kernel_rfl) (by rfl) (fun K hK => ?_)
    go_simp
    refine (HPn.out _).mono ?_
    rintro e v0 ⟨A1, c1, rfl, hs1, _, hv0⟩
    refine hK _ _ hv0 ?_
    clear hK K x0 x1 x2
    have hw0 := bt hW hv0
    refine Reg.G_event (i := 6) rfl (by kernel_rfl) (by rfl) (fun K hK => ?_)
    go_simp
    refine (HPv1.out _).mono ?_
    rintro e v1 ⟨A2, c2, rfl, hs2, _, hv1⟩
    refine hK _ _ hv1 ?_
    clear hK K
    have hw1 := bt hw0 hv1
    refine Reg.G_event (i := 11) rfl (by kernel_rfl) (by rfl) (fun K hK => ?_)
    go_simp
    refine (HPl.out _).mono ?_
    rintro e v2 ⟨A3, c3, rfl, hs3, _, hv2⟩
    refine hK _ _ hv2 ?_
    clear hK K
    have hw2 := bt hw1 hv2
    refine Reg.G_event (i := 12) rfl (by kernel_rfl) (by rfl) (fun K hK => ?_)
    go_simp
    have hall : IsL (fun _ => True) (v2.alloc (.cells #[.slice A1 (pn nm).length c1, .slice A2 (putL v.toNat).length c2, .slice A3 (putL n).length c3] 25)) (some ⟨v2.heap.size, 0, none⟩) 3 [pn nm, putL v.toNat, putL n] := by
      have ha := (Below.refl v2.heap.size v2).alloc (Nat.le_refl _) (.cells #[.slice A1 (pn nm).length c1, .slice A2 (putL v.toNat).length c2, .slice A3 (putL n).length c3] 25)
      refine ⟨⟨_, isRow_new v2 [.slice A1 (pn nm).length c1, .slice A2 (putL v.toNat).length c2, .slice A3 (putL n).length c3], ?_, ?_, ?_, trivial⟩, Nat.le_refl _, (fun h => by cases h), by decide⟩
      · exact (el_any (hs1.kept (bt hv1 hv2))).kept ha
      · exact (el_any (hs2.kept hv2)).kept ha
      · exact (el_any hs3).kept ha
    have hflat : ([pn nm, putL v.toNat, putL n] : List (List Int)).flatten = P := by
      rw [HPre.out, ← HN.out]
      simp
    have hPlen : P.length ≤ 200 := by
      have h := HpS.out 0 (Nat.zero_le _)
      rw [List.length_append] at h
      omega
    have hcc := Std.Concat_any _ _ _ _ hall (by rw [hflat]; omega)
    have hw3 := bt hw2 ((Below.refl v2.heap.size v2).alloc (Nat.le_refl _) (.cells #[.slice A1 (pn nm).length c1, .slice A2 (putL v.toNat).length c2, .slice A3 (putL n).length c3] 25))
    rw [hflat] at hcc
    have HCc := Lib.hid hcc
    have HFl := Lib.hid hflat
    clear hcc hflat hall
    refine hK _ _ ((Below.refl v2.heap.size v2).alloc (Nat.le_refl _) _) ?_
    clear hK K
    refine Reg.G_event (i := 13) rfl (by kernel_rfl) (by rfl) (fun K hK => ?_)
    go_simp
    refine HCc.out.mono ?_
    rintro e v3 ⟨u, rfl, hown, hv3⟩
    refine hK _ _ hv3 ?_
    clear hK K
    first | (refine Reg.G_step (i := 14) rfl (by kernel_rfl) (by rfl) (fun K hK => ?_); go_big_quiet_op; refine hK _ ?_; clear hK K) | (refine Reg.G_skip (i := 14) rfl (by kernel_rfl) (by rfl) ?_; simp only [Act.put, List.setIfInBounds_toArray, List.set_cons_zero, List.set_cons_succ])
    refine Reg.G_done (by kernel_rfl) ?_
    have HB3 := Lib.hid (bt HB1.out (bt hw3 hv3))
    have HX3 := Lib.hid (HX1.out.kept (bt hw3 hv3))
    have HO3 := Lib.hid (own_low hown (Nat.le_trans HB1.out.size hw3.size))
    clear hown hv3 hw3 hw2 hw1 hw0 hv2 hv1 hv0 hs1 hs2 hs3 HX2 HX1 HB1 HCc HPn HPv1 HPl hW
    obtain ⟨⟨p0, p1, p2⟩, _⟩ := HX3.out
    go_wp2_with fail
    clear p0 p1 p2
    go_loopw [4, 27] (fun u i wr => ∃ (j k : Nat), i = .int .i64 j ∧ j ≤ n ∧ k = (P ++ pfs (l.take j)).length ∧ wr.ownsRow w.heap.size 5 1 u k (cs (P ++ pfs (l.take j))) ∧ Below w.heap.size w wr) (fun _ i _ => n - (intOf i).toNat)
    case atStart => exact ⟨0, P.length, rfl, Nat.zero_le _, by simp [pfs], by simpa [pfs] using HO3.out, HB3.out⟩
    case round =>
      obtain ⟨j, k, rfl, hj, hk, hown, hbel⟩ := hrel
      have hk2 := HpS.out j hj
      rw [← hk] at hk2
      have HO := Lib.hid hown
      have HK := Lib.hid hk
      have HBl := Lib.hid hbel
      clear hown hk hbel
      by_cases hjn : j < n
      · obtain ⟨b, q, hix, hc, hsz⟩ := HS.out.at j (by rw [← HN.out]; exact hjn)
        have hfok := HOk.out _ (getD_mem (l := l) (i := j) (by rw [← HN.out]; exact hjn))
        have hsn := take_snocF (l := l) (j := j) (by rw [← HN.out]; exact hjn)
        have hk3 := HpS.out (j + 1) hjn
        rw [hsn, pfs_snoc] at hk3
        obtain ⟨⟨fs, fk⟩, hf⟩ : ∃ f, f = l.getD j d0 := ⟨_, rfl⟩
        rw [← hf] at hc hfok hsn hk3
        obtain ⟨c0, c1⟩ := hc wr HBl.out
        have hfn := nm_size hfok.1
        have hfk := hfok.2
        simp only at c0 c1 hfn hfk
        have hpl := pn_len hfn.2
        have hi := fun W => hix W n c hjn
        have HPn := Lib.hid (fun W => putName_any fs W (by omega))
        have HSn := Lib.hid hsn
        obtain ⟨⟨p0, p1⟩, _⟩ := bx2_new wr 37 (.string fs) (.int .i64 fk)
        have ha := (Below.refl wr.heap.size wr).alloc (Nat.le_refl _) (.cells #[.string fs, .int .i64 fk] 37)
        have HX := Lib.hid (bx2_new wr 37 (.string fs) (.int .i64 fk))
        have HA := Lib.hid ha
        have hfk3 : fk % 256 = fk := by omega
        clear hc hix hf hfok hsn hk3 ha
        go_wp2_with fail
        refine (HPn.out _).mono ?_
        rintro e w2 ⟨A1, c1', rfl, hs1, _, hb2⟩
        obtain ⟨m, hm⟩ : ∃ m, m = (pn fs).length := ⟨_, rfl⟩
        rw [← hm] at hpl ⊢
        have HM := Lib.hid hm
        have hm13 : m ≤ 13 := by omega
        clear hpl
        have hb3 := bt HA.out hb2
        have HO2 := Lib.hid (RegA.own_below HO.out hb3)
        have HB2 := Lib.hid (bt HBl.out hb3)
        have HX2 := Lib.hid (HX.out.kept hb2)
        have HS1 := Lib.hid hs1
        have hz2 := HB2.out.size
        clear hb2 hb3 hs1 HX p0 p1 hm c0 c1 HPn
        go_wp2_with (at_builtin; refine wp_append_b rfl (.tmp 31) (.tmp 34) rfl w.heap.size _ k _ rfl HO2.out A1 m c1' (pn fs) rfl HM.out.symm HS1.out.1 HS1.out.2.2.1 (by omega) hz2 ?_; intro u3 w3 hown3 hgrow3; refine pause ?_)
        have hB3 : Below w.heap.size w w3 := HB2.out.grown hgrow3 hz2 (fun q hq => (HO2.out.lt q hq).1)
        have hX3 : Bx2 w3 wr.heap.size (.string fs) (.int .i64 fk) := HX2.out.grown hgrow3 (fun h => by have := (HO.out.lt _ h.symm).2; omega)
        have HO3 := Lib.hid hown3
        have HB3 := Lib.hid hB3
        obtain ⟨⟨_, p1⟩, _⟩ := hX3
        have hz3 := hB3.size
        have ha3 := (Below.refl w3.heap.size w3).alloc (Nat.le_refl _) (.cells #[.int .u8 fk] 5)
        have HO3' := Lib.hid (RegA.own_below hown3 ha3)
        have hone := isB_new w3 [fk] (by intro x hx; simp only [List.mem_singleton] at hx; omega)
        have HOne := Lib.hid hone
        have HB3' := Lib.hid (bt hB3 ha3)
        have hz3' := HB3'.out.size
        clear hown3 hgrow3 hB3 ha3 hone HO2 HX2
        unfold Pause
        go_wp2_with (at_builtin; refine wp_append_b rfl (.tmp 36) (.tmp 40) rfl w.heap.size u3 (k + m) _ rfl HO3'.out (some ⟨w3.heap.size, 0, none⟩) 1 1 [fk] rfl rfl HOne.out (fun h => by cases h) (by omega) hz3' ?_; intro u4 w4 hown4 hgrow4; refine pause ?_)
        have hB4 : Below w.heap.size w w4 := HB3'.out.grown hgrow4 hz3' (fun q hq => (HO3'.out.lt q hq).1)
        have he4 : (P ++ pfs (l.take j) ++ pn fs) ++ [fk] = P ++ pfs (l.take (j + 1)) := by
          rw [HSn.out, pfs_snoc, pf]
          simp only [List.append_assoc]
        rw [he4] at hown4
        have HO4 := Lib.hid hown4
        have HB4 := Lib.hid hB4
        have hk4 : k + m + 1 = (P ++ pfs (l.take (j + 1))).length := by
          rw [← he4, List.length_append, List.length_append, ← HM.out, ← HK.out]
          rfl
        have HK4 := Lib.hid hk4
        clear hown4 hgrow4 hB4 he4 hk4
        unfold Pause
        go_wp2_with fail
        go_roundw
        case rel => exact ⟨j + 1, k + m + 1, by go_num, by omega, HK4.out, HO4.out, HB4.out⟩
        case measure => simp [intOf]; omega
      · obtain rfl : j = n := by omega
        have hall : P ++ pfs (l.take j) = pv ⟨nm, v, l⟩ := by
          rw [HPv.out, HN.out, List.take_length, HPre.out]
          rfl
        have hown := HO.out
        rw [hall] at hown
        obtain ⟨A5, c5, rfl, hl5, h5, h6⟩ := own_slB hown (pv_bytes _)
        have HS5 := Lib.hid h5
        have HL5 := Lib.hid hl5
        have H6 := Lib.hid (fun a ha => (h6 a ha).2.1)
        have HD := Lib.hid (decide_eq_true HMay.out)
        clear hall hown h5 h6 hl5
        go_wp2_with fail
        go_ret2
        exact ⟨A5, c5, ret_v (x := .tuple #[.slice A5 (pv ⟨nm, v, l⟩).length c5, .bool true]) (by rw [HD.out]), HS5.out, H6.out, HBl.out⟩
  · have hpv : pv s = [] := by rw [pv, if_neg hmay]
    simp only [decide_eq_false hmay] at hm1
    have HPv := Lib.hid hpv
    have HD := Lib.hid (decide_eq_false hmay)
    obtain ⟨n, hn⟩ : ∃ n, n = s.f.length := ⟨_, rfl⟩
    simp only [← hn] at hm1
    rw [← hn]
    have HM1 := Lib.hid hm1
    have hX0 := bx_new_t w 24 (.string s.s) (.int .i64 s.v) (.slice A n c)
    have HB0 := Lib.hid ((Below.refl w.heap.size w).alloc (Nat.le_refl _) (.cells #[.string s.s, .int .i64 s.v, .slice A n c] 24))
    clear hn hm1 hpv hmay hz hS hl
    obtain ⟨⟨p0, p1, p2⟩, _⟩ := hX0
    go_enter Try.func12, Try.ntmps12
    go_wp2_with fail
    refine (HM1.out _ HB0.out).mono ?_
    rintro e w1 ⟨rfl, hb1⟩
    have HB1 := Lib.hid (bt HB0.out hb1)
    clear hb1 HB0 p0 p1 p2 HM1
    go_wp2_with fail
    go_ret2
    exact ⟨none, 0, ret_v (by rw [HD.out, HPv.out]; rfl), by rw [HPv.out]; exact slB_none _, (fun a ha => by cases ha), HB1.out⟩
end Go.Proofs.Ytjbpacciaeifaaa.Sc
