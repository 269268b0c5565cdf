/- Put of the program: an event's bytes; asked: the values lie where the slice says. -/
import Derived.Test.YtbakhodijhacoaaEventMay
import Derived.Test.YtbakhodijhacoaaBys
import Derived.Test.YtbakhodijhacoaaRegAppendS
import Derived.Test.YtbakhodijhacoaaValuePut
namespace Go.Proofs.Ytbakhodijhacoaa.Ev
open Go.RowKit Go.Proofs.Ytbakhodijhacoaa.BM Go.Proofs.Ytbakhodijhacoaa.LM Go.Proofs.Ytbakhodijhacoaa.LeM Go.Proofs.Ytbakhodijhacoaa.EvM
open Go.Proofs.Ytbakhodijhacoaa.VaM (V Rng bl bl_bytes bl_len putV putV_len putV_bytes)
open Go.Proofs.Ytbakhodijhacoaa.Va (SlV slV_len slV_none bx_new_t Bx CellV ret_v Put_sl PutSl)
open Go.Proofs.Ytbakhodijhacoaa.Sc (own_low own_row)
open Go.Proofs.Ytbakhodijhacoaa.ScM (Nm nm_size pn pn_bytes pn_len)

/-- What Put leaves. -/
def Putted (e : Ev) (w : World) : Ending → World → Prop := fun r w' => ∃ A c, r = .returned (.tuple #[.slice A (pv e).length c, .bool (decide (May e))]) ∧ SlB w' A (pv e) c ∧ (∀ a, A = some a → w.heap.size ≤ a.block) ∧ Below w.heap.size w w'

theorem take_snocV {l : List V} {j : Nat} (hj : j < l.length) : l.take (j + 1) = l.take j ++ [l.getD j v0] := by
  rw [List.take_succ_eq_append_getElem hj]
  simp [List.getD_eq_getElem?_getD, hj]

theorem pvV {x : V} (h : VaM.May x) : VaM.pv x = putV x := by rw [VaM.pv, if_pos h]

/-- The first j values behind the head are not many bytes. -/
theorem head_len {nm : ByteArray} {t : Int} {l : List V} (hm : May ⟨nm, t, l⟩) (hr : Rngs l) (j : Nat) (hj : j ≤ l.length) :
    ((pn nm ++ (putL t.toNat ++ putL l.length)) ++ pvs (l.take j)).length ≤ 400 ∧ (pn nm).length ≤ 13 ∧ (putL t.toNat).length ≤ 10 ∧ (putL l.length).length ≤ 10 := by
  have h0 := nm_size hm.1
  have h2 := putL_len64 (n := t.toNat) (by have := hm.2.2.1; simp only at this; omega)
  have h3 := putL_len64 (n := l.length) (by have := hm.2.2.2.1; simp only at this; omega)
  have h4 := pn_len h0.2
  have h1 := pvs_len (l := l.take j) (fun x hx => hm.vok (List.mem_of_mem_take hx)) (fun x hx => hr x (List.mem_of_mem_take hx))
  have h5 := hm.2.2.2.1
  simp only at h0 h4 h5
  rw [List.length_take] at h1
  simp only [List.length_append]
  omega

set_option maxRecDepth 100000 in
set_option maxHeartbeats 4000000 in
theorem Put_any (e : Ev) (A : Option Addr) (c : Nat) (w : World) (hS : SlV w A e.v c) (hz : Fine e) :
    Calls Try.prog 12 #[.agg #[.string e.s, .int .i64 e.t, .slice A e.v.length c]] w (Putted e w) := by
  have hm1 := fun W (hW : Below w.heap.size w W) => May_any e A c W (hS.kept hW) hz
  have hl := slV_len hS
  have hrng : Rngs e.v := fun x hx => (hS.2 x hx).2
  have HS := Lib.hid hS
  by_cases hmay : May e
  · have HMay := Lib.hid hmay
    have HRng := Lib.hid hrng
    have hpv : pv e = pE e := by rw [pv, if_pos hmay]
    have hnm := nm_size hmay.1
    have ht1 := hmay.2.1
    have ht2 := hmay.2.2.1
    have hl6 := hmay.2.2.2.1
    have hok : ∀ x ∈ e.v, VaM.May x := fun x hx => hmay.vok hx
    simp only [decide_eq_true hmay] at hm1
    have HPv := Lib.hid hpv
    have HOk := Lib.hid hok
    clear hz hpv hok hS
    obtain ⟨nm, t, l⟩ := e
    have hpS := fun j hj => head_len hmay hrng j hj
    simp only at hm1 HS hl hnm ht1 ht2 hl6 HOk hpS ⊢
    clear hmay hrng
    have HPn := Lib.hid (fun W => Put_sl nm.size W (by omega))
    have HPt := Lib.hid (fun W => Put_sl t.toNat W (by omega))
    have HPl := Lib.hid (fun W => Put_sl l.length W (by omega))
    have htn : ((t.toNat : Nat) : Int) = t := by omega
    rw [htn] at HPt
    have hpn : pn nm = putL nm.size ++ bl nm := rfl
    obtain ⟨P, hP⟩ : ∃ P, P = pn nm ++ (putL t.toNat ++ putL l.length) := ⟨_, rfl⟩
    rw [← hP] at hpS
    have hPlen : P.length ≤ 400 := by
      have h := (hpS 0 (Nat.zero_le _)).1
      rw [List.length_append] at h
      omega
    obtain ⟨_, hq1, hq2, hq3⟩ := hpS 0 (Nat.zero_le _)
    have HPre := Lib.hid hP
    have HpS := Lib.hid (fun j hj => (hpS j hj).1)
    obtain ⟨n, hn⟩ : ∃ n, n = l.length := ⟨_, rfl⟩
    rw [← hn] at HPre hq3
    simp only [← hn] at hm1 HPl
    rw [← hn] at hl hl6 HpS ⊢
    have HN := Lib.hid hn
    have HM1 := Lib.hid hm1
    have HX0 := Lib.hid (bx_new_t w 27 (.string nm) (.int .i64 t) (.slice A n c))
    have HB0 := Lib.hid ((Below.refl w.heap.size w).alloc (Nat.le_refl _) (.cells #[.string nm, .int .i64 t, .slice A n c] 27))
    have hbl := bl_len nm
    obtain ⟨m1, hm1'⟩ : ∃ m, m = (putL nm.size).length := ⟨_, rfl⟩
    obtain ⟨m2, hm2⟩ : ∃ m, m = (putL t.toNat).length := ⟨_, rfl⟩
    obtain ⟨m3, hm3⟩ : ∃ m, m = (putL n).length := ⟨_, rfl⟩
    have hq1' : m1 + nm.size ≤ 13 := by rw [hpn, List.length_append, hbl, ← hm1'] at hq1; exact hq1
    rw [← hm2] at hq2
    rw [← hm3] at hq3
    have HM1' := Lib.hid hm1'
    have HM2' := Lib.hid hm2
    have HM3' := Lib.hid hm3
    have HPnm := Lib.hid hpn
    have HBl := Lib.hid hbl
    clear hn hm1 hpS hP htn hm1' hm2 hm3 hpn hbl hq1
    obtain ⟨⟨p0, p1, p2⟩, _⟩ := HX0.out
    go_enter Try.func12, Try.ntmps12
    go_wp2_with fail
    refine (HM1.out _ HB0.out).mono ?_
    rintro e w1 ⟨rfl, hb1⟩
    have HB1 := Lib.hid (bt HB0.out hb1)
    have HX1 := Lib.hid (HX0.out.kept hb1)
    clear hb1 HB0 HX0 p0 p1 p2 HM1
    go_wp2_with fail
    have hsz0 := HB1.out.size
    refine RegB.GS_start (fun x => Below w1.heap.size w1 x) (by kernel_rfl) (by repeat (first | exact Reg.frameless_bodyPost | refine Reg.frameless_then ?_ | refine Reg.frameless_inBlock ?_)) (fun W hW => hW) (fun W hW => ?_)
    have HW := Lib.hid hW
    have x0 : ∀ x : RegB.At (fun x => Below w1.heap.size w1 x), x.world.cell? ⟨w.heap.size, 0, none⟩ = some (.string nm) := fun x => (HX1.out.kept x.ok).1.1
    haveI : Nonempty (RegB.At (fun x => Below w1.heap.size w1 x)) := ⟨⟨W, hW⟩⟩
    clear hW
    first | (refine RegB.GS_step (i := 0) rfl (by kernel_rfl) (by rfl) (fun K hK => ?_); go_big_quiet_op; refine hK _ ?_; clear hK K)
    first | (refine RegB.GS_step (i := 1) rfl (by kernel_rfl) (by rfl) (fun K hK => ?_); go_big_quiet_op; refine hK _ ?_; clear hK K)
    first | (refine RegB.GS_step (i := 2) rfl (by kernel_rfl) (by rfl) (fun K hK => ?_); go_big_quiet_op; refine hK _ ?_; clear hK K)
    first | (refine RegB.GS_step (i := 3) rfl (by kernel_rfl) (by rfl) (fun K hK => ?_); go_big_quiet_op; refine hK _ ?_; clear hK K)
    first | (refine RegB.GS_step (i := 5) rfl (by kernel_rfl) (by rfl) (fun K hK => ?_); go_big_quiet_op; refine hK _ ?_; clear hK K)
    first | (refine RegB.GS_step (i := 6) rfl (by kernel_rfl) (by rfl) (fun K hK => ?_); go_big_quiet_op; refine hK _ ?_; clear hK K)
    refine RegB.GS_event (i := 4) rfl (by kernel_rfl) (by rfl) (fun K hK => ?_)
    go_simp
    refine (HPn.out _).mono ?_
    rintro e w2 ⟨A1, c1, rfl, _, hown, hb2⟩
    rw [← HM1'.out] at hown ⊢
    refine hK _ _ (bt HW.out hb2) ?_
    clear hK K
    have HO2 := Lib.hid (own_low hown HW.out.size)
    have HB2 := Lib.hid (bt HW.out hb2)
    have hz2 := HB2.out.size
    clear hown hb2 HW HPn
    refine RegB.GS_event (i := 7) rfl (by kernel_rfl) (by rfl) (fun K hK => ?_)
    refine RegA.op_append_s (.tmp 16) (.tmp 18) 9 (by kernel_rfl) rfl w1.heap.size _ m1 _ rfl HO2.out nm rfl (by omega) hz2 ?_
    intro u3 w3 hown3 hgrow3
    have hB3 : Below w1.heap.size w1 w3 := HB2.out.grown hgrow3 hz2 (fun q hq => (HO2.out.lt q hq).1)
    refine hK _ _ hB3 ?_
    clear hK K
    simp only [Act.put, List.setIfInBounds_toArray, List.set_cons_zero, List.set_cons_succ]
    first | (refine RegB.GS_step (i := 8) rfl (by kernel_rfl) (by rfl) (fun K hK => ?_); go_big_quiet_op; refine hK _ ?_; clear hK K)
    refine RegB.GS_done (by kernel_rfl) ?_
    rw [← HPnm.out] at hown3
    have HO3 := Lib.hid hown3
    have HB3 := Lib.hid hB3
    have hz3 := hB3.size
    clear hown3 hgrow3 hB3 HO2 HB2 x0
    obtain ⟨⟨p0, p1, p2⟩, _⟩ := HX1.out.kept HB3.out
    go_wp2_with fail
    refine (HPt.out _).mono ?_
    rintro e w4 ⟨A2, c2, rfl, hs4, _, hb4⟩
    rw [← HM2'.out]
    have HO4 := Lib.hid (RegA.own_below HO3.out hb4)
    have HB4 := Lib.hid (bt HB3.out hb4)
    have HS4 := Lib.hid hs4
    have hz4 := HB4.out.size
    clear hs4 hb4 HB3 HO3 p0 p1 p2 HPt
    go_wp2_with (at_builtin; refine wp_append_b rfl (.tmp 20) (.tmp 24) rfl w1.heap.size _ (m1 + nm.size) _ rfl HO4.out A2 m2 c2 (putL t.toNat) rfl HM2'.out.symm HS4.out.1 HS4.out.2.2.1 (by omega) hz4 ?_; intro u5 w5 hown5 hgrow5; refine pause ?_)
    have hB5 : Below w1.heap.size w1 w5 := HB4.out.grown hgrow5 hz4 (fun q hq => (HO4.out.lt q hq).1)
    have HO5 := Lib.hid hown5
    have HB5 := Lib.hid hB5
    clear hown5 hgrow5 hB5 HO4 HS4
    unfold Pause
    obtain ⟨⟨p0, p1, p2⟩, _⟩ := HX1.out.kept HB5.out
    go_wp2_with fail
    refine (HPl.out _).mono ?_
    rintro e w6 ⟨A3, c3, rfl, hs6, _, hb6⟩
    rw [← HM3'.out]
    have HO6 := Lib.hid (RegA.own_below HO5.out hb6)
    have HB6 := Lib.hid (bt HB5.out hb6)
    have HS6 := Lib.hid hs6
    have hz6 := HB6.out.size
    clear hs6 hb6 HB5 HO5 p0 p1 p2 HPl
    go_wp2_with (at_builtin; refine wp_append_b rfl (.tmp 26) (.tmp 31) rfl w1.heap.size u5 (m1 + nm.size + m2) _ rfl HO6.out A3 m3 c3 (putL n) rfl HM3'.out.symm HS6.out.1 HS6.out.2.2.1 (by omega) hz6 ?_; intro u7 w7 hown7 hgrow7; refine pause ?_)
    have hB7 : Below w1.heap.size w1 w7 := HB6.out.grown hgrow7 hz6 (fun q hq => (HO6.out.lt q hq).1)
    have he7 : pn nm ++ putL t.toNat ++ putL n = P := by rw [HPre.out, List.append_assoc]
    rw [he7] at hown7
    have hk7 : m1 + nm.size + m2 + m3 = P.length := by rw [← he7, List.length_append, List.length_append, HPnm.out, List.length_append, HBl.out, ← HM1'.out, ← HM2'.out, ← HM3'.out]
    have HO7 := Lib.hid hown7
    have HB7 := Lib.hid hB7
    have HK7 := Lib.hid hk7
    clear hown7 hgrow7 hB7 HO6 HS6 he7 hk7
    unfold Pause
    obtain ⟨⟨p0, p1, p2⟩, _⟩ := HX1.out.kept HB7.out
    go_wp2_with fail
    clear p0 p1 p2
    go_loopw [4, 36] (fun u i wr => ∃ (j k : Nat), i = .int .i64 j ∧ j ≤ n ∧ k = (P ++ pvs (l.take j)).length ∧ wr.ownsRow w1.heap.size 5 1 u k (cs (P ++ pvs (l.take j))) ∧ Below w1.heap.size w1 wr) (fun _ i _ => n - (intOf i).toNat)
    case atStart => exact ⟨0, m1 + nm.size + m2 + m3, rfl, Nat.zero_le _, by simpa [pvs] using HK7.out, by simpa [pvs] using HO7.out, HB7.out⟩
    case round =>
      obtain ⟨j, k, rfl, hj, hk, hown, hbel⟩ := hrel
      have hk2 := HpS.out j hj
      rw [← hk] at hk2
      have HO := Lib.hid hown
      have HK := Lib.hid hk
      have HBl2 := Lib.hid hbel
      clear hown hk hbel HO7 HB7
      by_cases hjn : j < n
      · obtain ⟨b, q, hix, hc, _, hrg⟩ := HS.out.at v0 j (by rw [← HN.out]; exact hjn)
        have hfok := HOk.out _ (getD_mem (l := l) (i := j) (by rw [← HN.out]; exact hjn))
        have hsn := take_snocV (l := l) (j := j) (by rw [← HN.out]; exact hjn)
        obtain ⟨⟨fk, fn, fs⟩, hf⟩ : ∃ f, f = l.getD j v0 := ⟨_, rfl⟩
        rw [← hf] at hc hfok hsn hrg
        obtain ⟨c0, c1', c2'⟩ := hc wr (bt HB1.out HBl2.out)
        simp only at c0 c1' c2'
        have hpl := (putV_len hfok hrg).2
        have hi := fun W => hix W n c hjn
        have hput := fun W => Va.Put_any fk fn fs W hrg
        have hpp := pvV hfok
        unfold Va.Putted at hput
        rw [hpp, decide_eq_true hfok] at hput
        have HPu := Lib.hid hput
        have HSn := Lib.hid hsn
        have ha2 := (Below.refl wr.heap.size wr).alloc (Nat.le_refl _) (.cells #[.int .i64 fk, .int .i64 fn, .string fs] 44)
        have HO1 := Lib.hid (RegA.own_below HO.out ha2)
        have HB2 := Lib.hid (bt HBl2.out ha2)
        obtain ⟨⟨y0, y1, y2⟩, _⟩ := bx_new_t wr 44 (.int .i64 fk) (.int .i64 fn) (.string fs)
        obtain ⟨m, hm⟩ : ∃ m, m = (putV ⟨fk, fn, fs⟩).length := ⟨_, rfl⟩
        rw [← hm] at hpl
        have HM := Lib.hid hm
        clear hc hix hf hfok hsn hput hpp ha2 hm
        go_wp2_with fail
        refine (HPu.out _).mono ?_
        rintro e w2 ⟨A1, c1, rfl, hs2, _, hb2⟩
        rw [← HM.out]
        have HO2 := Lib.hid (RegA.own_below HO1.out hb2)
        have HB3 := Lib.hid (bt HB2.out hb2)
        have HS2 := Lib.hid hs2
        have hz3 := HB3.out.size
        clear hs2 hb2 c0 c1' c2' y0 y1 y2 HPu HO1 HO
        go_wp2_with (at_builtin; refine wp_append_b rfl (.tmp 45) (.tmp 46) rfl w1.heap.size _ k _ rfl HO2.out A1 m c1 (putV ⟨fk, fn, fs⟩) rfl HM.out.symm HS2.out.1 HS2.out.2.2.1 (by omega) hz3 ?_; intro u4 w4 hown4 hgrow4; refine pause ?_)
        have hB4 : Below w1.heap.size w1 w4 := HB3.out.grown hgrow4 hz3 (fun q hq => (HO2.out.lt q hq).1)
        have he4 : (P ++ pvs (l.take j)) ++ putV ⟨fk, fn, fs⟩ = P ++ pvs (l.take (j + 1)) := by
          rw [HSn.out, pvs_snoc, List.append_assoc]
        rw [he4] at hown4
        have HO4 := Lib.hid hown4
        have HB4 := Lib.hid hB4
        have hk4 : k + m = (P ++ pvs (l.take (j + 1))).length := by
          rw [← he4, List.length_append, ← HM.out, ← HK.out]
        have HK4 := Lib.hid hk4
        clear hown4 hgrow4 hB4 he4 hk4
        unfold Pause
        go_wp2_with fail
        go_roundw
        case rel => exact ⟨j + 1, k + m, by go_num, by omega, HK4.out, HO4.out, HB4.out⟩
        case measure => simp [intOf]; omega
      · obtain rfl : j = n := by omega
        have hall : P ++ pvs (l.take j) = pv ⟨nm, t, l⟩ := by
          rw [HPv.out, HN.out, List.take_length, HPre.out, HN.out]
          rfl
        have hown := HO.out
        rw [hall] at hown
        obtain ⟨A5, c5, rfl, hl5, h5, h6⟩ := own_slB hown (pv_bytes _)
        have HS5 := Lib.hid h5
        have H6 := Lib.hid (fun a ha => Nat.le_trans hsz0 (h6 a ha).2.1)
        have HD := Lib.hid (decide_eq_true HMay.out)
        clear hall hown h5 h6 hl5
        go_wp2_with fail
        go_ret2
        exact ⟨A5, c5, ret_v (x := .tuple #[.slice A5 (pv ⟨nm, t, l⟩).length c5, .bool true]) (by rw [HD.out]), HS5.out, H6.out, bt HB1.out HBl2.out⟩
  · have hpv : pv e = [] := by rw [pv, if_neg hmay]
    simp only [decide_eq_false hmay] at hm1
    have HPv := Lib.hid hpv
    have HD := Lib.hid (decide_eq_false hmay)
    obtain ⟨n, hn⟩ : ∃ n, n = e.v.length := ⟨_, rfl⟩
    simp only [← hn] at hm1
    rw [← hn]
    have HM1 := Lib.hid hm1
    have hX0 := bx_new_t w 27 (.string e.s) (.int .i64 e.t) (.slice A n c)
    have HB0 := Lib.hid ((Below.refl w.heap.size w).alloc (Nat.le_refl _) (.cells #[.string e.s, .int .i64 e.t, .slice A n c] 27))
    clear hn hm1 hpv hmay hz hS hl hrng
    obtain ⟨⟨p0, p1, p2⟩, _⟩ := hX0
    go_enter Try.func12, Try.ntmps12
    go_wp2_with fail
    refine (HM1.out _ HB0.out).mono ?_
    rintro e w1 ⟨rfl, hb1⟩
    have HB1 := Lib.hid (bt HB0.out hb1)
    clear hb1 HB0 p0 p1 p2 HM1
    go_wp2_with fail
    go_ret2
    exact ⟨none, 0, ret_v (by rw [HD.out, HPv.out]; rfl), by rw [HPv.out]; exact slB_none _, (fun a ha => by cases ha), HB1.out⟩
end Go.Proofs.Ytbakhodijhacoaa.Ev
