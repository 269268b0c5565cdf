/- Text and Put of the document's answers; asked: the fields lie where the slice says. -/
import Derived.Test.YtjbpacciaeifaaaSchemaPut
import Derived.Test.YtjbpacciaeifaaaSchemaRefMay
import Derived.Test.YtjbpacciaeifaaaLeRefs
namespace Go.Proofs.Ytjbpacciaeifaaa.Sc
open Go.RowKit Go.Proofs.Ytjbpacciaeifaaa.BM Go.Proofs.Ytjbpacciaeifaaa.LM Go.Proofs.Ytjbpacciaeifaaa.LeM Go.Proofs.Ytjbpacciaeifaaa.VaM Go.Proofs.Ytjbpacciaeifaaa.Va Go.Proofs.Ytjbpacciaeifaaa.ScM

theorem refPut_sl (n : Nat) (w : World) (hn : n < 18446744073709551616) : Calls Try.prog 28 #[.int .u64 n] w (PutSl n w) := (LeG.refPut_any n w hn).mono fun _ _ h => putSl_of h

set_option maxRecDepth 100000 in
theorem refText_any (s : ByteArray) (w : World) (hs : s.size ≤ 100000) : Calls Try.prog 27 #[.string s] w (Bys (pn s) w) := by
  have HP := Lib.hid (fun W => refPut_sl s.size W (by omega))
  have hl := putL_len64 (n := s.size) (by omega)
  obtain ⟨L, hL⟩ : ∃ L, L = (putL s.size).length := ⟨_, rfl⟩
  rw [← hL] at hl
  have HL := Lib.hid hL
  clear hL
  go_enter Try.func27, Try.ntmps27
  go_wp2_with fail
  refine (HP.out _).mono ?_
  rintro e w1 ⟨A, c, rfl, _, hown, hb⟩
  rw [← HL.out] at hown ⊢
  have HO := Lib.hid hown
  have HB := Lib.hid hb
  have hz := hb.size
  clear hown hb HP
  go_wp2_with (at_builtin; refine wp_append_s rfl (.tmp 6) (.tmp 7) 9 (by kernel_rfl) rfl w.heap.size _ L (putL s.size) rfl HO.out s rfl (by omega) (by omega) ?_; intro v1 w2 hown2 hgrow2; refine pause ?_)
  have hB2 : Below w.heap.size w w2 := HB.out.grown hgrow2 (by omega) (fun q hq => (HO.out.lt q hq).1)
  obtain ⟨A2, c2, rfl, hl2, h2, _⟩ := own_slB hown2 (pn_bytes s)
  have HO2 := Lib.hid hown2
  have HS := Lib.hid h2
  have HB2 := Lib.hid hB2
  have HL2 := Lib.hid hl2
  clear h2 hB2 hown2 hgrow2 hl2
  unfold Pause
  go_wp2_with fail
  go_ret
  refine ⟨A2, c2, rfl, HS.out, ?_, HB2.out⟩
  have h := HO2.out
  rw [HL2.out] at h
  exact h

set_option maxRecDepth 100000 in
set_option maxHeartbeats 4000000 in
theorem refPut_any (s : Sc) (A : Option Addr) (c : Nat) (w : World) (hS : SlF w A s.f c) (hz : Fine s) :
    Calls Try.prog 13 #[.agg #[.string s.s, .int .i64 s.v, .slice A s.f.length c]] w (Putted s w) := by
  have hm1 := fun W (hW : Below w.heap.size w W) => refMay_any s A c W (hS.kept hW) hz
  have hl := slF_len hS
  have HS := Lib.hid hS
  by_cases hmay : May s
  · have HMay := Lib.hid hmay
    have hpv : pv s = pS s := by rw [pv, if_pos hmay]
    have hnm := nm_size hmay.1
    have hv1 := hmay.2.1
    have hv2 := hmay.2.2.1
    have hl6 := hmay.2.2.2.1
    have hok : ∀ f ∈ s.f, FOk f := fun f hf => hmay.fok hf
    simp only [decide_eq_true hmay] at hm1
    have HPv := Lib.hid hpv
    have HOk := Lib.hid hok
    clear hz hpv hmay hok hS
    obtain ⟨nm, v, l⟩ := s
    have hpS : ∀ j, j ≤ l.length → ((pn nm ++ (putL v.toNat ++ putL l.length)) ++ pfs (l.take j)).length ≤ 200 := fun j hj => by
      have h1 := pfs_len (l := l.take j) (fun f hf => HOk.out f (List.mem_of_mem_take hf))
      have h2 := putL_len64 (n := v.toNat) (by simp only at hv2; omega)
      have h3 := putL_len64 (n := l.length) (by simp only at hl6; omega)
      have h4 := pn_len hnm.2
      simp only at h1 h4 hnm hl6
      rw [List.length_take] at h1
      simp only [List.length_append]
      omega
    simp only at hm1 HS hl hnm hv1 hv2 hl6 HOk ⊢
    have HPn := Lib.hid (fun W => refText_any nm W (by omega))
    have HPv1 := Lib.hid (fun W => refPut_sl v.toNat W (by omega))
    have HPl := Lib.hid (fun W => refPut_sl l.length W (by omega))
    have hvn : ((v.toNat : Nat) : Int) = v := by omega
    rw [hvn] at HPv1
    obtain ⟨P, hP⟩ : ∃ P, P = pn nm ++ (putL v.toNat ++ putL l.length) := ⟨_, rfl⟩
    rw [← hP] at hpS
    have hPlen : P.length ≤ 200 := by
      have h := hpS 0 (Nat.zero_le _)
      rw [List.length_append] at h
      omega
    have HPre := Lib.hid hP
    have HpS := Lib.hid hpS
    obtain ⟨n, hn⟩ : ∃ n, n = l.length := ⟨_, rfl⟩
    rw [← hn] at HPre
    simp only [← hn] at hm1 HPl
    rw [← hn] at hl hl6 HpS ⊢
    have HN := Lib.hid hn
    have HM1 := Lib.hid hm1
    have HX0 := Lib.hid (bx_new_t w 24 (.string nm) (.int .i64 v) (.slice A n c))
    have HB0 := Lib.hid ((Below.refl w.heap.size w).alloc (Nat.le_refl _) (.cells #[.string nm, .int .i64 v, .slice A n c] 24))
    clear hn hm1 hpS hP hvn
    have hq1 : (pn nm).length + ((putL v.toNat).length + (putL n).length) ≤ 200 := by
      have h := hPlen
      rw [HPre.out, List.length_append, List.length_append] at h
      exact h
    obtain ⟨m1, hm1⟩ : ∃ m, m = (pn nm).length := ⟨_, rfl⟩
    obtain ⟨m2, hm2⟩ : ∃ m, m = (putL v.toNat).length := ⟨_, rfl⟩
    obtain ⟨m3, hm3⟩ : ∃ m, m = (putL n).length := ⟨_, rfl⟩
    rw [← hm1, ← hm2, ← hm3] at hq1
    have HM1' := Lib.hid hm1
    have HM2' := Lib.hid hm2
    have HM3' := Lib.hid hm3
    clear hm1 hm2 hm3 hPlen
    obtain ⟨⟨p0, p1, p2⟩, _⟩ := HX0.out
    go_enter Try.func13, Try.ntmps13
    go_wp2_with fail
    refine (HM1.out _ HB0.out).mono ?_
    rintro e w1 ⟨rfl, hb1⟩
    have HB1 := Lib.hid (bt HB0.out hb1)
    have HX1 := Lib.hid (HX0.out.kept hb1)
    clear hb1 HB0 HX0 p0 p1 p2 HM1
    obtain ⟨⟨p0, p1, p2⟩, _⟩ := HX1.out
    go_wp2_with fail
    refine (HPn.out _).mono ?_
    rintro e w2 ⟨A1, c1, rfl, _, hown, hb2⟩
    rw [← HM1'.out] at hown ⊢
    have HO2 := Lib.hid hown
    have HB2 := Lib.hid hb2
    have hz1 := HB1.out.size
    clear hown hb2 p0 p1 p2 HPn
    obtain ⟨⟨p0, p1, p2⟩, _⟩ := HX1.out.kept HB2.out
    go_wp2_with fail
    refine (HPv1.out _).mono ?_
    rintro e w3 ⟨A2, c2, rfl, hs3, _, hb3⟩
    rw [← HM2'.out]
    have HO3 := Lib.hid (RegA.own_below HO2.out hb3)
    have HB3 := Lib.hid (bt HB2.out hb3)
    have HS3 := Lib.hid hs3
    have hz3 := HB3.out.size
    clear hs3 hb3 HB2 HO2 p0 p1 p2 HPv1
    go_wp2_with (at_builtin; refine wp_append_b rfl (.tmp 14) (.tmp 18) rfl w1.heap.size _ m1 _ rfl HO3.out A2 m2 c2 (putL v.toNat) rfl HM2'.out.symm HS3.out.1 HS3.out.2.2.1 (by omega) hz3 ?_; intro u4 w4 hown4 hgrow4; refine pause ?_)
    have hB4 : Below w1.heap.size w1 w4 := HB3.out.grown hgrow4 hz3 (fun q hq => (HO3.out.lt q hq).1)
    have HO4 := Lib.hid hown4
    have HB4 := Lib.hid hB4
    clear hown4 hgrow4 hB4 HO3 HS3
    unfold Pause
    obtain ⟨⟨p0, p1, p2⟩, _⟩ := HX1.out.kept HB4.out
    go_wp2_with fail
    refine (HPl.out _).mono ?_
    rintro e w5 ⟨A3, c3, rfl, hs5, _, hb5⟩
    rw [← HM3'.out]
    have HO5 := Lib.hid (RegA.own_below HO4.out hb5)
    have HB5 := Lib.hid (bt HB4.out hb5)
    have HS5 := Lib.hid hs5
    have hz5 := HB5.out.size
    clear hs5 hb5 HB4 HO4 p0 p1 p2 HPl
    go_wp2_with (at_builtin; refine wp_append_b rfl (.tmp 20) (.tmp 25) rfl w1.heap.size u4 (m1 + m2) _ rfl HO5.out A3 m3 c3 (putL n) rfl HM3'.out.symm HS5.out.1 HS5.out.2.2.1 (by omega) hz5 ?_; intro u6 w6 hown6 hgrow6; refine pause ?_)
    have hB6 : Below w1.heap.size w1 w6 := HB5.out.grown hgrow6 hz5 (fun q hq => (HO5.out.lt q hq).1)
    have he6 : pn nm ++ putL v.toNat ++ putL n = P := by rw [HPre.out, List.append_assoc]
    rw [he6] at hown6
    have HO6 := Lib.hid hown6
    have HB6 := Lib.hid hB6
    have hk6 : m1 + m2 + m3 = P.length := by rw [← he6, List.length_append, List.length_append, ← HM1'.out, ← HM2'.out, ← HM3'.out]
    have HK6 := Lib.hid hk6
    clear hown6 hgrow6 hB6 HO5 HS5 he6 hk6
    unfold Pause
    go_wp2_with fail
    go_loopw [5, 6] (fun u i wr => ∃ (j k : Nat), i = .int .i64 j ∧ j ≤ n ∧ k = (P ++ pfs (l.take j)).length ∧ wr.ownsRow w1.heap.size 5 1 u k (cs (P ++ pfs (l.take j))) ∧ Below w1.heap.size w1 wr) (fun _ i _ => n - (intOf i).toNat)
    case atStart => exact ⟨0, m1 + m2 + m3, rfl, Nat.zero_le _, by simpa [pfs] using HK6.out, by simpa [pfs] using HO6.out, HB6.out⟩
    case round =>
      obtain ⟨j, k, rfl, hj, hk, hown, hbel⟩ := hrel
      have hk2 := HpS.out j hj
      rw [← hk] at hk2
      have HO := Lib.hid hown
      have HK := Lib.hid hk
      have HBl := Lib.hid hbel
      clear hown hk hbel HO6 HB6
      obtain ⟨⟨_, _, p2⟩, _⟩ := HX1.out.kept HBl.out
      by_cases hjn : j < n
      · obtain ⟨b, q, hix, hc, hsz⟩ := HS.out.at j (by rw [← HN.out]; exact hjn)
        have hfok := HOk.out _ (getD_mem (l := l) (i := j) (by rw [← HN.out]; exact hjn))
        have hsn := take_snocF (l := l) (j := j) (by rw [← HN.out]; exact hjn)
        obtain ⟨⟨fs, fk⟩, hf⟩ : ∃ f, f = l.getD j d0 := ⟨_, rfl⟩
        rw [← hf] at hc hfok hsn
        obtain ⟨c0, _⟩ := hc wr (bt HB1.out HBl.out)
        have hfn := nm_size hfok.1
        have hfk := hfok.2
        simp only at c0 hfn hfk
        have hpl := pn_len hfn.2
        have hi := fun W => hix W n c hjn
        have HPn := Lib.hid (fun W => refText_any fs W (by omega))
        have HSn := Lib.hid hsn
        have HC := Lib.hid hc
        have hfk3 : fk % 256 = fk := by omega
        clear hc hix hf hfok hsn
        go_wp2_with fail
        refine (HPn.out _).mono ?_
        rintro e w2 ⟨A1, c1', rfl, hs1, _, hb2⟩
        obtain ⟨m, hm⟩ : ∃ m, m = (pn fs).length := ⟨_, rfl⟩
        rw [← hm] at hpl ⊢
        have HM := Lib.hid hm
        have hm13 : m ≤ 13 := by omega
        have HO2 := Lib.hid (RegA.own_below HO.out hb2)
        have HB2 := Lib.hid (bt HBl.out hb2)
        have HS1 := Lib.hid hs1
        have hz2 := HB2.out.size
        clear hb2 hs1 hm c0 HPn hpl p2
        go_wp2_with (at_builtin; refine wp_append_b rfl (.tmp 34) (.tmp 41) rfl w1.heap.size _ k _ rfl HO2.out A1 m c1' (pn fs) rfl HM.out.symm HS1.out.1 HS1.out.2.2.1 (by omega) hz2 ?_; intro u3 w3 hown3 hgrow3; refine pause ?_)
        have hB3 : Below w1.heap.size w1 w3 := HB2.out.grown hgrow3 hz2 (fun q hq => (HO2.out.lt q hq).1)
        have HO3 := Lib.hid hown3
        have HB3 := Lib.hid hB3
        obtain ⟨⟨_, _, p2⟩, _⟩ := HX1.out.kept HB3.out
        obtain ⟨_, c1⟩ := HC.out w3 (bt HB1.out HB3.out)
        simp only at c1
        have hz3 := hB3.size
        have ha3 := (Below.refl w3.heap.size w3).alloc (Nat.le_refl _) (.cells #[.int .u8 fk] 5)
        have HO3' := Lib.hid (RegA.own_below hown3 ha3)
        have hone := isB_new w3 [fk] (by intro x hx; simp only [List.mem_singleton] at hx; omega)
        have HOne := Lib.hid hone
        have HB3' := Lib.hid (bt hB3 ha3)
        have hz3' := HB3'.out.size
        clear hown3 hgrow3 hB3 ha3 hone HO2
        unfold Pause
        go_wp2_with (at_builtin; refine wp_append_b rfl (.tmp 43) (.tmp 51) rfl w1.heap.size u3 (k + m) _ rfl HO3'.out (some ⟨w3.heap.size, 0, none⟩) 1 1 [fk] rfl rfl HOne.out (fun h => by cases h) (by omega) hz3' ?_; intro u4 w4 hown4 hgrow4; refine pause ?_)
        have hB4 : Below w1.heap.size w1 w4 := HB3'.out.grown hgrow4 hz3' (fun q hq => (HO3'.out.lt q hq).1)
        have he4 : (P ++ pfs (l.take j) ++ pn fs) ++ [fk] = P ++ pfs (l.take (j + 1)) := by
          rw [HSn.out, pfs_snoc, pf]
          simp only [List.append_assoc]
        rw [he4] at hown4
        have HO4 := Lib.hid hown4
        have HB4 := Lib.hid hB4
        have hk4 : k + m + 1 = (P ++ pfs (l.take (j + 1))).length := by
          rw [← he4, List.length_append, List.length_append, ← HM.out, ← HK.out]
          rfl
        have HK4 := Lib.hid hk4
        clear hown4 hgrow4 hB4 he4 hk4 p2 c1
        unfold Pause
        go_wp2_with fail
        go_roundw
        case rel => exact ⟨j + 1, k + m + 1, by go_num, by omega, HK4.out, HO4.out, HB4.out⟩
        case measure => simp [intOf]; omega
      · obtain rfl : j = n := by omega
        have hall : P ++ pfs (l.take j) = pv ⟨nm, v, l⟩ := by
          rw [HPv.out, HN.out, List.take_length, HPre.out, HN.out]
          rfl
        have hown := HO.out
        rw [hall] at hown
        obtain ⟨A5, c5, rfl, hl5, h5, h6⟩ := own_slB hown (pv_bytes _)
        have HS5 := Lib.hid h5
        have H6 := Lib.hid (fun a ha => Nat.le_trans hz1 (h6 a ha).2.1)
        have HD := Lib.hid (decide_eq_true HMay.out)
        clear hall hown h5 h6 hl5
        go_wp2_with fail
        go_ret2
        exact ⟨A5, c5, ret_v (x := .tuple #[.slice A5 (pv ⟨nm, v, l⟩).length c5, .bool true]) (by rw [HD.out]), HS5.out, H6.out, bt HB1.out HBl.out⟩
  · have hpv : pv s = [] := by rw [pv, if_neg hmay]
    simp only [decide_eq_false hmay] at hm1
    have HPv := Lib.hid hpv
    have HD := Lib.hid (decide_eq_false hmay)
    obtain ⟨n, hn⟩ : ∃ n, n = s.f.length := ⟨_, rfl⟩
    simp only [← hn] at hm1
    rw [← hn]
    have HM1 := Lib.hid hm1
    have hX0 := bx_new_t w 24 (.string s.s) (.int .i64 s.v) (.slice A n c)
    have HB0 := Lib.hid ((Below.refl w.heap.size w).alloc (Nat.le_refl _) (.cells #[.string s.s, .int .i64 s.v, .slice A n c] 24))
    clear hn hm1 hpv hmay hz hS hl
    obtain ⟨⟨p0, p1, p2⟩, _⟩ := hX0
    go_enter Try.func13, Try.ntmps13
    go_wp2_with fail
    refine (HM1.out _ HB0.out).mono ?_
    rintro e w1 ⟨rfl, hb1⟩
    have HB1 := Lib.hid (bt HB0.out hb1)
    clear hb1 HB0 p0 p1 p2 HM1
    go_wp2_with fail
    go_ret2
    exact ⟨none, 0, ret_v (by rw [HD.out, HPv.out]; rfl), by rw [HPv.out]; exact slB_none _, (fun a ha => by cases ha), HB1.out⟩
end Go.Proofs.Ytjbpacciaeifaaa.Sc
