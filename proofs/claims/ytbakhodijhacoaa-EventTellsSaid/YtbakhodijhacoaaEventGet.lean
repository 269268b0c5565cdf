/- Get of the program: what it answers of any bytes; asked: the slice reads as bytes. -/
import Derived.Test.YtbakhodijhacoaaEventReader
import Derived.Test.YtbakhodijhacoaaEventMay
import Derived.Test.YtbakhodijhacoaaRegionM
import Derived.Test.YtbakhodijhacoaaValueApp
namespace Go.Proofs.Ytbakhodijhacoaa.Ev
open Go.RowKit Go.Proofs.Ytbakhodijhacoaa.BM Go.Proofs.Ytbakhodijhacoaa.LM Go.Proofs.Ytbakhodijhacoaa.LeM Go.Proofs.Ytbakhodijhacoaa.EvM
open Go.Proofs.Ytbakhodijhacoaa.VaM (V Rng gotP getP e0)
open Go.Proofs.Ytbakhodijhacoaa.Va (Bx Bx2 bx_new_t bx2_new bx2_set0 bx2_set1 bx_set2 ret_v bx_store stored3 SlV slV_none slV_len slV_grown own_slV encV op_append_v one_new)
open Go.Proofs.Ytbakhodijhacoaa.RG (own_is)
open Go.Proofs.Ytbakhodijhacoaa.Sc (Rdd grown_set grown_trans)
open Go.Proofs.Ytbakhodijhacoaa.ScM (Rs rNum rName rTake rNum_le rName_size)

/-- An event, how many bytes, and whether. -/
def got3 (A : Option Addr) (c : Nat) (r : Ev × Nat × Bool) : Value := .tuple #[.agg #[.string r.1.s, .int .i64 r.1.t, .slice A r.1.v.length c], .int .i64 (r.2.1 : Int), .bool r.2.2]

/-- What Get leaves. -/
def Gots (xs : List Int) (w : World) : Ending → World → Prop := fun e w' =>
  ∃ A c, e = .returned (got3 A c (gotE (gE xs))) ∧ SlV w' A (gotE (gE xs)).1.v c ∧ (∀ a, A = some a → w.heap.size ≤ a.block) ∧ Below w.heap.size w w'

set_option maxRecDepth 100000 in
set_option maxHeartbeats 4000000 in
theorem Get_any (A : Option Addr) (xs : List Int) (c : Nat) (w : World) (hx : SlB w A xs c) : Calls Try.prog 14 #[.slice A xs.length c] w (Gots xs w) := by
  have hxc := hx.2.1
  have hmx := hx.2.2.2
  unfold maxLen at hmx
  have hrd := gE_read hx.1.1
  have HX := Lib.hid hx
  have HRd := Lib.hid hrd
  have ha0 := (Below.refl w.heap.size w).alloc (Nat.le_refl _) (.cells #[.string ⟨#[]⟩, .int .i64 0, .slice none 0 0] 27)
  have hk := (Below.refl (w.alloc (.cells #[.string ⟨#[]⟩, .int .i64 0, .slice none 0 0] 27)).heap.size (w.alloc (.cells #[.string ⟨#[]⟩, .int .i64 0, .slice none 0 0] 27))).alloc (Nat.le_refl _) (.cells #[.slice A xs.length c, .bool false] 54)
  have hr2 := bx2_new (w.alloc (.cells #[.string ⟨#[]⟩, .int .i64 0, .slice none 0 0] 27)) 54 (.slice A xs.length c) (.bool false)
  rw [show (w.alloc (.cells #[.string ⟨#[]⟩, .int .i64 0, .slice none 0 0] 27)).heap.size = w.heap.size + 1 from by simp] at hr2
  have HB1 := Lib.hid (bt ha0 hk)
  have HR1 := Lib.hid hr2
  have HZ1 := Lib.hid ((bx_new_t w 27 (.string ⟨#[]⟩) (.int .i64 0) (.slice none 0 0)).kept hk)
  clear hx hrd ha0 hk hr2
  go_enter Try.func14, Try.ntmps14
  go_wp2_with (fail)
  obtain ⟨w1, hw1⟩ : ∃ w1, w1 = (w.alloc (.cells #[.string ⟨#[]⟩, .int .i64 0, .slice none 0 0] 27)).alloc (.cells #[.slice A xs.length c, .bool false] 54) := ⟨_, rfl⟩
  rw [← hw1] at HB1 HR1 HZ1 ⊢
  clear hw1
  have hgo : ∀ W1 W, Below w.heap.size w W1 → W1.grownBy W (some (w.heap.size + 1)) → Below w.heap.size w W := fun W1 W h hg => h.grown hg h.size (fun k e => by injection e with e; omega)
  have HGo := Lib.hid hgo
  have hall : rAll xs = (⟨(rName (xs, false)).1, (rNum 1125899906842624 (rName (xs, false)).2).1, (rVals (rNum 6 (rNum 1125899906842624 (rName (xs, false)).2).2).1 (rNum 6 (rNum 1125899906842624 (rName (xs, false)).2).2).2).1⟩,
    (rVals (rNum 6 (rNum 1125899906842624 (rName (xs, false)).2).2).1 (rNum 6 (rNum 1125899906842624 (rName (xs, false)).2).2).2).2) := rfl
  have hname := name_any (w.heap.size + 1) A xs c false w1 HR1.out (fun W hg => HX.out.kept (hgo w1 W HB1.out hg))
  have hnz := rName_size (xs, false)
  obtain ⟨⟨nm, ys, s1⟩, hr1⟩ : ∃ r, r = rName (xs, false) := ⟨_, rfl⟩
  rw [← hr1] at hname hall hnz
  simp only at hname hall hnz
  have HName := Lib.hid hname
  clear hname hr1 hgo
  refine HName.out.mono ?_
  rintro e w2 ⟨rfl, hg2, A2, c2, hb2, hs2⟩
  have hB2 := HGo.out w1 w2 HB1.out hg2
  have hnum := number_any (w.heap.size + 1) A2 ys c2 s1 1125899906842624 w2 hb2 (hs2 w2 (HX.out.kept hB2)) (by omega)
  have hvle := rNum_le 1125899906842624 (ys, s1)
  obtain ⟨⟨v, zs, s2⟩, hr2⟩ : ∃ r, r = rNum 1125899906842624 (ys, s1) := ⟨_, rfl⟩
  rw [← hr2] at hnum hall hvle
  simp only at hnum hall hvle
  have HNum := Lib.hid hnum
  have HZ2 := Lib.hid (HZ1.out.grown hg2 (fun e => by injection e with e; omega))
  have HB2 := Lib.hid hB2
  have HS2 := Lib.hid hs2
  clear hnum hr2 hg2 hb2 hs2 hB2 HName HB1 HR1 HZ1
  go_wp2_with fail
  refine HNum.out.mono ?_
  rintro e w3 ⟨rfl, hg3, A3, c3, hb3, hs3⟩
  have ha4 := (Below.refl w3.heap.size w3).alloc (Nat.le_refl _) (.cells #[.string nm, .int .i64 (v : Int), .slice none 0 0] 27)
  have hB3 := HGo.out w2 w3 HB2.out hg3
  have hB4 := bt hB3 ha4
  have hX4 := bx_new_t w3 27 (.string nm) (.int .i64 (v : Int)) (.slice none 0 0)
  have hZ4 := (HZ2.out.grown hg3 (fun e => by injection e with e; omega)).kept ha4
  have hb4 := hb3.kept ha4
  have hbs : w.heap.size + 1 < w3.heap.size := hb3.lt
  obtain ⟨bs, hbsd⟩ : ∃ bs, bs = w3.heap.size := ⟨_, rfl⟩
  have hnum6 := number_any (w.heap.size + 1) A3 zs c3 s2 6 _ hb4 (hs3 _ (HS2.out _ (HX.out.kept hB4))) (by omega)
  have hnle := rNum_le 6 (zs, s2)
  obtain ⟨⟨n, us, s3⟩, hr3⟩ : ∃ r, r = rNum 6 (zs, s2) := ⟨_, rfl⟩
  rw [← hr3] at hnum6 hall hnle
  simp only at hnum6 hall hnle
  have HNum6 := Lib.hid hnum6
  have HB4 := Lib.hid hB4
  have HX4 := Lib.hid hX4
  have HZ4 := Lib.hid hZ4
  have HS3 := Lib.hid (fun W (h : SlB W A xs c) => hs3 W (HS2.out W h))
  have HAll := Lib.hid hall
  clear hnum6 hr3 hg3 hb3 hs3 hB3 hB4 hX4 hZ4 hb4 HNum HB2 HZ2 HS2 ha4 hall
  go_wp2_with fail
  obtain ⟨w4, hw4⟩ : ∃ w4, w4 = w3.alloc (.cells #[.string nm, .int .i64 (v : Int), .slice none 0 0] 27) := ⟨_, rfl⟩
  rw [← hw4, ← hbsd] at HX4 ⊢
  rw [← hw4] at HNum6 HB4 HZ4
  rw [← hbsd] at hbs
  clear hw4 hbsd
  refine HNum6.out.mono ?_
  rintro e w5 ⟨rfl, hg5, A5, c5, hb5, hs5⟩
  have HB5 := Lib.hid (HGo.out w4 w5 HB4.out hg5)
  have HX5 := Lib.hid (HX4.out.grown hg5 (fun e => by injection e with e; omega))
  have HZ5 := Lib.hid (HZ4.out.grown hg5 (fun e => by injection e with e; omega))
  have HR5 := Lib.hid hb5
  have HS5 := Lib.hid (fun W (h : SlB W A xs c) => hs5 W (HS3.out W h))
  clear hg5 hb5 hs5 HB4 HX4 HZ4 HS3 HNum6
  have hus : ∀ x ∈ us, (0 : Int) ≤ x ∧ x < 256 := (HS5.out w HX.out).1.1
  have hrf := fun j => rVals_good j (r := (us, s3)) hus
  obtain ⟨R, hR⟩ : ∃ R : Nat → List V × Rs, R = fun j => rVals j (us, s3) := ⟨_, rfl⟩
  have hR0 : R 0 = ([], (us, s3)) := by rw [hR]; rfl
  have hRs : ∀ j, R (j + 1) = ((R j).1 ++ [(rVal (R j).2).1], (rVal (R j).2).2) := fun j => by rw [hR]; rfl
  have hRz : ∀ j, (R j).1.length = j ∧ (∀ x ∈ (R j).1, Sm x) ∧ (R j).2.1.length ≤ us.length := fun j => by rw [hR]; exact ⟨(hrf j).1, (hrf j).2.1, (hrf j).2.2.2⟩
  have hall2 : rAll xs = (⟨nm, v, (R n).1⟩, (R n).2) := by rw [HAll.out, hR]
  have HR0 := Lib.hid hR0
  have HRs := Lib.hid hRs
  have HRz := Lib.hid hRz
  have HAll2 := Lib.hid hall2
  clear hrf hR hR0 hRs hRz hall2 HAll hus
  have hbs5 := HX5.out.lt
  go_wp2_with fail
  go_loopw [13] (fun i wr => ∃ (j : Nat) (A' : Option Addr) (c' : Nat) (u : Value), i = .int .i64 j ∧ j ≤ n ∧ Bx2 wr (w.heap.size + 1) (.slice A' (R j).2.1.length c') (.bool (R j).2.2) ∧ (∀ W, SlB W A xs c → SlB W A' (R j).2.1 c') ∧
    Bx wr bs (.string nm) (.int .i64 (v : Int)) u ∧ wr.ownsRow w5.heap.size 44 3 u j ((R j).1.flatMap encV) ∧ Below w.heap.size w wr ∧ Bx wr w.heap.size (.string ⟨#[]⟩) (.int .i64 0) (.slice none 0 0) ∧ w5.heap.size ≤ wr.heap.size) (fun i _ => n - (intOf i).toNat)
  case atStart =>
    refine ⟨0, A5, c5, .slice none 0 0, rfl, Nat.zero_le _, ?_, ?_, HX5.out, ?_, HB5.out, HZ5.out, Nat.le_refl _⟩
    · rw [HR0.out]
      exact HR5.out
    · rw [HR0.out]
      exact HS5.out
    · rw [HR0.out]
      exact World.ownsRow_nil _ _ _ _
  case round =>
    obtain ⟨j, A', c', u, rfl, hj, hrd, hsl, hxs, hown, hbel, hzz, hsz⟩ := hrel
    have HSl := Lib.hid hsl
    clear hsl HR5 HS5 HX5 HZ5
    by_cases hjn : j < n
    · have hRj := HRs.out j
      obtain ⟨⟨l, qs, sq⟩, hRd⟩ : ∃ r, r = R j := ⟨_, rfl⟩
      rw [← hRd] at hRj hrd HSl hown
      simp only at hRj hrd HSl hown
      have HRj := Lib.hid hRj
      have HRd := Lib.hid hrd
      have HXs := Lib.hid hxs
      have HO := Lib.hid hown
      have HBl := Lib.hid hbel
      have HZz := Lib.hid hzz
      clear hRj hRd hrd hxs hown hbel hzz
      go_wp2_with fail
      refine RegM.GM_start (fun x => Bx x bs (.string nm) (.int .i64 (v : Int)) u) (by kernel_rfl) (by repeat (first | exact Reg.frameless_bodyPost | refine Reg.frameless_then ?_ | refine Reg.frameless_inBlock ?_)) (fun W hW => HXs.out.kept hW) (fun W hW => ?_)
      have hBW := bt HBl.out hW
      have HXW := Lib.hid (HXs.out.kept hW)
      have HZW := Lib.hid (HZz.out.kept hW)
      have HOW := Lib.hid (RegA.own_below HO.out hW)
      have hszW := Nat.le_trans hsz hW.size
      have hval := value_any (w.heap.size + 1) A' qs c' sq W (HRd.out.kept hW) (fun W2 hg => HSl.out W2 (HX.out.kept (HGo.out W W2 hBW hg)))
      obtain ⟨⟨⟨vk, vn, vs⟩, q2, t2⟩, hr1⟩ : ∃ r, r = rVal (qs, sq) := ⟨_, rfl⟩
      rw [← hr1] at hval
      simp only at hval
      have HVal := Lib.hid hval
      have HField := Lib.hid hr1.symm
      have HBW := Lib.hid hBW
      have x0 : ∀ x : RegB.At (fun x => Bx x bs (.string nm) (.int .i64 (v : Int)) u), x.world.cell? ⟨bs, 2, none⟩ = some u := fun x => x.ok.1.2.2
      haveI : Nonempty (RegB.At (fun x => Bx x bs (.string nm) (.int .i64 (v : Int)) u)) := ⟨⟨W, HXW.out⟩⟩
      clear hval hr1 hBW hW HO HXs HZz HRd HBl hsz
      refine RegM.GM_step (i := 0) 1 rfl (by kernel_rfl) (by kernel_rfl) (by rfl) (fun K hK => ?_); go_big_quiet_op; refine hK _ ?_; clear hK K
      refine RegM.GM_step (i := 1) 4 rfl (by kernel_rfl) (by kernel_rfl) (by rfl) (fun K hK => ?_); go_big_quiet_op; refine hK _ ?_; clear hK K
      refine RegM.GM_event (i := 2) rfl (by kernel_rfl) (by rfl) (fun K hK => ?_)
      go_simp
      refine HVal.out.mono ?_
      rintro e v2 ⟨rfl, hg2, B2, d2, hb2, hs2⟩
      have HX2 := Lib.hid (HXW.out.grown hg2 (fun e => by injection e with e; omega))
      refine hK _ _ HX2.out ?_
      clear hK K
      have ha3 := (Below.refl v2.heap.size v2).alloc (Nat.le_refl _) (.cells #[.int .i64 vk, .int .i64 vn, .string vs] 44)
      have HZ2 := Lib.hid ((HZW.out.grown hg2 (fun e => by injection e with e; omega)).kept ha3)
      have HO2 := Lib.hid (RegA.own_below (HOW.out.kept hg2 (Or.inr (fun e => by have := (HOW.out.lt _ e).1; omega))) ha3)
      have hsz2 := Nat.le_trans hszW (Nat.le_trans hg2.size ha3.size)
      have HB2 := Lib.hid (bt (HGo.out W v2 HBW.out hg2) ha3)
      have HR2 := Lib.hid (hb2.kept ha3)
      have HS2 := Lib.hid (fun W (h : SlB W A xs c) => hs2 W (HSl.out W h))
      have HX3 := Lib.hid (HX2.out.kept ha3)
      have HOne := Lib.hid (one_new v2 ⟨vk, vn, vs⟩)
      clear hg2 hb2 hs2 HXW HZW HOW hszW HVal HBW HSl ha3
      refine RegM.GM_event (i := 3) rfl (by kernel_rfl) (by rfl) (fun K hK => ?_)
      go_simp
      refine hK _ _ HX3.out ?_
      clear hK K
      obtain ⟨v3, hv3⟩ : ∃ v3, v3 = v2.alloc (.cells #[.int .i64 vk, .int .i64 vn, .string vs] 44) := ⟨_, rfl⟩
      simp only at HOne
      rw [← hv3] at HZ2 HO2 HB2 HR2 HX3 HOne hsz2 ⊢
      clear hv3 HX2
      refine RegM.GM_event (i := 4) rfl (by kernel_rfl) (by rfl) (fun K hK => ?_)
      refine op_append_v (.tmp 16) (.tmp 18) rfl w5.heap.size u j l rfl HO2.out (some ⟨v2.heap.size, 0, none⟩) 1 1 [⟨vk, vn, vs⟩] rfl rfl HOne.out (by omega) hsz2 ?_
      intro u4 v4 hown4 hg4
      obtain ⟨Aq, cq, hu4⟩ := own_is hown4
      have hne : ∀ b, b < w5.heap.size → some b ≠ u.ownBlock := fun b hb e => by have := (HO2.out.lt _ e.symm).1; omega
      have HX4 := Lib.hid (HX3.out.grown hg4 (hne _ hbs5))
      refine hK _ _ HX4.out ?_
      clear hK K
      have h0lt : w.heap.size < w5.heap.size := by omega
      have HZ4 := Lib.hid (HZ2.out.grown hg4 (hne _ h0lt))
      have HR4 := Lib.hid (HR2.out.grown hg4 (hne _ (by omega)))
      have HB4 := Lib.hid (HB2.out.grown hg4 HB2.out.size (fun q hq => by have := (HO2.out.lt q hq).1; omega))
      have HO4 := Lib.hid hown4
      have hsz4 := Nat.le_trans hsz2 hg4.size
      clear hown4 hg4 hne HZ2 HR2 HB2 HO2 HX3 HOne hsz2
      simp only [Act.put, List.setIfInBounds_toArray, List.set_cons_zero, List.set_cons_succ]
      refine RegM.GM_step (i := 5) 6 rfl (by kernel_rfl) (by kernel_rfl) (by rfl) (fun K hK => ?_); go_big_quiet_op; refine hK _ ?_; clear hK K
      subst hu4
      obtain ⟨u4, hu4⟩ : ∃ u4, u4 = Value.slice Aq (j + 1) cq := ⟨_, rfl⟩
      rw [← hu4] at HO4
      have hst := bx_set2 HX4.out u4
      have HXn := Lib.hid hst
      have HRn := Lib.hid (HR4.out.off (p := ⟨bs, 2, none⟩) (by simp only; omega) u4)
      have HZn := Lib.hid (HZ4.out.off (p := ⟨bs, 2, none⟩) (by simp only; omega) u4)
      have HBn := Lib.hid (HB4.out.setCell (p := ⟨bs, 2, none⟩) (by simp only; omega) u4)
      have HOn := Lib.hid (HO4.out.kept (grown_set v4 bs 2 u4) (Or.inr (fun e => by have := (HO4.out.lt _ e).1; omega)))
      have hszn := Nat.le_trans hsz4 (grown_set v4 bs 2 u4).size
      obtain ⟨⟨_, _, y2⟩, _, _, y5⟩ := HX4.out
      clear hst HR4 HZ4 HB4 HO4 hsz4 x0
      refine RegM.GM_last (i := 6) rfl (by kernel_rfl) (by rfl) (by kernel_rfl) (by kernel_rfl) (fun K hK => ?_)
      go_simp
      refine hK _ _ ?_
      clear hK K
      rw [← hu4]
      clear hu4
      obtain ⟨v5, hv5⟩ : ∃ v5, v5 = v4.setCell ⟨bs, 2, none⟩ u4 := ⟨_, rfl⟩
      rw [← hv5] at HXn HRn HZn HBn HOn hszn ⊢
      clear hv5 y2 y5
      go_wp2_with fail
      go_roundw
      case rel =>
        have hR1 := HRj.out
        rw [HField.out] at hR1
        refine ⟨j + 1, B2, d2, u4, by go_num, by omega, ?_, ?_, HXn.out, ?_, HBn.out, HZn.out, hszn⟩
        · rw [hR1]
          exact HRn.out
        · rw [hR1]
          exact HS2.out
        · rw [hR1]
          exact HOn.out
      case measure => simp [intOf]; omega
    · obtain rfl : j = n := by omega
      have hRj := HAll2.out
      have hRz := HRz.out j
      obtain ⟨⟨l, qs, sq⟩, hRd⟩ : ∃ r, r = R j := ⟨_, rfl⟩
      rw [← hRd] at hRj hrd HSl hown hRz
      simp only at hRj hrd HSl hown hRz
      obtain ⟨Af, cf, rfl, hlj, hslf, hfar⟩ := own_slV hown (fun x hx => hRz.2.1 x hx)
      have hleft := rAll_left xs
      rw [hRj] at hleft
      simp only at hleft
      have hread := HRd.out
      rw [hRj] at hread
      simp only at hread
      have HRead := Lib.hid hread
      have HSlf := Lib.hid hslf
      have HFar := Lib.hid (fun a ha => (hfar a ha).1)
      have HLj := Lib.hid hlj
      have HXs := Lib.hid hxs
      have HZz := Lib.hid hzz
      have HBl := Lib.hid hbel
      have hql : qs.length ≤ 9223372036854775807 := by
        have h2 := (HSl.out w HX.out).2.1
        have h3 := (HSl.out w HX.out).2.2.2
        unfold maxLen at h3
        omega
      obtain ⟨m, hm⟩ : ∃ m, m = qs.length := ⟨_, rfl⟩
      rw [← hm] at hrd hread hql HRead hleft
      have HRr := Lib.hid hrd
      obtain ⟨⟨r0, r1⟩, _⟩ := hrd
      rw [← hlj] at HXs
      clear hRj hRd hown hslf hfar hlj hxs hzz hbel hread hm
      cases sq
      · have hmy := fun W (hW : Below wr.heap.size wr W) => May_any ⟨nm, v, l⟩ Af cf W (HSlf.out.kept hW) ⟨by unfold maxLen; simp only; omega, by simp only; omega, by simp only; omega⟩
        simp only [← HLj.out] at hmy
        have HMy := Lib.hid hmy
        obtain ⟨⟨x0, x1, x2⟩, _⟩ := HXs.out
        clear hmy
        go_wp2_with fail
        refine (HMy.out _ (Below.refl _ _)).mono ?_
        rintro e w6 ⟨rfl, hb6⟩
        clear x0 x1 x2 r0 r1
        have HB6 := Lib.hid (bt HBl.out hb6)
        have HX6 := Lib.hid (HXs.out.kept hb6)
        have HZ6 := Lib.hid (HZz.out.kept hb6)
        have HR6 := Lib.hid (HRr.out.kept hb6)
        have HSlf6 := Lib.hid (HSlf.out.kept hb6)
        clear hb6 HMy
        by_cases hmay : May ⟨nm, v, l⟩
        · have hyes : gotE (gE xs) = (⟨nm, v, l⟩, xs.length - m, true) := by
            rw [HRead.out, if_pos ⟨by trivial, hmay⟩]
          rw [decide_eq_true hmay]
          have HYes := Lib.hid hyes
          have HM := Lib.hid hmay
          clear hyes hmay
          go_wp2_with fail
          refine RegB.GS_start (fun x => Bx x bs (.string nm) (.int .i64 (v : Int)) (.slice Af j cf) ∧ Bx2 x (w.heap.size + 1) (.slice A' m c') (.bool false)) (by kernel_rfl) (by repeat (first | exact Reg.frameless_bodyPost | refine Reg.frameless_then ?_ | refine Reg.frameless_inBlock ?_)) (fun W hW => ⟨HX6.out.kept hW, HR6.out.kept hW⟩) (fun W hW => ?_)
          have HZW := Lib.hid (HZ6.out.kept hW)
          have HBW := Lib.hid (bt HB6.out hW)
          have HSlfW := Lib.hid (HSlf6.out.kept hW)
          have HSW := Lib.hid (show Bx W bs (.string nm) (.int .i64 (v : Int)) (.slice Af j cf) ∧ Bx2 W (w.heap.size + 1) (.slice A' m c') (.bool false) from ⟨HX6.out.kept hW, HR6.out.kept hW⟩)
          have x0 : ∀ x : RegB.At (fun x => Bx x bs (.string nm) (.int .i64 (v : Int)) (.slice Af j cf) ∧ Bx2 x (w.heap.size + 1) (.slice A' m c') (.bool false)), x.world.cell? ⟨bs, 0, none⟩ = some (.string nm) := fun x => x.ok.1.1.1
          have x1 : ∀ x : RegB.At (fun x => Bx x bs (.string nm) (.int .i64 (v : Int)) (.slice Af j cf) ∧ Bx2 x (w.heap.size + 1) (.slice A' m c') (.bool false)), x.world.cell? ⟨bs, 1, none⟩ = some (.int .i64 (v : Int)) := fun x => x.ok.1.1.2.1
          have x2 : ∀ x : RegB.At (fun x => Bx x bs (.string nm) (.int .i64 (v : Int)) (.slice Af j cf) ∧ Bx2 x (w.heap.size + 1) (.slice A' m c') (.bool false)), x.world.cell? ⟨bs, 2, none⟩ = some (.slice Af j cf) := fun x => x.ok.1.1.2.2
          have x3 : ∀ x : RegB.At (fun x => Bx x bs (.string nm) (.int .i64 (v : Int)) (.slice Af j cf) ∧ Bx2 x (w.heap.size + 1) (.slice A' m c') (.bool false)), x.world.cell? ⟨w.heap.size + 1, 0, none⟩ = some (.slice A' m c') := fun x => x.ok.2.1.1
          haveI : Nonempty (RegB.At (fun x => Bx x bs (.string nm) (.int .i64 (v : Int)) (.slice Af j cf) ∧ Bx2 x (w.heap.size + 1) (.slice A' m c') (.bool false))) := ⟨⟨W, HSW.out⟩⟩
          clear hW HZ6 HB6 HSlf6 HX6 HR6
          refine RegB.GS_step (i := 0) rfl (by kernel_rfl) (by rfl) (fun K hK => ?_); go_big_quiet_op; refine hK _ ?_; clear hK K
          refine RegB.GS_step (i := 1) rfl (by kernel_rfl) (by rfl) (fun K hK => ?_); go_big_quiet_op; refine hK _ ?_; clear hK K
          refine RegB.GS_step (i := 2) rfl (by kernel_rfl) (by rfl) (fun K hK => ?_); go_big_quiet_op; refine hK _ ?_; clear hK K
          refine RegB.GS_step (i := 3) rfl (by kernel_rfl) (by rfl) (fun K hK => ?_); go_big_quiet_op; refine hK _ ?_; clear hK K
          refine RegB.GS_step (i := 4) rfl (by kernel_rfl) (by rfl) (fun K hK => ?_); go_big_quiet_op; refine hK _ ?_; clear hK K
          refine RegB.GS_step (i := 5) rfl (by kernel_rfl) (by rfl) (fun K hK => ?_); go_big_quiet_op; refine hK _ ?_; clear hK K
          refine RegB.GS_step (i := 6) rfl (by kernel_rfl) (by rfl) (fun K hK => ?_); go_big_quiet_op; refine hK _ ?_; clear hK K
          have hst := bx_store HZW.out (.string nm) (.int .i64 (v : Int)) (.slice Af j cf)
          obtain ⟨⟨g0, g1, g2⟩, _⟩ := hst
          have G0 := Lib.hid g0
          have G1 := Lib.hid g1
          have G2 := Lib.hid g2
          have HF := Lib.hid (stored3 HBW.out (Nat.le_refl _) (.string nm) (.int .i64 (v : Int)) (.slice Af j cf))
          have hSn : Bx (((W.setCell ⟨w.heap.size, 0, none⟩ (.string nm)).setCell ⟨w.heap.size, 1, none⟩ (.int .i64 (v : Int))).setCell ⟨w.heap.size, 2, none⟩ (.slice Af j cf)) bs (.string nm) (.int .i64 (v : Int)) (.slice Af j cf) ∧
              Bx2 (((W.setCell ⟨w.heap.size, 0, none⟩ (.string nm)).setCell ⟨w.heap.size, 1, none⟩ (.int .i64 (v : Int))).setCell ⟨w.heap.size, 2, none⟩ (.slice Af j cf)) (w.heap.size + 1) (.slice A' m c') (.bool false) :=
            ⟨((HSW.out.1.off (p := ⟨w.heap.size, 0, none⟩) (by simp only; omega) _).off (p := ⟨w.heap.size, 1, none⟩) (by simp only; omega) _).off (p := ⟨w.heap.size, 2, none⟩) (by simp only; omega) _,
              ((HSW.out.2.off (p := ⟨w.heap.size, 0, none⟩) (by simp only; omega) _).off (p := ⟨w.heap.size, 1, none⟩) (by simp only; omega) _).off (p := ⟨w.heap.size, 2, none⟩) (by simp only; omega) _⟩
          have hg0 := grown_set W w.heap.size 0 (.string nm)
          have hg1 := grown_set (W.setCell ⟨w.heap.size, 0, none⟩ (.string nm)) w.heap.size 1 (.int .i64 (v : Int))
          have hg2 := grown_set ((W.setCell ⟨w.heap.size, 0, none⟩ (.string nm)).setCell ⟨w.heap.size, 1, none⟩ (.int .i64 (v : Int))) w.heap.size 2 (.slice Af j cf)
          have HSlfN := Lib.hid (slV_grown HSlfW.out (grown_trans (grown_trans hg0 hg1) hg2) (fun a ha => by have := HFar.out a ha; omega))
          have HSn := Lib.hid hSn
          obtain ⟨⟨p0, p1, p2⟩, p3, p4, p5⟩ := HZW.out
          clear g0 g1 g2 hSn hg0 hg1 hg2 HSlfW HSW HBW HZW
          refine RegB.GS_event (i := 7) rfl (by kernel_rfl) (by rfl) (fun K hK => ?_)
          go_simp
          refine hK _ _ HSn.out ?_
          clear hK K p0 p1 p2 p3 p4 p5
          obtain ⟨W2, hW2⟩ : ∃ W2, W2 = ((W.setCell ⟨w.heap.size, 0, none⟩ (.string nm)).setCell ⟨w.heap.size, 1, none⟩ (.int .i64 (v : Int))).setCell ⟨w.heap.size, 2, none⟩ (.slice Af j cf) := ⟨_, rfl⟩
          rw [← hW2] at HF G0 G1 G2 HSlfN ⊢
          clear hW2 HSn
          refine RegB.GS_step (i := 8) rfl (by kernel_rfl) (by rfl) (fun K hK => ?_); go_big_quiet_op; refine hK _ ?_; clear hK K
          refine RegB.GS_step (i := 9) rfl (by kernel_rfl) (by rfl) (fun K hK => ?_); go_big_quiet_op; refine hK _ ?_; clear hK K
          refine RegB.GS_done (by kernel_rfl) ?_
          clear x0 x1 x2 x3
          have g0 := G0.out
          have g1 := G1.out
          have g2 := G2.out
          go_wp2_with fail
          have hsub : ((xs.length : Int) - (m : Int)) = ((xs.length - m : Nat) : Int) := by omega
          have hval : got3 Af cf (gotE (gE xs)) = .tuple #[.agg #[.string nm, .int .i64 (v : Int), .slice Af j cf], .int .i64 ((xs.length : Int) - (m : Int)), .bool true] := by
            rw [HYes.out, hsub]
            unfold got3
            simp only [← HLj.out]
          exact bodyPost_ret (v := .tuple #[.agg #[.string nm, .int .i64 (v : Int), .slice Af j cf], .int .i64 ((xs.length : Int) - (m : Int)), .bool true]) (by simp [results, Try.results14, go_sem, g0, g1, g2]) rfl ⟨Af, cf, ret_v hval, (by rw [HYes.out]; exact HSlfN.out), (fun a ha => by have := HFar.out a ha; omega), HF.out⟩
        · have hno : gotE (gE xs) = (⟨e0, 0, []⟩, 0, false) := by
            rw [HRead.out, if_neg (fun h => hmay h.2)]
          rw [decide_eq_false hmay]
          have HNo := Lib.hid hno
          clear hno hmay
          have hst := bx_store HZ6.out (.string ⟨#[]⟩) (.int .i64 0) (.slice none 0 0)
          obtain ⟨⟨g0, g1, g2⟩, _⟩ := hst
          have G0 := Lib.hid g0
          have G1 := Lib.hid g1
          have G2 := Lib.hid g2
          have HF := Lib.hid (stored3 HB6.out (Nat.le_refl _) (.string ⟨#[]⟩) (.int .i64 0) (.slice none 0 0))
          obtain ⟨⟨p0, p1, p2⟩, p3, p4, p5⟩ := HZ6.out
          clear g0 g1 g2
          go_wp2_with fail
          obtain ⟨W2, hW2⟩ : ∃ W2, W2 = ((w6.setCell ⟨w.heap.size, 0, none⟩ (.string ⟨#[]⟩)).setCell ⟨w.heap.size, 1, none⟩ (.int .i64 0)).setCell ⟨w.heap.size, 2, none⟩ (.slice none 0 0) := ⟨_, rfl⟩
          rw [← hW2] at HF G0 G1 G2 ⊢
          have g0 := G0.out
          have g1 := G1.out
          have g2 := G2.out
          clear hW2 p0 p1 p2 p3 p4 p5
          exact bodyPost_ret (v := .tuple #[.agg #[.string ⟨#[]⟩, .int .i64 0, .slice none 0 0], .int .i64 0, .bool false]) (by simp [results, Try.results14, go_sem, g0, g1, g2]) rfl ⟨none, 0, ret_v (by rw [HNo.out]; rfl), (by rw [HNo.out]; exact slV_none _), (fun a ha => by cases ha), HF.out⟩
      · have hno : gotE (gE xs) = (⟨e0, 0, []⟩, 0, false) := by
          rw [HRead.out, if_neg (fun h => by cases h.1)]
        have HNo := Lib.hid hno
        clear hno
        have hst := bx_store HZz.out (.string ⟨#[]⟩) (.int .i64 0) (.slice none 0 0)
        obtain ⟨⟨g0, g1, g2⟩, _⟩ := hst
        have G0 := Lib.hid g0
        have G1 := Lib.hid g1
        have G2 := Lib.hid g2
        have HF := Lib.hid (stored3 HBl.out (Nat.le_refl _) (.string ⟨#[]⟩) (.int .i64 0) (.slice none 0 0))
        obtain ⟨⟨p0, p1, p2⟩, p3, p4, p5⟩ := HZz.out
        clear g0 g1 g2
        go_wp2_with fail
        obtain ⟨W2, hW2⟩ : ∃ W2, W2 = ((wr.setCell ⟨w.heap.size, 0, none⟩ (.string ⟨#[]⟩)).setCell ⟨w.heap.size, 1, none⟩ (.int .i64 0)).setCell ⟨w.heap.size, 2, none⟩ (.slice none 0 0) := ⟨_, rfl⟩
        rw [← hW2] at HF G0 G1 G2 ⊢
        have g0 := G0.out
        have g1 := G1.out
        have g2 := G2.out
        clear hW2 p0 p1 p2 p3 p4 p5
        exact bodyPost_ret (v := .tuple #[.agg #[.string ⟨#[]⟩, .int .i64 0, .slice none 0 0], .int .i64 0, .bool false]) (by simp [results, Try.results14, go_sem, g0, g1, g2]) rfl ⟨none, 0, ret_v (by rw [HNo.out]; rfl), (by rw [HNo.out]; exact slV_none _), (fun a ha => by cases ha), HF.out⟩
end Go.Proofs.Ytbakhodijhacoaa.Ev
