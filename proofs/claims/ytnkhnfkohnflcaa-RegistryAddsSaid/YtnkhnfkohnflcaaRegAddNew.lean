/- addNew: a schema behind, of whose name there is none; asked: the schemas lie where the slice says, and they may be. -/
import Derived.Test.YtnkhnfkohnflcaaRegMay
import Derived.Test.YtnkhnfkohnflcaaRegOwn
import Derived.Test.YtnkhnfkohnflcaaRegRefAdd
import Derived.Test.YtnkhnfkohnflcaaRegionB
namespace Go.Proofs.Ytnkhnfkohnflcaa.Rg
open Go.RowKit Go.Proofs.Ytnkhnfkohnflcaa.BM Go.Proofs.Ytnkhnfkohnflcaa.LM Go.Proofs.Ytnkhnfkohnflcaa.VaM Go.Proofs.Ytnkhnfkohnflcaa.Va Go.Proofs.Ytnkhnfkohnflcaa.Sc Go.Proofs.Ytnkhnfkohnflcaa.RgM
open Go.Proofs.Ytnkhnfkohnflcaa.ScM (Sc Fit)

theorem room_may {s : Sc} (h : ScM.May s) : Room s.f := by
  have := h.2.2.2.1
  unfold Room
  omega

theorem roomL_may {l : List Sc} (h : May l) : RoomL l := fun i hi => room_may (h.1 i hi).1

set_option maxRecDepth 100000 in
set_option maxHeartbeats 4000000 in
theorem addNew_any (l : List Sc) (s : Sc) (A : Option Addr) (c : Nat) (B : Option Addr) (d : Nat) (w : World) (hS : SlS w A l c) (hF : SlF w B s.f d) (hz : Fine s) (hm : May l ∧ ScM.May s) (hat : At l s.s = none) :
    Calls Try.prog 23 #[.slice A l.length c, .agg #[.string s.s, .int .i64 s.v, .slice B s.f.length d]] w (Added l s w) := by
  have hl := slS_len hS
  have hall := fun W (h : Below w.heap.size w W) => ownAll_any l A c W (hS.kept h) (roomL_may hm.1) (Nat.le_trans hm.1.2 (by decide))
  have hown := fun W (h : Below w.heap.size w W) => own_any s B d W (hF.kept h) (room_may hm.2)
  have hro := fun (W : World) (T : Option Addr) (t H : Nat) (v : Value) (h : Own H W T s.f t) (hv : ∀ b, v.ownBlock = some b → b < H) => relS_own h hz hv
  have haddn := @add_none l s hm hat
  have hn8 := hm.1.2
  have HAll := Lib.hid hall
  have HOwn := Lib.hid hown
  have HRo := Lib.hid hro
  clear hall hown hro hS hF hz hm hat
  obtain ⟨nm, v, f⟩ := s
  simp only at HOwn HRo haddn ⊢
  obtain ⟨k, hk⟩ : ∃ k, k = f.length := ⟨_, rfl⟩
  obtain ⟨n, hn⟩ : ∃ n, n = l.length := ⟨_, rfl⟩
  simp only [← hk] at HOwn HRo
  simp only [← hn] at HAll haddn hl hn8
  rw [← hk, ← hn]
  clear hk hn
  have HX4 := Lib.hid (bx_new_t w 25 (.string nm) (.int .i64 v) (.slice B k d))
  have HB4 := Lib.hid ((Below.refl w.heap.size w).alloc (Nat.le_refl _) (.cells #[.string nm, .int .i64 v, .slice B k d] 25))
  obtain ⟨⟨p0, p1, p2⟩, _⟩ := HX4.out
  by_cases hv : v = 1
  · subst hv
    rw [if_neg (fun h => h rfl)] at haddn
    by_cases h8 : 8 ≤ n
    · obtain rfl : n = 8 := by omega
      rw [if_pos h8] at haddn
      have HErr := Lib.hid haddn
      clear haddn h8 hn8
      go_enter Try.func23, Try.ntmps23
      go_wp2_with fail
      exact bodyPost_ret (v := .tuple #[.slice none 0 0, .int .i64 7]) (by simp [results, Try.results23, go_sem]) rfl (added_err HErr.out HB4.out)
    · have hd : ((n : Int) == 8) = false := by rw [beq_eq_false_iff_ne]; omega
      rw [if_neg h8] at haddn
      have HAdd := Lib.hid haddn
      clear haddn h8
      go_enter Try.func23, Try.ntmps23
      go_wp2_with fail
      obtain ⟨w4, hw4⟩ : ∃ w4, w4 = w.alloc (.cells #[.string nm, .int .i64 1, .slice B k d] 25) := ⟨_, rfl⟩
      rw [← hw4] at HX4 HB4 ⊢
      clear hw4 p0 p1 p2
      refine RegB.GS_start (fun x => Below w4.heap.size w4 x) (by kernel_rfl) (by repeat (first | exact Reg.frameless_bodyPost | refine Reg.frameless_then ?_ | refine Reg.frameless_inBlock ?_)) (fun W hW => hW) (fun W hW => ?_)
      have HW := Lib.hid hW
      have x0 : ∀ x : RegB.At (fun x => Below w4.heap.size w4 x), x.world.cell? ⟨w.heap.size, 0, none⟩ = some (.string nm) := fun x => (HX4.out.kept x.ok).1.1
      have x1 : ∀ x : RegB.At (fun x => Below w4.heap.size w4 x), x.world.cell? ⟨w.heap.size, 1, none⟩ = some (.int .i64 1) := fun x => (HX4.out.kept x.ok).1.2.1
      have x2 : ∀ x : RegB.At (fun x => Below w4.heap.size w4 x), x.world.cell? ⟨w.heap.size, 2, none⟩ = some (.slice B k d) := fun x => (HX4.out.kept x.ok).1.2.2
      haveI : Nonempty (RegB.At (fun x => Below w4.heap.size w4 x)) := ⟨⟨W, hW⟩⟩
      clear hW
      first | (refine RegB.GS_step (i := 0) rfl (by kernel_rfl) (by rfl) (fun K hK => ?_); go_big_quiet_op; refine hK _ ?_; clear hK K)
      first | (refine RegB.GS_step (i := 2) rfl (by kernel_rfl) (by rfl) (fun K hK => ?_); go_big_quiet_op; refine hK _ ?_; clear hK K)
      refine RegB.GS_event (i := 1) rfl (by kernel_rfl) (by rfl) (fun K hK => ?_)
      go_simp
      refine (HAll.out _ (bt HB4.out HW.out)).mono ?_
      rintro e w5 ⟨u5, us, rfl, ho5, hb5⟩
      refine hK _ _ (bt HW.out hb5) ?_
      clear hK K
      refine RegB.GS_event (i := 3) rfl (by kernel_rfl) (by rfl) (fun K hK => ?_)
      go_simp
      refine (HOwn.out _ (bt HB4.out (bt HW.out hb5))).mono ?_
      rintro e w6 ⟨A6, c6, rfl, ho6, hb6⟩
      refine hK _ _ (bt HW.out (bt hb5 hb6)) ?_
      clear hK K
      refine RegB.GS_event (i := 4) rfl (by kernel_rfl) (by rfl) (fun K hK => ?_)
      go_simp
      have ha7 := (Below.refl w6.heap.size w6).alloc (Nat.le_refl _) (.cells #[.string nm, .int .i64 1, .slice A6 k c6] 25)
      refine hK _ _ (bt HW.out (bt hb5 (bt hb6 ha7))) ?_
      clear hK K
      have hr := HRo.out w6 A6 c6 w5.heap.size u5 ho6 (own_lt ho5.1)
      have HNew := Lib.hid (RG.elem_new w6 25 (K := KS) (⟨nm, 1, f⟩ : Sc) _ hr)
      have HO := Lib.hid (ho5.kept (bt hb6 ha7))
      have HBel := Lib.hid (bt HW.out (bt hb5 (bt hb6 ha7)))
      have HH4 := Lib.hid (show w4.heap.size ≤ W.heap.size from HW.out.size)
      have hbz : W.heap.size ≤ (w6.alloc (.cells #[.string nm, .int .i64 1, .slice A6 k c6] 25)).heap.size := (bt hb5 (bt hb6 ha7)).size
      obtain ⟨base, hbase⟩ : ∃ b, b = W.heap.size := ⟨_, rfl⟩
      rw [← hbase] at HO HH4 hbz
      obtain ⟨g5, hg5⟩ : ∃ g, g = w6.heap.size := ⟨_, rfl⟩
      obtain ⟨w7, hw7⟩ : ∃ w7, w7 = w6.alloc (.cells #[.string nm, .int .i64 1, .slice A6 k c6] 25) := ⟨_, rfl⟩
      simp only [List.toArray] at HNew
      rw [← hw7] at HNew HO HBel hbz ⊢
      rw [← hg5] at HNew ⊢
      clear hr ho5 hb5 ho6 hb6 ha7 hbase hg5 hw7
      refine RegB.GS_event (i := 5) rfl (by kernel_rfl) (by rfl) (fun K hK => ?_)
      refine tyS.op_append (K := KS) (fun _ => True) (.tmp 15) (.tmp 18) rfl base u5 n us l rfl HO.out.1 HO.out.2 (some ⟨g5, 0, none⟩) 1 1 _ [⟨nm, 1, f⟩] rfl rfl HNew.out.1 HNew.out.2 (fun h => by cases h) (by omega) hbz ?_
      intro u8 w8 hown8 hel8 hgrow8
      have hb8 := HBel.out.grown hgrow8 HBel.out.size (fun q hq => by have := own_base HO.out.1 q hq; have := HH4.out; omega)
      refine hK _ _ hb8 ?_
      clear hK K
      simp only [Act.put, List.setIfInBounds_toArray, List.set_cons_zero, List.set_cons_succ]
      first | (refine RegB.GS_step (i := 6) rfl (by kernel_rfl) (by rfl) (fun K hK => ?_); go_big_quiet_op; refine hK _ ?_; clear hK K)
      first | (refine RegB.GS_step (i := 7) rfl (by kernel_rfl) (by rfl) (fun K hK => ?_); go_big_quiet_op; refine hK _ ?_; clear hK K)
      refine RegB.GS_done (by kernel_rfl) ?_
      obtain ⟨A8, c8, hu8, hq8, hs8, hz8⟩ := RG.own_slG hown8 hel8 (by decide)
      have HU8 := Lib.hid hu8
      have HS8 := Lib.hid (slS_mono hs8)
      have HB8 := Lib.hid (bt HB4.out hb8)
      clear hb8 hu8 hs8 hq8 hz8 hown8 hel8 hgrow8 x0 x1 x2
      go_wp2_with fail
      exact bodyPost_ret (v := .tuple #[u8, .int .i64 0]) (by simp [results, Try.results23, go_sem]) rfl ⟨A8, c8, ret_v (by rw [HAdd.out, HU8.out]), by rw [HAdd.out]; exact HS8.out, HB8.out⟩
  · have hd : (v != 1) = true := by rw [bne_iff_ne]; exact hv
    rw [if_pos hv] at haddn
    have HErr := Lib.hid haddn
    clear haddn hv
    go_enter Try.func23, Try.ntmps23
    go_wp2_with fail
    exact bodyPost_ret (v := .tuple #[.slice none 0 0, .int .i64 5]) (by simp [results, Try.results23, go_sem]) rfl (added_err HErr.out HB4.out)
end Go.Proofs.Ytnkhnfkohnflcaa.Rg
