/- Get of package value: what it answers of any bytes; asked: the slice reads as bytes. -/
import Derived.Test.YtbakhodijhacoaaValueRead
import Derived.Test.YtbakhodijhacoaaRegAppend
namespace Go.Proofs.Ytbakhodijhacoaa.Va
open Go.RowKit Go.Proofs.Ytbakhodijhacoaa.BM Go.Proofs.Ytbakhodijhacoaa.LM Go.Proofs.Ytbakhodijhacoaa.LeM Go.Proofs.Ytbakhodijhacoaa.LeZ Go.Proofs.Ytbakhodijhacoaa.VaM

/-- Get by read: behind the kind and the number. -/
theorem getP_read {k : Int} {t : List Int} {n u : Nat} (hg : getS t = some (n, u)) (hn : n < 18446744073709551616) :
    getP (k :: t) = if (rdV k n (t.drop u)).2.2 = true ∧ May (rdV k n (t.drop u)).1 then some ((rdV k n (t.drop u)).1, 1 + u + (rdV k n (t.drop u)).2.1) else none := by
  show getB k t (getS t) = _
  rw [hg]
  simp only [getB]
  unfold rdV
  by_cases k0 : k = 0
  · rw [if_pos k0, if_pos k0, if_pos ⟨rfl, Or.inr ⟨rfl, Or.inl rfl⟩⟩]
    rfl
  · rw [if_neg k0, if_neg k0]
    by_cases k2 : k = 2
    · rw [if_pos k2, if_pos k2, List.length_drop]
      by_cases hc : n ≤ 40 ∧ n ≤ t.length - u
      · rw [if_pos hc, if_pos hc, if_pos ⟨rfl, Or.inl ⟨rfl, rfl, by simp only; rw [size_str, List.length_take]; omega⟩⟩]
      · rw [if_neg hc, if_neg hc, if_neg (by simp)]
    · rw [if_neg k2, if_neg k2]
      simp only [true_and, Nat.add_zero]
      by_cases hc : (k = 1 ∧ n ≤ 1) ∨ (k = 3 ∧ n ≤ 1125899906842624)
      · have hw : wrap64 (n : Int) = n := IntWalk.wrap64_in _ (by omega)
        rw [if_pos hc, hw, if_pos]
        refine Or.inr ⟨rfl, Or.inr ?_⟩
        rcases hc with ⟨c1, c2⟩ | ⟨c1, c2⟩
        · exact Or.inl ⟨c1, by simp only; omega⟩
        · exact Or.inr ⟨c1, by simp only; omega, by simp only; omega⟩
      · rw [if_neg hc, if_neg]
        rintro (⟨h1, _⟩ | ⟨_, h1 | ⟨h1, h2⟩ | ⟨h1, h2, h3⟩⟩)
        · exact k2 h1
        · exact k0 h1
        · simp only at h1 h2
          unfold wrap64 at h2
          omega
        · simp only at h1 h2 h3
          unfold wrap64 at h2 h3
          omega

/-- b[0] -/
theorem index_0 (w : World) (b o len cap : Nat) (h : 0 < len) : (Instr.indexAt 28 (.slice (some ⟨b, o, none⟩) len cap) (.int .i64 0)).run Try.prog w = .ok (.pointer (some ⟨b, o, none⟩)) w := by
  rw [run_indexAt_slice w _ _ _ _ _ _ elem_b, if_pos (by omega), size_b]
  simp [Result.andThen, Addr.add_lit]

/-- b[1:] -/
theorem slice_1 (w : World) (A : Option Addr) (len cap : Nat) :
    (Instr.sliceAt 28 (.slice A (len + 1) cap) (some (.int .i64 1)) none none).run Try.prog w = .ok (.slice (dropA A 1 cap) len (cap - 1)) w := by
  have h := slice_lo w A (len + 1) cap 1 (by omega)
  rw [Nat.add_sub_cancel] at h
  exact h

/-- What Get leaves. -/
def Gots (xs : List Int) (w : World) : Ending → World → Prop := fun e w' => e = .returned (got3 (gotP (getP xs))) ∧ Below w.heap.size w w'

set_option maxRecDepth 100000 in
theorem Get_nil (A : Option Addr) (c : Nat) (w : World) : Calls Try.prog 50 #[.slice A 0 c] w (Gots [] w) := by
  go_enter Try.func50, Try.ntmps50
  go_wp2_with fail
  obtain ⟨⟨r0, r1, r2⟩, _⟩ := bx_new w (.int .i64 0) (.int .i64 0) (.string ⟨#[]⟩)
  exact bodyPost_ret (v := .tuple #[.agg #[.int .i64 0, .int .i64 0, .string ⟨#[]⟩], .int .i64 0, .bool false]) (by simp [results, Try.results50, go_sem]) rfl ⟨rfl, (Below.refl _ _).alloc (Nat.le_refl _) _⟩

set_option maxRecDepth 100000 in
theorem Get_no (A : Option Addr) (k : Int) (t : List Int) (c : Nat) (w : World) (h : SlB w A (k :: t) c) (hg : getS t = none) : Calls Try.prog 50 #[.slice A (k :: t).length c] w (Gots (k :: t) w) := by
  have hm := h.2.2.2
  have hc := h.2.1
  unfold maxLen at hm
  rw [List.length_cons] at hc ⊢
  have hB := (Below.refl w.heap.size w).alloc (Nat.le_refl _) (.cells #[.int .i64 0, .int .i64 0, .string ⟨#[]⟩] 44)
  have hr : gotP (getP (k :: t)) = (⟨0, 0, e0⟩, 0, false) := by
    rw [show getP (k :: t) = getB k t (getS t) from rfl, hg]
    rfl
  have hsl := fun W => slice_1 W A t.length c
  obtain ⟨D, hD⟩ : ∃ D, D = dropA A 1 c := ⟨_, rfl⟩
  have hd := (Cut.slB_drop h 1 (by simp)).kept hB
  rw [← hD] at hsl hd
  have hGet := LeG.Get_any D t (c - 1) _ (by omega) hd.1
  rw [hg] at hGet
  have HG := Lib.hid hGet
  have HR := Lib.hid hr
  obtain ⟨L, hL⟩ : ∃ L, L = t.length := ⟨_, rfl⟩
  rw [← hL] at hsl HG hc ⊢
  have HB := Lib.hid hB
  clear hB hr hD hd hGet hg hL h
  go_enter Try.func50, Try.ntmps50
  go_wp2_with fail
  refine HG.out.mono ?_
  rintro e w1 ⟨rfl, rfl⟩
  simp only [LeG.gotV]
  go_wp2_with fail
  obtain ⟨⟨r0, r1, r2⟩, _⟩ := bx_new w (.int .i64 0) (.int .i64 0) (.string ⟨#[]⟩)
  exact bodyPost_ret (v := .tuple #[.agg #[.int .i64 0, .int .i64 0, .string ⟨#[]⟩], .int .i64 0, .bool false]) (by simp [results, Try.results50, go_sem]) rfl ⟨ret_v (by rw [HR.out]; rfl), HB.out⟩

set_option maxRecDepth 100000 in
set_option maxHeartbeats 2000000 in
theorem Get_yes (A : Option Addr) (b o : Nat) (hA : A = some ⟨b, o, none⟩) (k : Int) (t : List Int) (c : Nat) (w : World) (h : SlB w A (k :: t) c) (n u : Nat) (hg : getS t = some (n, u)) : Calls Try.prog 50 #[.slice A (k :: t).length c] w (Gots (k :: t) w) := by
  have hm := h.2.2.2
  have hc := h.2.1
  unfold maxLen at hm
  rw [List.length_cons] at hc ⊢
  have htb : ∀ x ∈ t, (0 : Int) ≤ x ∧ x < 256 := fun x hx => h.1.1 x (List.mem_cons_of_mem _ hx)
  have hk := h.1.1 k (by simp)
  obtain ⟨hn, hu, hpu⟩ := (getS_iff t htb n u).1 hg
  have hu10 : u ≤ 10 := by
    have h10 := putL_len64 hn
    rw [hpu, List.length_take] at h10
    omega
  clear hpu
  have hB := (Below.refl w.heap.size w).alloc (Nat.le_refl _) (.cells #[.int .i64 0, .int .i64 0, .string ⟨#[]⟩] 44)
  have hr := getP_read (k := k) hg hn
  have hdl : (t.drop u).length = t.length - u := List.length_drop
  obtain ⟨rk, rn, rs, more, is, hrd⟩ : ∃ rk rn rs more is, rdV k n (t.drop u) = (⟨rk, rn, rs⟩, more, is) := ⟨_, _, _, _, _, rfl⟩
  have hsl := fun W => slice_1 W A t.length c
  have hsl2 := fun W => slice_lo W A (t.length + 1) c (1 + u) (by omega)
  have hd := (Cut.slB_drop h 1 (by simp)).kept hB
  have hcell : w.cell? ⟨b, o, none⟩ = some (.int .u8 k) := by
    rw [hA] at h
    have h0 := isB_cell h.1 0 (by simp)
    rw [Nat.add_zero, List.getD_cons_zero] at h0
    exact h0
  have hix : ∀ W, (Instr.indexAt 28 (.slice A (t.length + 1) c) (.int .i64 0)).run Try.prog W = .ok (.pointer (some ⟨b, o, none⟩)) W := fun W => by
    rw [hA]
    exact index_0 W b o _ c (by omega)
  obtain ⟨D, hD⟩ : ∃ D, D = dropA A 1 c := ⟨_, rfl⟩
  obtain ⟨E, hE⟩ : ∃ E, E = dropA A (1 + u) c := ⟨_, rfl⟩
  have hd2 := Cut.slB_drop h (1 + u) (by rw [List.length_cons]; omega)
  rw [Nat.add_comm 1 u, List.drop_succ_cons, Nat.add_comm u 1] at hd2
  rw [← hD] at hsl hd
  rw [← hE] at hsl2 hd2
  have hGet := LeG.Get_any D t (c - 1) _ (by omega) hd.1
  rw [hg] at hGet
  have HG := Lib.hid hGet
  have hrd' := fun W (hW : Below w.heap.size w W) => read_any k n E (t.drop u) (c - (1 + u)) W hn (hd2.kept hW) (by omega)
  rw [hrd] at hr
  simp only [hrd, hdl] at hrd'
  simp only at hr
  have hmore : (more : Int) ≤ 40 := by
    have h1 : more = (rdV k n (t.drop u)).2.1 := by rw [hrd]
    rw [h1]
    unfold rdV
    split
    · simp
    · split
      · split
        · simp only; omega
        · simp
      · simp
  obtain ⟨L, hL⟩ : ∃ L, L = t.length := ⟨_, rfl⟩
  rw [← hL] at hsl hsl2 HG hc hu ⊢
  simp only [← hL] at hix
  simp only [← hL] at hrd'
  rw [show L + 1 - (1 + u) = L - u from by omega, show ((1 + u : Nat) : Int) = 1 + (u : Int) from by omega] at hsl2
  have hcell' := fun W (hW : Below (w.alloc (.cells #[.int .i64 0, .int .i64 0, .string ⟨#[]⟩] 44)).heap.size (w.alloc (.cells #[.int .i64 0, .int .i64 0, .string ⟨#[]⟩] 44)) W) => show W.cell? ⟨b, o, none⟩ = some (.int .u8 k) from by
    rw [(bt hB hW).cell (World.block_lt_of_cell? w _ hcell)]
    exact hcell
  have HRd := Lib.hid (fun W (hW : Below (w.alloc (.cells #[.int .i64 0, .int .i64 0, .string ⟨#[]⟩] 44)).heap.size (w.alloc (.cells #[.int .i64 0, .int .i64 0, .string ⟨#[]⟩] 44)) W) => hrd' W (bt hB hW))
  have HC := Lib.hid hcell'
  have HR := Lib.hid hr
  have HB := Lib.hid hB
  have HX := Lib.hid (bx_new w (.int .i64 0) (.int .i64 0) (.string ⟨#[]⟩))
  clear hA hB hr hD hE hd hd2 hGet hg hL h hrd hrd' hcell hcell' htb hdl
  go_enter Try.func50, Try.ntmps50
  go_wp2_with fail
  refine HG.out.mono ?_
  rintro e w1 ⟨rfl, rfl⟩
  simp only [LeG.gotV]
  obtain ⟨w1, hw1⟩ : ∃ w1, w1 = w.alloc (.cells #[.int .i64 0, .int .i64 0, .string ⟨#[]⟩] 44) := ⟨_, rfl⟩
  rw [← hw1] at HRd HC HB HX ⊢
  have hsz1 : w.heap.size ≤ w1.heap.size := HB.out.size
  clear hw1 HG
  go_wp2_with fail
  refine RegB.GS_start (fun x => Below w1.heap.size w1 x) (by kernel_rfl) (by repeat (first | exact Reg.frameless_bodyPost | refine Reg.frameless_then ?_ | refine Reg.frameless_inBlock ?_)) (fun W hW => hW) (fun W hW => ?_)
  have HW := Lib.hid hW
  have x0 : ∀ x : RegB.At (fun x => Below w1.heap.size w1 x), x.world.cell? ⟨b, o, none⟩ = some (.int .u8 k) := fun x => HC.out _ x.ok
  haveI : Nonempty (RegB.At (fun x => Below w1.heap.size w1 x)) := ⟨⟨W, hW⟩⟩
  clear hW
  first | (refine RegB.GS_step (i := 0) rfl (by kernel_rfl) (by rfl) (fun K hK => ?_); go_big_quiet_op; refine hK _ ?_; clear hK K)
  first | (refine RegB.GS_step (i := 1) rfl (by kernel_rfl) (by rfl) (fun K hK => ?_); go_big_quiet_op; refine hK _ ?_; clear hK K)
  first | (refine RegB.GS_step (i := 2) rfl (by kernel_rfl) (by rfl) (fun K hK => ?_); go_big_quiet_op; refine hK _ ?_; clear hK K)
  first | (refine RegB.GS_step (i := 3) rfl (by kernel_rfl) (by rfl) (fun K hK => ?_); go_big_quiet_op; refine hK _ ?_; clear hK K)
  first | (refine RegB.GS_step (i := 4) rfl (by kernel_rfl) (by rfl) (fun K hK => ?_); go_big_quiet_op; refine hK _ ?_; clear hK K)
  first | (refine RegB.GS_step (i := 5) rfl (by kernel_rfl) (by rfl) (fun K hK => ?_); go_big_quiet_op; refine hK _ ?_; clear hK K)
  first | (refine RegB.GS_step (i := 6) rfl (by kernel_rfl) (by rfl) (fun K hK => ?_); go_big_quiet_op; refine hK _ ?_; clear hK K)
  first | (refine RegB.GS_step (i := 7) rfl (by kernel_rfl) (by rfl) (fun K hK => ?_); go_big_quiet_op; refine hK _ ?_; clear hK K)
  refine RegB.GS_fork (i := 8) (j := 13) rfl rfl (by kernel_rfl) (by rfl) (by rfl) (fun K hK => ?_) (fun K hK => ?_)
  focus
    go_simp
    refine (HRd.out _ HW.out).mono ?_
    rintro e w4 ⟨rfl, hB4⟩
    simp only [got3]
    refine hK _ _ (bt HW.out hB4) ?_
    clear hK K
    first | (refine RegB.GS_step (i := 9) rfl (by kernel_rfl) (by rfl) (fun K hK => ?_); go_big_quiet_op; refine hK _ ?_; clear hK K)
    first | (refine RegB.GS_step (i := 10) rfl (by kernel_rfl) (by rfl) (fun K hK => ?_); go_big_quiet_op; refine hK _ ?_; clear hK K)
    first | (refine RegB.GS_step (i := 11) rfl (by kernel_rfl) (by rfl) (fun K hK => ?_); go_big_quiet_op; refine hK _ ?_; clear hK K)
    first | (refine RegB.GS_step (i := 12) rfl (by kernel_rfl) (by rfl) (fun K hK => ?_); go_big_quiet_op; refine hK _ ?_; clear hK K)
    refine RegB.GS_event (i := 13) rfl (by kernel_rfl) (by rfl) (fun K hK => ?_)
    go_simp
    refine hK _ _ (bt HW.out (bt hB4 ((Below.refl _ _).alloc (Nat.le_refl _) _))) ?_
    clear hK K
    refine RegB.GS_event (i := 14) rfl (by kernel_rfl) (by rfl) (fun K hK => ?_)
    go_simp
    refine hK _ _ (bt HW.out (bt hB4 ((Below.refl _ _).alloc (Nat.le_refl _) _))) ?_
    clear hK K
    first | (refine RegB.GS_step (i := 15) rfl (by kernel_rfl) (by rfl) (fun K hK => ?_); go_big_quiet_op; refine hK _ ?_; clear hK K)
    first | (refine RegB.GS_step (i := 16) rfl (by kernel_rfl) (by rfl) (fun K hK => ?_); go_big_quiet_op; refine hK _ ?_; clear hK K)
    refine RegB.GS_done (by kernel_rfl) ?_
    have hbx := bx_new w4 (.int .i64 rk) (.int .i64 rn) (.string rs)
    have hbel := bt HW.out (bt hB4 ((Below.refl _ w4).alloc (Nat.le_refl _) (.cells #[.int .i64 rk, .int .i64 rn, .string rs] 44)))
    obtain ⟨bk, hbk⟩ : ∃ bk, bk = w4.heap.size := ⟨_, rfl⟩
    obtain ⟨w5, hw5⟩ : ∃ w5, w5 = w4.alloc (.cells #[.int .i64 rk, .int .i64 rn, .string rs] 44) := ⟨_, rfl⟩
    rw [← hw5] at hbx hbel ⊢
    rw [← hbk] at hbx ⊢
    have HBk := Lib.hid hbx
    have HB5 := Lib.hid hbel
    clear hbx hbel hB4 hbk hw5
  rotate_left
  focus
    go_simp
    refine hK _ _ (bt HW.out ((Below.refl _ _).alloc (Nat.le_refl _) _)) ?_
    clear hK K
    refine RegB.GS_event (i := 8) rfl (by kernel_rfl) (by rfl) (fun K hK => ?_)
    go_simp
    refine (HRd.out _ (bt HW.out ((Below.refl _ _).alloc (Nat.le_refl _) _))).mono ?_
    rintro e w4 ⟨rfl, hB4⟩
    simp only [got3]
    refine hK _ _ (bt HW.out (bt ((Below.refl _ _).alloc (Nat.le_refl _) _) hB4)) ?_
    clear hK K
    first | (refine RegB.GS_step (i := 9) rfl (by kernel_rfl) (by rfl) (fun K hK => ?_); go_big_quiet_op; refine hK _ ?_; clear hK K)
    first | (refine RegB.GS_step (i := 10) rfl (by kernel_rfl) (by rfl) (fun K hK => ?_); go_big_quiet_op; refine hK _ ?_; clear hK K)
    first | (refine RegB.GS_step (i := 11) rfl (by kernel_rfl) (by rfl) (fun K hK => ?_); go_big_quiet_op; refine hK _ ?_; clear hK K)
    first | (refine RegB.GS_step (i := 12) rfl (by kernel_rfl) (by rfl) (fun K hK => ?_); go_big_quiet_op; refine hK _ ?_; clear hK K)
    have hbx0 := (bx_new W (.int .i64 0) (.int .i64 0) (.string ⟨#[]⟩)).kept hB4
    obtain ⟨⟨z0, z1, z2⟩, z3, z4, z5⟩ := hbx0
    have hbel : Below w1.heap.size w1 (((w4.setCell ⟨W.heap.size, 0, none⟩ (.int .i64 rk)).setCell ⟨W.heap.size, 1, none⟩ (.int .i64 rn)).setCell ⟨W.heap.size, 2, none⟩ (.string rs)) := stored3 (bt HW.out (bt ((Below.refl _ W).alloc (Nat.le_refl _) (.cells #[.int .i64 0, .int .i64 0, .string ⟨#[]⟩] 44)) hB4)) HW.out.size _ _ _
    refine RegB.GS_event (i := 14) rfl (by kernel_rfl) (by rfl) (fun K hK => ?_)
    go_simp
    refine hK _ _ hbel ?_
    clear hK K
    first | (refine RegB.GS_step (i := 15) rfl (by kernel_rfl) (by rfl) (fun K hK => ?_); go_big_quiet_op; refine hK _ ?_; clear hK K)
    first | (refine RegB.GS_step (i := 16) rfl (by kernel_rfl) (by rfl) (fun K hK => ?_); go_big_quiet_op; refine hK _ ?_; clear hK K)
    refine RegB.GS_done (by kernel_rfl) ?_
    have hbx := bx_store ((bx_new W (.int .i64 0) (.int .i64 0) (.string ⟨#[]⟩)).kept hB4) (.int .i64 rk) (.int .i64 rn) (.string rs)
    obtain ⟨bk, hbk⟩ : ∃ bk, bk = W.heap.size := ⟨_, rfl⟩
    rw [← hbk] at hbx hbel ⊢
    obtain ⟨w5, hw5⟩ : ∃ w5, w5 = ((w4.setCell ⟨bk, 0, none⟩ (.int .i64 rk)).setCell ⟨bk, 1, none⟩ (.int .i64 rn)).setCell ⟨bk, 2, none⟩ (.string rs) := ⟨_, rfl⟩
    rw [← hw5] at hbx hbel ⊢
    have HBk := Lib.hid hbx
    have HB5 := Lib.hid hbel
    clear hbx hbel hB4 hbk hw5 z0 z1 z2 z3 z4 z5
  all_goals
    cases is
    · have HN := Lib.hid (show gotP (getP (k :: t)) = (⟨0, 0, e0⟩, 0, false) from by rw [HR.out, if_neg (by simp)]; rfl)
      have hx := HX.out.kept HB5.out
      have HBB := Lib.hid HB5.out
      have hst := bx_store hx (.int .i64 0) (.int .i64 0) (.string ⟨#[]⟩)
      obtain ⟨⟨r0, r1, r2⟩, _⟩ := hst
      have R0 := Lib.hid r0
      have R1 := Lib.hid r1
      have R2 := Lib.hid r2
      have HF := Lib.hid (stored3 (bt HB.out HBB.out) (Nat.le_refl _) (.int .i64 0) (.int .i64 0) (.string ⟨#[]⟩))
      obtain ⟨⟨p0, p1, p2⟩, p3, p4, p5⟩ := hx
      clear r0 r1 r2
      go_wp2_with fail
      obtain ⟨W2, hW2⟩ : ∃ W2, W2 = ((w5.setCell ⟨w.heap.size, 0, none⟩ (.int .i64 0)).setCell ⟨w.heap.size, 1, none⟩ (.int .i64 0)).setCell ⟨w.heap.size, 2, none⟩ (.string ⟨#[]⟩) := ⟨_, rfl⟩
      rw [← hW2] at HF R0 R1 R2 ⊢
      have r0 := R0.out
      have r1 := R1.out
      have r2 := R2.out
      clear hW2 p0 p1 p2 p3 p4 p5
      exact bodyPost_ret (v := .tuple #[.agg #[.int .i64 0, .int .i64 0, .string ⟨#[]⟩], .int .i64 0, .bool false]) (by simp [results, Try.results50, go_sem, r0, r1, r2]) rfl ⟨ret_v (by rw [HN.out]; rfl), HF.out⟩
    · obtain ⟨⟨q0, q1, q2⟩, _⟩ := HBk.out
      go_wp2_with fail
      refine (May_any rk rn rs _).mono ?_
      rintro e w6 ⟨rfl, hb6⟩
      have hx := HX.out.kept (bt HB5.out hb6)
      have HBB := Lib.hid (bt HB5.out hb6)
      have HBk6 := Lib.hid (HBk.out.kept hb6)
      clear q0 q1 q2 hb6 HB5 HBk
      by_cases hmay : May ⟨rk, rn, rs⟩
      · rw [decide_eq_true hmay]
        have HN := Lib.hid (show gotP (getP (k :: t)) = (⟨rk, rn, rs⟩, 1 + u + more, true) from by rw [HR.out, if_pos ⟨trivial, hmay⟩]; rfl)
        have hst := bx_store hx (.int .i64 rk) (.int .i64 rn) (.string rs)
        obtain ⟨⟨r0, r1, r2⟩, _⟩ := hst
        have R0 := Lib.hid r0
        have R1 := Lib.hid r1
        have R2 := Lib.hid r2
        have HF := Lib.hid (stored3 (bt HB.out HBB.out) (Nat.le_refl _) (.int .i64 rk) (.int .i64 rn) (.string rs))
        obtain ⟨⟨p0, p1, p2⟩, p3, p4, p5⟩ := hx
        obtain ⟨⟨q0, q1, q2⟩, _⟩ := HBk6.out
        clear r0 r1 r2 hmay
        go_wp2_with fail
        obtain ⟨W2, hW2⟩ : ∃ W2, W2 = ((w6.setCell ⟨w.heap.size, 0, none⟩ (.int .i64 rk)).setCell ⟨w.heap.size, 1, none⟩ (.int .i64 rn)).setCell ⟨w.heap.size, 2, none⟩ (.string rs) := ⟨_, rfl⟩
        rw [← hW2] at HF R0 R1 R2 ⊢
        have r0 := R0.out
        have r1 := R1.out
        have r2 := R2.out
        clear hW2 p0 p1 p2 p3 p4 p5 q0 q1 q2
        have hw64 : wrap64 (1 + (u : Int) + (more : Int)) = 1 + (u : Int) + (more : Int) := IntWalk.wrap64_in _ (by omega)
        have hcast : ((1 + u + more : Nat) : Int) = 1 + (u : Int) + (more : Int) := by omega
        exact bodyPost_ret (v := .tuple #[.agg #[.int .i64 rk, .int .i64 rn, .string rs], .int .i64 (1 + (u : Int) + more), .bool true]) (by simp [results, Try.results50, go_sem, r0, r1, r2]) rfl ⟨ret_v (by rw [HN.out, got3]; simp only [hcast]), HF.out⟩
      · rw [decide_eq_false hmay]
        have HN := Lib.hid (show gotP (getP (k :: t)) = (⟨0, 0, e0⟩, 0, false) from by rw [HR.out, if_neg (fun h => hmay h.2)]; rfl)
        clear hmay
        have hst := bx_store hx (.int .i64 0) (.int .i64 0) (.string ⟨#[]⟩)
        obtain ⟨⟨r0, r1, r2⟩, _⟩ := hst
        have R0 := Lib.hid r0
        have R1 := Lib.hid r1
        have R2 := Lib.hid r2
        have HF := Lib.hid (stored3 (bt HB.out HBB.out) (Nat.le_refl _) (.int .i64 0) (.int .i64 0) (.string ⟨#[]⟩))
        obtain ⟨⟨p0, p1, p2⟩, p3, p4, p5⟩ := hx
        clear r0 r1 r2
        go_wp2_with fail
        obtain ⟨W2, hW2⟩ : ∃ W2, W2 = ((w6.setCell ⟨w.heap.size, 0, none⟩ (.int .i64 0)).setCell ⟨w.heap.size, 1, none⟩ (.int .i64 0)).setCell ⟨w.heap.size, 2, none⟩ (.string ⟨#[]⟩) := ⟨_, rfl⟩
        rw [← hW2] at HF R0 R1 R2 ⊢
        have r0 := R0.out
        have r1 := R1.out
        have r2 := R2.out
        clear hW2 p0 p1 p2 p3 p4 p5
        exact bodyPost_ret (v := .tuple #[.agg #[.int .i64 0, .int .i64 0, .string ⟨#[]⟩], .int .i64 0, .bool false]) (by simp [results, Try.results50, go_sem, r0, r1, r2]) rfl ⟨ret_v (by rw [HN.out]; rfl), HF.out⟩

/-- Get of any bytes. -/
theorem Get_any (A : Option Addr) (xs : List Int) (c : Nat) (w : World) (h : SlB w A xs c) : Calls Try.prog 50 #[.slice A xs.length c] w (Gots xs w) := by
  cases xs with
  | nil => exact Get_nil A c w
  | cons k t =>
    cases hg : getS t with
    | none => exact Get_no A k t c w h hg
    | some p =>
      obtain ⟨n, u⟩ := p
      obtain ⟨b, o, hA, _⟩ := h.1.2 (by simp)
      exact Get_yes A b o hA k t c w h n u hg
end Go.Proofs.Ytbakhodijhacoaa.Va
