/- The walk of FrameParts: however bytes are cut the frames are the same, and so is what is left; no condition. -/
import Derived.Test.YtofmgbncaokmdaaFrameAwake
import Derived.Test.YtofmgbncaokmdaaFrameRef
import Derived.Test.YtofmgbncaokmdaaRegionB
namespace Go.Proofs.Ytofmgbncaokmdaa.Fr
open Go.RowKit Go.Proofs.Ytofmgbncaokmdaa.BM Go.Proofs.Ytofmgbncaokmdaa.LM Go.Proofs.Ytofmgbncaokmdaa.Std Go.Proofs.Ytofmgbncaokmdaa.FrM

theorem Feed_loc (d : Bool) (A B : Option Addr) (xs ys : List Int) (n m c k : Nat) (w : World) (h : SlB w A xs c) (g : SlB w B ys k) (hn : xs.length = n) (hk : ys.length = m) (hm : n + m ≤ 100000000) (r : R) (hr : feed' d xs ys = r) :
    ∀ W, Below w.heap.size w W → Calls Try.prog 13 #[.agg #[.slice A n c, .bool d], .slice B m k] W (FeedLoc W r) := by
  subst hn
  subst hk
  subst hr
  intro W hW
  exact Feed_any d A B xs ys c k W (h.kept hW) (g.kept hW) hm

theorem isL_set2 {B b : Nat} {w : World} {V : Option Addr} {k : Nat} {fs : List (List Int)} (h : IsL (fun x => B ≤ x) w V k fs) (hV : ∀ a, V = some a → B ≤ a.block) (hb : b < B) (u0 u1 : Value) :
    IsL (fun x => B ≤ x) ((w.setCell ⟨b, 0, none⟩ u0).setCell ⟨b, 1, none⟩ u1) V k fs := by
  have hg := grownBy_set2 w b u0 u1
  obtain ⟨⟨vs, h1, h2⟩, h3⟩ := h
  exact ⟨⟨vs, isRow_grown h1 hg (fun a ha e => by have := hV a ha; injection e with e; omega), h2.map fun _ _ h => h.grown hg fun x hx e => by injection e with e; omega⟩, h3⟩

/-- The framer is laid behind the call. -/
theorem put_new {W w4 : World} {A V : Option Addr} {left : List Int} {c k : Nat} {fs : List (List Int)} (hB : Below W.heap.size W w4) (hS : SlB w4 A left c) (hL : IsL (fun x => W.heap.size ≤ x) w4 V k fs) (v0 v1 : Value) :
    Below W.heap.size W (w4.alloc (.cells #[v0, v1] 24)) ∧ Box (w4.alloc (.cells #[v0, v1] 24)) w4.heap.size v0 v1 ∧ SlB (w4.alloc (.cells #[v0, v1] 24)) A left c ∧
      IsL (fun x => W.heap.size ≤ x) (w4.alloc (.cells #[v0, v1] 24)) V k fs := by
  have ha := (Below.refl w4.heap.size w4).alloc (Nat.le_refl _) (.cells #[v0, v1] 24)
  exact ⟨bt hB ha, box_new w4 v0 v1, hS.kept ha, hL.kept ha⟩

/-- The framer was laid ahead of the call. -/
theorem put_old {W w4 : World} {A V : Option Addr} {left : List Int} {c k : Nat} {fs : List (List Int)} {z0 z1 : Value} (hB : Below (W.alloc (.cells #[z0, z1] 24)).heap.size (W.alloc (.cells #[z0, z1] 24)) w4) (hS : SlB w4 A left c)
    (hL : IsL (fun x => (W.alloc (.cells #[z0, z1] 24)).heap.size ≤ x) w4 V k fs) (hA : ∀ a, A = some a → (W.alloc (.cells #[z0, z1] 24)).heap.size ≤ a.block)
    (hV : ∀ a, V = some a → (W.alloc (.cells #[z0, z1] 24)).heap.size ≤ a.block) (v0 v1 : Value) :
    Below W.heap.size W ((w4.setCell ⟨W.heap.size, 0, none⟩ v0).setCell ⟨W.heap.size, 1, none⟩ v1) ∧ Box ((w4.setCell ⟨W.heap.size, 0, none⟩ v0).setCell ⟨W.heap.size, 1, none⟩ v1) W.heap.size v0 v1 ∧
      SlB ((w4.setCell ⟨W.heap.size, 0, none⟩ v0).setCell ⟨W.heap.size, 1, none⟩ v1) A left c ∧ IsL (fun x => W.heap.size ≤ x) ((w4.setCell ⟨W.heap.size, 0, none⟩ v0).setCell ⟨W.heap.size, 1, none⟩ v1) V k fs := by
  have hz : (W.alloc (.cells #[z0, z1] 24)).heap.size = W.heap.size + 1 := by simp
  rw [hz] at hL hA hV
  have ha := (Below.refl W.heap.size W).alloc (Nat.le_refl _) (.cells #[z0, z1] 24)
  refine ⟨Below.stored (bt ha hB) (Nat.le_refl _) _ _, box_store ((box_new W z0 z1).kept hB) _ _, SlB.off (SlB.off hS fun a ha => ?_) fun a ha => ?_, (isL_set2 hL hV (Nat.lt_succ_self _) v0 v1).mono fun b _ hb => by omega⟩
  · have := hA a ha
    omega
  · have := hA a ha
    omega

set_option maxRecDepth 100000 in
set_option maxHeartbeats 1000000 in
theorem parts_up (a0 : Option Addr) (len0 cap0 : Nat) (d0 : Bool) (a1 : Option Addr) (len1 cap1 : Nat) (t : Int) (w : World) (l0 : len0 ≤ 9223372036854775807) (l1 : len1 ≤ 9223372036854775807)
    (h : 1500 < len0 ∨ (¬ 1500 < len0 ∧ 1500 < len1) ∨ (¬ 1500 < len0 ∧ ¬ 1500 < len1 ∧ t < 0) ∨ (¬ 1500 < len0 ∧ ¬ 1500 < len1 ∧ ¬ t < 0 ∧ (len1 : Int) < t)) :
    Calls Try.prog 4 #[.agg #[.slice a0 len0 cap0, .bool d0], .slice a1 len1 cap1, .int .i64 t] w fun e w' => e = .returned (.bool true) ∧ Below w.heap.size w w' := by
  have ha := (Below.refl w.heap.size w).alloc (Nat.le_refl _) (.cells #[.slice a0 len0 cap0, .bool d0] 24)
  have Haw := Lib.hid (awake_any (w.alloc (.cells #[.slice a0 len0 cap0, .bool d0] 24)))
  have HA := Lib.hid ha
  have HBx := Lib.hid (box_new w (.slice a0 len0 cap0) (.bool d0))
  clear ha
  rcases h with h | ⟨h, h'⟩ | ⟨h, h', h''⟩ | ⟨h, h', h'', h3⟩
  all_goals
    go_enter Try.func4, Try.ntmps4
    go_wp2_with fail
    refine Haw.out.mono ?_
    rintro e w1 ⟨rfl, hb1⟩
    obtain ⟨p0, p1, p2, p3⟩ := HBx.out.kept hb1
    have HB := Lib.hid (bt HA.out hb1)
    clear hb1
    go_wp2_with fail
    go_ret
    exact ⟨rfl, HB.out⟩

set_option maxRecDepth 100000 in
set_option maxHeartbeats 2000000 in
theorem parts_in (a0 : Option Addr) (fb : List Int) (len0 cap0 : Nat) (d0 : Bool) (a1 : Option Addr) (b : List Int) (len1 cap1 : Nat) (t : Nat) (w : World) (l0 : len0 ≤ 1500) (l1 : len1 ≤ 1500) (lt : t ≤ len1)
    (e0 : fb.length = len0) (e1 : b.length = len1) (s0 : SlB w a0 fb cap0) (s1 : SlB w a1 b cap1) :
    Calls Try.prog 4 #[.agg #[.slice a0 len0 cap0, .bool d0], .slice a1 len1 cap1, .int .i64 (t : Int)] w fun e w' => e = .returned (.bool true) ∧ Below w.heap.size w w' := by
  have ha := (Below.refl w.heap.size w).alloc (Nat.le_refl _) (.cells #[.slice a0 len0 cap0, .bool d0] 24)
  have Haw := Lib.hid (awake_any (w.alloc (.cells #[.slice a0 len0 cap0, .bool d0] 24)))
  have HA := Lib.hid ha
  have HBx := Lib.hid (box_new w (.slice a0 len0 cap0) (.bool d0))
  have hcap := s1.2.1
  rw [e1] at hcap
  obtain ⟨dy, ly, fy, hry⟩ : ∃ dy ly fy, feed' d0 fb (b.take t) = ⟨dy, ly, fy⟩ := ⟨_, _, _, rfl⟩
  obtain ⟨dz, lz, fz, hrz⟩ : ∃ dz lz fz, feed' dy ly (b.drop t) = ⟨dz, lz, fz⟩ := ⟨_, _, _, rfl⟩
  have hrx : feed' d0 fb b = ⟨dz, lz, fy ++ fz⟩ := by
    have h := feed'_app d0 fb (b.take t) (b.drop t)
    rw [List.take_append_drop, hry] at h
    simp only at h
    rw [hrz] at h
    rw [h]
    rfl
  obtain ⟨fx, hfx⟩ : ∃ fx, fx = fy ++ fz := ⟨_, rfl⟩
  rw [← hfx] at hrx
  have hlt : (b.take t).length = t := by rw [List.length_take]; omega
  have hld : (b.drop t).length = len1 - t := by rw [List.length_drop]; omega
  have hly : ly.length ≤ 3000 := by have := feed'_len d0 fb (b.take t); rw [hry, hlt, e0] at this; simp only at this; omega
  have hfy : fy.length ≤ 3000 := by have := feed'_many d0 fb (b.take t); rw [hry, hlt, e0] at this; simp only at this; omega
  have hlz : lz.length ≤ 4500 := by have := feed'_len dy ly (b.drop t); rw [hrz, hld] at this; simp only at this; omega
  have hfz : fz.length ≤ 4500 := by have := feed'_many dy ly (b.drop t); rw [hrz, hld] at this; simp only at this; omega
  have hfl : fx.length = fy.length + fz.length := by rw [hfx, List.length_append]
  have hsu := slB_head s1 t cap1 (by omega) (by omega) (by omega)
  have hsv := slB_cut s1 t len1 cap1 (by omega) (by omega) (by omega) (by omega)
  rw [List.take_of_length_le (by rw [hld]; omega)] at hsv
  have HF := Lib.hid (Feed_later d0 a0 a1 fb b len0 len1 cap0 cap1 w s0 s1 e0 e1 (by omega) _ hrx)
  have HG := Lib.hid (Feed_loc d0 a0 a1 fb (b.take t) len0 t cap0 cap1 w s0 hsu e0 hlt (by omega) _ hry)
  obtain ⟨D, hD⟩ : ∃ D, D = dropA a1 t cap1 := ⟨_, rfl⟩
  rw [← hD] at hsv
  have hs1 := fun W : World => slice_hi W a1 len1 cap1 t (by omega)
  have hs2 : ∀ W : World, (Instr.sliceAt 22 (.slice a1 len1 cap1) (some (.int .i64 (t : Int))) none none).run Try.prog W = .ok (.slice D (len1 - t) (cap1 - t)) W := fun W => by rw [hD]; exact slice_lo W a1 len1 cap1 t lt
  have HV := Lib.hid hsv
  have HRz := Lib.hid hrz
  have HFx := Lib.hid hfx
  have HFl := Lib.hid hfl
  have HLd := Lib.hid hld
  have hcm : cap1 ≤ 9223372036854775807 := by have := s1.2.2.2; unfold maxLen at this; omega
  clear ha hry hrz hrx hfx hfl hlt hld hsu hsv s0 s1 e0 e1 hD
  go_enter Try.func4, Try.ntmps4
  go_wp2_with fail
  refine Haw.out.mono ?_
  rintro e w1 ⟨rfl, hb1⟩
  have HBx1 := Lib.hid (HBx.out.kept hb1)
  have HB1 := Lib.hid (bt HA.out hb1)
  obtain ⟨p0, p1, p2, p3⟩ := HBx.out.kept hb1
  clear hb1 HBx HA Haw
  go_wp2_with fail
  refine (HF.out _ HB1.out).mono ?_
  rintro e w2 ⟨A2, c2, V2, k2, rfl, h2, hl2, hB2⟩
  simp only [frm]
  obtain ⟨nq, hnq⟩ : ∃ nq, nq = lz.length := ⟨_, rfl⟩
  obtain ⟨nx, hnx⟩ : ∃ nx, nx = fx.length := ⟨_, rfl⟩
  rw [← hnq] at hlz ⊢
  rw [← hnx]
  have HNq := Lib.hid hnq
  have HNx := Lib.hid hnx
  have ha3 := (Below.refl w2.heap.size w2).alloc (Nat.le_refl _) (.cells #[.slice A2 nq c2, .bool dz] 24)
  have HB3 := Lib.hid (bt (bt HB1.out hB2) ha3)
  have HBf3 := Lib.hid ((HBx1.out.kept hB2).kept ha3)
  have HBx3 := Lib.hid (box_new w2 (.slice A2 nq c2) (.bool dz))
  have HX3 := Lib.hid (h2.kept ha3)
  have HL3 := Lib.hid (hl2.kept ha3)
  clear p0 p1 p2 p3 ha3 hB2 h2 hl2 HBx1 HB1 hnq hnx
  go_wp2_with fail
  refine RegB.GS_start (fun x => Box x w.heap.size (.slice a0 len0 cap0) (.bool d0)) (by kernel_rfl) (by repeat (first | exact Reg.frameless_bodyPost | refine Reg.frameless_then ?_ | refine Reg.frameless_inBlock ?_)) (fun W hW => HBf3.out.kept hW) (fun W hW => ?_)
  have HW := Lib.hid hW
  have HBase := Lib.hid HB3.out
  have x0 : ∀ x : RegB.At (fun x => Box x w.heap.size (.slice a0 len0 cap0) (.bool d0)), x.world.cell? ⟨w.heap.size, 0, none⟩ = some (.slice a0 len0 cap0) := fun x => x.ok.1
  have x1 : ∀ x : RegB.At (fun x => Box x w.heap.size (.slice a0 len0 cap0) (.bool d0)), x.world.cell? ⟨w.heap.size, 1, none⟩ = some (.bool d0) := fun x => x.ok.2.1
  haveI : Nonempty (RegB.At (fun x => Box x w.heap.size (.slice a0 len0 cap0) (.bool d0))) := ⟨⟨W, HBf3.out.kept hW⟩⟩
  clear hW
  first | (refine RegB.GS_step (i := 0) rfl (by kernel_rfl) (by rfl) (fun K hK => ?_); go_big_quiet_op; refine hK _ ?_; clear hK K)
  first | (refine RegB.GS_step (i := 1) rfl (by kernel_rfl) (by rfl) (fun K hK => ?_); go_big_quiet_op; refine hK _ ?_; clear hK K)
  first | (refine RegB.GS_step (i := 2) rfl (by kernel_rfl) (by rfl) (fun K hK => ?_); go_big_quiet_op; refine hK _ ?_; clear hK K)
  first | (refine RegB.GS_step (i := 3) rfl (by kernel_rfl) (by rfl) (fun K hK => ?_); go_big_quiet_op; refine hK _ ?_; clear hK K)
  refine RegB.GS_fork (i := 4) (j := 8) rfl rfl (by kernel_rfl) (by rfl) (by rfl) (fun K hK => ?_) (fun K hK => ?_)
  focus
    go_simp
    refine (HG.out _ (bt HBase.out HW.out)).mono ?_
    rintro e wy ⟨Ay, cy, Vy, ky, rfl, h4, hl4, hB4, hA4, hV4⟩
    simp only [frm]
    obtain ⟨ny, hn4⟩ : ∃ ny, ny = ly.length := ⟨_, rfl⟩
    obtain ⟨my, hm4⟩ : ∃ my, my = fy.length := ⟨_, rfl⟩
    rw [← hn4, ← hm4]
    have HNy := Lib.hid hn4
    have HMy := Lib.hid hm4
    clear hn4 hm4
    refine hK _ _ ((HBf3.out.kept HW.out).kept hB4) ?_
    clear hK K
    first | (refine RegB.GS_step (i := 5) rfl (by kernel_rfl) (by rfl) (fun K hK => ?_); go_big_quiet_op; refine hK _ ?_; clear hK K)
    first | (refine RegB.GS_step (i := 6) rfl (by kernel_rfl) (by rfl) (fun K hK => ?_); go_big_quiet_op; refine hK _ ?_; clear hK K)
    first | (refine RegB.GS_step (i := 7) rfl (by kernel_rfl) (by rfl) (fun K hK => ?_); go_big_quiet_op; refine hK _ ?_; clear hK K)
    refine RegB.GS_event (i := 8) rfl (by kernel_rfl) (by rfl) (fun K hK => ?_)
    go_simp
    refine hK _ _ (((HBf3.out.kept HW.out).kept hB4).kept ((Below.refl _ _).alloc (Nat.le_refl _) _)) ?_
    clear hK K
    refine RegB.GS_event (i := 9) rfl (by kernel_rfl) (by rfl) (fun K hK => ?_)
    go_simp
    refine hK _ _ (((HBf3.out.kept HW.out).kept hB4).kept ((Below.refl _ _).alloc (Nat.le_refl _) _)) ?_
    clear hK K
    first | (refine RegB.GS_step (i := 10) rfl (by kernel_rfl) (by rfl) (fun K hK => ?_); go_big_quiet_op; refine hK _ ?_; clear hK K)
    refine RegB.GS_done (by kernel_rfl) ?_
    obtain ⟨f1, f2, f3, f4⟩ := put_new hB4 h4 hl4 (.slice Ay ny cy) (.bool dy)
    obtain ⟨bky, hbY⟩ : ∃ bky, bky = wy.heap.size := ⟨_, rfl⟩
    obtain ⟨Wy, hWy⟩ : ∃ Wy, Wy = wy.alloc (.cells #[(.slice Ay ny cy), (.bool dy)] 24) := ⟨_, rfl⟩
    rw [← hWy] at f1 f2 f3 f4 ⊢
    rw [← hbY] at f2 ⊢
  rotate_left
  focus
    go_simp
    refine hK _ _ ((HBf3.out.kept HW.out).kept ((Below.refl _ _).alloc (Nat.le_refl _) _)) ?_
    clear hK K
    refine RegB.GS_event (i := 4) rfl (by kernel_rfl) (by rfl) (fun K hK => ?_)
    go_simp
    refine (HG.out _ (bt (bt HBase.out HW.out) ((Below.refl _ _).alloc (Nat.le_refl _) _))).mono ?_
    rintro e wy ⟨Ay, cy, Vy, ky, rfl, h4, hl4, hB4, hA4, hV4⟩
    simp only [frm]
    obtain ⟨ny, hn4⟩ : ∃ ny, ny = ly.length := ⟨_, rfl⟩
    obtain ⟨my, hm4⟩ : ∃ my, my = fy.length := ⟨_, rfl⟩
    rw [← hn4, ← hm4]
    have HNy := Lib.hid hn4
    have HMy := Lib.hid hm4
    clear hn4 hm4
    refine hK _ _ (((HBf3.out.kept HW.out).kept ((Below.refl _ _).alloc (Nat.le_refl _) _)).kept hB4) ?_
    clear hK K
    first | (refine RegB.GS_step (i := 5) rfl (by kernel_rfl) (by rfl) (fun K hK => ?_); go_big_quiet_op; refine hK _ ?_; clear hK K)
    first | (refine RegB.GS_step (i := 6) rfl (by kernel_rfl) (by rfl) (fun K hK => ?_); go_big_quiet_op; refine hK _ ?_; clear hK K)
    first | (refine RegB.GS_step (i := 7) rfl (by kernel_rfl) (by rfl) (fun K hK => ?_); go_big_quiet_op; refine hK _ ?_; clear hK K)
    obtain ⟨f1, f2, f3, f4⟩ := put_old hB4 h4 hl4 hA4 hV4 (.slice Ay ny cy) (.bool dy)
    obtain ⟨z0, z1, z2, z3⟩ := (box_new W (.slice none 0 0) (.bool false)).kept hB4
    refine RegB.GS_event (i := 9) rfl (by kernel_rfl) (by rfl) (fun K hK => ?_)
    go_simp
    refine hK _ _ ((HBf3.out.kept HW.out).kept f1) ?_
    clear hK K z0 z1 z2 z3
    first | (refine RegB.GS_step (i := 10) rfl (by kernel_rfl) (by rfl) (fun K hK => ?_); go_big_quiet_op; refine hK _ ?_; clear hK K)
    refine RegB.GS_done (by kernel_rfl) ?_
    obtain ⟨bky, hbY⟩ : ∃ bky, bky = W.heap.size := ⟨_, rfl⟩
    obtain ⟨Wy, hWy⟩ : ∃ Wy, Wy = (wy.setCell ⟨W.heap.size, 0, none⟩ (.slice Ay ny cy)).setCell ⟨W.heap.size, 1, none⟩ (.bool dy) := ⟨_, rfl⟩
    rw [← hWy] at f1 f2 f3 f4 ⊢
    rw [← hbY] at f2 ⊢
  all_goals
    have HBy := Lib.hid (bt HB3.out (bt HW.out f1))
    have HX := Lib.hid (HX3.out.kept (bt HW.out f1))
    have HL := Lib.hid (HL3.out.kept (bt HW.out f1))
    have HBx := Lib.hid (HBx3.out.kept (bt HW.out f1))
    have HBoxy := Lib.hid f2
    have HSy := Lib.hid f3
    have HLy := Lib.hid f4
    clear hWy hbY f1 f2 f3 f4 h4 hl4 hB4 hA4 hV4 x0 x1
    have HBase := Lib.hid (Below.refl Wy.heap.size Wy)
    have HG2 := Lib.hid (Feed_loc dy Ay D ly (b.drop t) ny (len1 - t) cy (cap1 - t) Wy HSy.out (HV.out.kept HBy.out) HNy.out.symm HLd.out (by have := HNy.out; omega) _ HRz.out)
    go_wp2_with fail
    refine RegB.GS_start (fun x => Box x bky (.slice Ay ny cy) (.bool dy)) (by kernel_rfl) (by repeat (first | exact Reg.frameless_bodyPost | refine Reg.frameless_then ?_ | refine Reg.frameless_inBlock ?_)) (fun W hW => HBoxy.out.kept hW) (fun W hW => ?_)
    have HW := Lib.hid hW
    have x0 : ∀ x : RegB.At (fun x => Box x bky (.slice Ay ny cy) (.bool dy)), x.world.cell? ⟨bky, 0, none⟩ = some (.slice Ay ny cy) := fun x => x.ok.1
    have x1 : ∀ x : RegB.At (fun x => Box x bky (.slice Ay ny cy) (.bool dy)), x.world.cell? ⟨bky, 1, none⟩ = some (.bool dy) := fun x => x.ok.2.1
    haveI : Nonempty (RegB.At (fun x => Box x bky (.slice Ay ny cy) (.bool dy))) := ⟨⟨W, HBoxy.out.kept hW⟩⟩
    clear hW
    first | (refine RegB.GS_step (i := 0) rfl (by kernel_rfl) (by rfl) (fun K hK => ?_); go_big_quiet_op; refine hK _ ?_; clear hK K)
    first | (refine RegB.GS_step (i := 1) rfl (by kernel_rfl) (by rfl) (fun K hK => ?_); go_big_quiet_op; refine hK _ ?_; clear hK K)
    first | (refine RegB.GS_step (i := 2) rfl (by kernel_rfl) (by rfl) (fun K hK => ?_); go_big_quiet_op; refine hK _ ?_; clear hK K)
    first | (refine RegB.GS_step (i := 3) rfl (by kernel_rfl) (by rfl) (fun K hK => ?_); go_big_quiet_op; refine hK _ ?_; clear hK K)
    refine RegB.GS_fork (i := 4) (j := 8) rfl rfl (by kernel_rfl) (by rfl) (by rfl) (fun K hK => ?_) (fun K hK => ?_)
    focus
      go_simp
      refine (HG2.out _ (bt HBase.out HW.out)).mono ?_
      rintro e wz ⟨Az, cz, Vz, kz, rfl, h4, hl4, hB4, hA4, hV4⟩
      simp only [frm]
      obtain ⟨nz, hn4⟩ : ∃ nz, nz = lz.length := ⟨_, rfl⟩
      obtain ⟨mz, hm4⟩ : ∃ mz, mz = fz.length := ⟨_, rfl⟩
      rw [← hn4, ← hm4]
      have HNz := Lib.hid hn4
      have HMz := Lib.hid hm4
      clear hn4 hm4
      refine hK _ _ ((HBoxy.out.kept HW.out).kept hB4) ?_
      clear hK K
      first | (refine RegB.GS_step (i := 5) rfl (by kernel_rfl) (by rfl) (fun K hK => ?_); go_big_quiet_op; refine hK _ ?_; clear hK K)
      first | (refine RegB.GS_step (i := 6) rfl (by kernel_rfl) (by rfl) (fun K hK => ?_); go_big_quiet_op; refine hK _ ?_; clear hK K)
      first | (refine RegB.GS_step (i := 7) rfl (by kernel_rfl) (by rfl) (fun K hK => ?_); go_big_quiet_op; refine hK _ ?_; clear hK K)
      refine RegB.GS_event (i := 8) rfl (by kernel_rfl) (by rfl) (fun K hK => ?_)
      go_simp
      refine hK _ _ (((HBoxy.out.kept HW.out).kept hB4).kept ((Below.refl _ _).alloc (Nat.le_refl _) _)) ?_
      clear hK K
      refine RegB.GS_event (i := 9) rfl (by kernel_rfl) (by rfl) (fun K hK => ?_)
      go_simp
      refine hK _ _ (((HBoxy.out.kept HW.out).kept hB4).kept ((Below.refl _ _).alloc (Nat.le_refl _) _)) ?_
      clear hK K
      first | (refine RegB.GS_step (i := 10) rfl (by kernel_rfl) (by rfl) (fun K hK => ?_); go_big_quiet_op; refine hK _ ?_; clear hK K)
      refine RegB.GS_done (by kernel_rfl) ?_
      obtain ⟨f1, f2, f3, f4⟩ := put_new hB4 h4 hl4 (.slice Az nz cz) (.bool dz)
      obtain ⟨bkz, hbY⟩ : ∃ bkz, bkz = wz.heap.size := ⟨_, rfl⟩
      obtain ⟨Wz, hWy⟩ : ∃ Wz, Wz = wz.alloc (.cells #[(.slice Az nz cz), (.bool dz)] 24) := ⟨_, rfl⟩
      rw [← hWy] at f1 f2 f3 f4 ⊢
      rw [← hbY] at f2 ⊢
    rotate_left
    focus
      go_simp
      refine hK _ _ ((HBoxy.out.kept HW.out).kept ((Below.refl _ _).alloc (Nat.le_refl _) _)) ?_
      clear hK K
      refine RegB.GS_event (i := 4) rfl (by kernel_rfl) (by rfl) (fun K hK => ?_)
      go_simp
      refine (HG2.out _ (bt (bt HBase.out HW.out) ((Below.refl _ _).alloc (Nat.le_refl _) _))).mono ?_
      rintro e wz ⟨Az, cz, Vz, kz, rfl, h4, hl4, hB4, hA4, hV4⟩
      simp only [frm]
      obtain ⟨nz, hn4⟩ : ∃ nz, nz = lz.length := ⟨_, rfl⟩
      obtain ⟨mz, hm4⟩ : ∃ mz, mz = fz.length := ⟨_, rfl⟩
      rw [← hn4, ← hm4]
      have HNz := Lib.hid hn4
      have HMz := Lib.hid hm4
      clear hn4 hm4
      refine hK _ _ (((HBoxy.out.kept HW.out).kept ((Below.refl _ _).alloc (Nat.le_refl _) _)).kept hB4) ?_
      clear hK K
      first | (refine RegB.GS_step (i := 5) rfl (by kernel_rfl) (by rfl) (fun K hK => ?_); go_big_quiet_op; refine hK _ ?_; clear hK K)
      first | (refine RegB.GS_step (i := 6) rfl (by kernel_rfl) (by rfl) (fun K hK => ?_); go_big_quiet_op; refine hK _ ?_; clear hK K)
      first | (refine RegB.GS_step (i := 7) rfl (by kernel_rfl) (by rfl) (fun K hK => ?_); go_big_quiet_op; refine hK _ ?_; clear hK K)
      obtain ⟨f1, f2, f3, f4⟩ := put_old hB4 h4 hl4 hA4 hV4 (.slice Az nz cz) (.bool dz)
      obtain ⟨z0, z1, z2, z3⟩ := (box_new W (.slice none 0 0) (.bool false)).kept hB4
      refine RegB.GS_event (i := 9) rfl (by kernel_rfl) (by rfl) (fun K hK => ?_)
      go_simp
      refine hK _ _ ((HBoxy.out.kept HW.out).kept f1) ?_
      clear hK K z0 z1 z2 z3
      first | (refine RegB.GS_step (i := 10) rfl (by kernel_rfl) (by rfl) (fun K hK => ?_); go_big_quiet_op; refine hK _ ?_; clear hK K)
      refine RegB.GS_done (by kernel_rfl) ?_
      obtain ⟨bkz, hbY⟩ : ∃ bkz, bkz = W.heap.size := ⟨_, rfl⟩
      obtain ⟨Wz, hWy⟩ : ∃ Wz, Wz = (wz.setCell ⟨W.heap.size, 0, none⟩ (.slice Az nz cz)).setCell ⟨W.heap.size, 1, none⟩ (.bool dz) := ⟨_, rfl⟩
      rw [← hWy] at f1 f2 f3 f4 ⊢
      rw [← hbY] at f2 ⊢
    all_goals
      have hB := bt HW.out f1
      have HBz := Lib.hid (bt HBy.out hB)
      have HXz := Lib.hid (HX.out.kept hB)
      have HLz := Lib.hid (HL.out.kept hB)
      have HM := Lib.hid (HLy.out.kept hB)
      have HNn := Lib.hid f4
      have hbx := HBx.out.kept hB
      obtain rfl : nq = nz := by rw [HNq.out, HNz.out]
      have hsm := refSame_any A2 Az lz lz c2 cz dz dz Wz HXz.out f3
      simp only [frm, beq_self_eq_true, decide_true, Bool.and_self] at hsm
      rw [← HNq.out] at hsm
      have HSm := Lib.hid hsm
      obtain ⟨p0, p1, p2, p3⟩ := hbx
      obtain ⟨q0, q1, q2, q3⟩ := f2
      clear hWy hbY hsm f1 f3 f4 h4 hl4 hB4 hA4 hV4 x0 x1 hB
      go_wp2_with fail
      refine HSm.out.mono ?_
      rintro e w8 ⟨rfl, hB8⟩
      have HB8 := Lib.hid (bt HBz.out hB8)
      obtain ⟨⟨vs, hrm, hEm⟩, hcm1, hcm2, hcm3⟩ := HM.out.kept hB8
      obtain ⟨⟨us, hrn, hEn⟩, hcn1, hcn2, hcn3⟩ := HNn.out.kept hB8
      have HL8 := Lib.hid (HLz.out.kept hB8)
      have HVl := Lib.hid (show vs.length = my from by rw [hEm.len, HMy.out])
      have HUl := Lib.hid (show us.length = mz from by rw [hEn.len, HMz.out])
      have HRm := Lib.hid hrm
      have HEm := Lib.hid (hEm.map fun _ _ h => h.mono (q := ne (.slice none 0 0)) fun b _ _ e => by cases e)
      have HRn := Lib.hid hrn
      have HEn := Lib.hid hEn
      have HCm := Lib.hid hcm2
      have HCn := Lib.hid hcn2
      have hmy : my ≤ 3000 := by rw [HMy.out]; exact hfy
      have hmz : mz ≤ 4500 := by rw [HMz.out]; exact hfz
      clear hB8 hrm hEm hrn hEn p0 p1 p2 p3 q0 q1 q2 q3 HBz HXz HLz HM HNn hcm1 hcm2 hcm3 hcn1 hcn2 hcn3
      go_wp2_with (at_builtin; refine wp_append_l rfl (.const (.slice none 0 0)) (.tmp 67) rfl w8.heap.size (.slice none 0 0) 0 [] [] rfl (World.ownsRow_nil _ _ _ _) trivial Vy my ky vs fy rfl HVl.out HRm.out HEm.out HCm.out (by omega) (Nat.le_refl _) ?_; intro v9 w9 hown9 hE9 hgrow9 _; refine pause ?_)
      have hB9 : Below w8.heap.size w8 w9 := (Below.refl _ _).grown hgrow9 (Nat.le_refl _) (fun _ h => by cases h)
      have hEn9 := HEn.out.map fun _ _ h => ((h.mono (q := fun b => b < w8.heap.size) fun b hb _ => hb).kept hB9).mono (q := ne v9) fun b _ hb e => by
        have := (hown9.lt b e.symm).1
        omega
      have HOwn9 := Lib.hid hown9
      have HE9 := Lib.hid hE9
      have HEn9 := Lib.hid hEn9
      have HRn9 := Lib.hid (HRn.out.kept hB9)
      have HB9 := Lib.hid hB9
      have hz9 := hB9.size
      clear hown9 hE9 hgrow9 hEn9 hB9
      unfold Pause
      go_wp2_with (at_builtin; refine wp_append_l rfl (.tmp 68) (.tmp 69) rfl w8.heap.size v9 (0 + my) ([] ++ vs) ([] ++ fy) rfl HOwn9.out HE9.out Vz mz kz us fz rfl HUl.out HRn9.out HEn9.out HCn.out (by omega) hz9 ?_; intro v10 w10 hown10 hE10 hgrow10 _; refine pause ?_)
      have hB10 : Below w8.heap.size w8 w10 := HB9.out.grown hgrow10 hz9 (fun q hq => (HOwn9.out.lt q hq).1)
      have hn10 : 0 + my + mz = nx := by rw [HNx.out, HFl.out, HMy.out, HMz.out]; omega
      rw [hn10] at hown10
      rw [List.nil_append, List.nil_append, ← HFx.out] at hE10
      obtain ⟨V10, k10, rfl⟩ := own_slice hown10
      obtain ⟨r1, r2, r3, r4, _⟩ := own_row hown10
      have hl10 : IsL (ne (.slice V10 nx k10)) w10 V10 k10 fx := ⟨⟨_, r1, hE10⟩, by rw [← HNx.out]; exact r2, r3, r4⟩
      have hli := Lists_any V2 V10 fx fx k2 k10 w10 (HL8.out.kept hB10) hl10
      simp only [decide_true] at hli
      rw [← HNx.out] at hli
      have HLi := Lib.hid hli
      have HBe := Lib.hid (bt HB8.out hB10)
      clear hB10 hn10 hown10 hE10 hgrow10 r1 r2 r3 r4 hl10 hli
      unfold Pause
      go_wp2_with fail
      refine HLi.out.mono ?_
      rintro e w11 ⟨rfl, hB11⟩
      have HBf := Lib.hid (bt HBe.out hB11)
      clear hB11
      go_wp2_with fail
      go_ret
      exact ⟨ret_bool (by first | rfl | simp), HBf.out⟩

theorem parts_walk (a0 : Option Addr) (len0 cap0 : Nat) (z0 : List Int) (d0 : Bool) (a1 : Option Addr) (len1 cap1 : Nat) (z1 : List Int) (t : Int) (w : World) (w0 : RowU8 w a0 len0 cap0 z0) (w1 : RowU8 w a1 len1 cap1 z1) (w2 : (Lit.int .i64 t).wf = true) :
    Calls Try.prog 4 #[.agg #[.slice a0 len0 cap0, .bool d0], .slice a1 len1 cap1, .int .i64 t] w fun e w' => e = .returned (.bool true) ∧ Below w.heap.size w w' := by
  obtain ⟨t0, t1⟩ := bounds_i64 w2
  obtain ⟨x0, e0, s0⟩ := row_slB w0
  obtain ⟨x1, e1, s1⟩ := row_slB w1
  have m0 := s0.2.1
  have m1 := s1.2.1
  have c0 := s0.2.2.2
  have c1 := s1.2.2.2
  unfold maxLen at c0 c1
  by_cases h : 1500 < len0 ∨ (¬ 1500 < len0 ∧ 1500 < len1) ∨ (¬ 1500 < len0 ∧ ¬ 1500 < len1 ∧ t < 0) ∨ (¬ 1500 < len0 ∧ ¬ 1500 < len1 ∧ ¬ t < 0 ∧ (len1 : Int) < t)
  · exact parts_up a0 len0 cap0 d0 a1 len1 cap1 t w (by omega) (by omega) h
  · obtain ⟨k, rfl⟩ := Int.eq_ofNat_of_zero_le (show 0 ≤ t by omega)
    exact parts_in a0 x0 len0 cap0 d0 a1 x1 len1 cap1 k w (by omega) (by omega) (by omega) e0 e1 s0 s1
end Go.Proofs.Ytofmgbncaokmdaa.Fr
