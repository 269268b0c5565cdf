/- The walk of FrameBytes: byte by byte the same frames come as at once; no condition. -/
import Derived.Test.YtofmgbncaokmdaaFrameParts
import Derived.IntWalk
namespace Go.Proofs.Ytofmgbncaokmdaa.Fr
open Go.RowKit Go.Proofs.Ytofmgbncaokmdaa.BM Go.Proofs.Ytofmgbncaokmdaa.LM Go.Proofs.Ytofmgbncaokmdaa.Std Go.Proofs.Ytofmgbncaokmdaa.FrM

/-- Stores elsewhere: what nothing lies in needs no place. -/
theorem SlB.set2 {w : World} {A : Option Addr} {xs : List Int} {c b : Nat} {u0 u1 : Value} (h : SlB w A xs c) (hb : 0 < xs.length → ∀ a, A = some a → a.block ≠ b) : SlB ((w.setCell ⟨b, 0, none⟩ u0).setCell ⟨b, 1, none⟩ u1) A xs c := by
  have hg := grownBy_set2 w b u0 u1
  refine ⟨⟨h.1.1, fun hx => ?_⟩, h.2⟩
  obtain ⟨g, o, e, hc⟩ := h.1.2 hx
  refine ⟨g, o, e, fun j hj => hg.cell (hc j hj) ?_⟩
  intro e'
  injection e' with e'
  exact hb hx _ e (show g = b from e')

theorem SlB.grown {w w' : World} {r : Option Nat} {A : Option Addr} {xs : List Int} {c : Nat} (h : SlB w A xs c) (hg : w.grownBy w' r) (hb : 0 < xs.length → ∀ a, A = some a → some a.block ≠ r) : SlB w' A xs c := by
  refine ⟨⟨h.1.1, fun hx => ?_⟩, h.2⟩
  obtain ⟨g, o, e, hc⟩ := h.1.2 hx
  exact ⟨g, o, e, fun j hj => hg.cell (hc j hj) (show some g ≠ r from hb hx _ e)⟩

theorem Box.grown {w w' : World} {r : Option Nat} {b : Nat} {v0 v1 : Value} (h : Box w b v0 v1) (hg : w.grownBy w' r) (hb : some b ≠ r) : Box w' b v0 v1 := by
  have hlt := h.lt
  have e : w'.heap[b]? = w.heap[b]? := hg.block b hlt hb
  obtain ⟨h1, h2, h3, h4⟩ := h
  exact ⟨(World.cell?_of_block (w := w) (w' := w') e).trans h1, (World.cell?_of_block (w := w) (w' := w') e).trans h2, (World.frozen?_of_block (w := w) (w' := w') e).trans h3, (World.frozen?_of_block (w := w) (w' := w') e).trans h4⟩

theorem one_byte (b : List Int) (k : Nat) : b.drop k = (b.drop k).take 1 ++ b.drop (k + 1) := by
  rw [← List.drop_drop, List.take_append_drop]

/-- What holds ahead of each byte: w1 is the world before the framer that goes along was laid, in block y. -/
def JB (w1 : World) (y : Nat) (d0 : Bool) (fb b : List Int) (m i : Value) (wr : World) : Prop :=
  ∃ (k : Nat) (A : Option Addr) (ly : List Int) (n c : Nat) (dy : Bool) (V : Option Addr) (fm : List (List Int)) (nm km : Nat) (vs : List Value),
    i = .int .i64 k ∧ k ≤ b.length ∧ m = .slice V nm km ∧ nm = fm.length ∧ n = ly.length ∧
    Below y w1 wr ∧ Box wr y (.slice A n c) (.bool dy) ∧ SlB wr A ly c ∧ (0 < ly.length → ∀ a, A = some a → a.block ≠ y) ∧
    wr.ownsRow (y + 1) 22 1 (.slice V nm km) nm vs ∧ Els (fun b => b ≠ y ∧ ne (.slice V nm km) b) wr vs fm ∧
    R.addAll fm (feed' dy ly (b.drop k)) = feed' d0 fb b ∧ (0 < k → feed' dy ly [] = ⟨dy, ly, []⟩) ∧ n ≤ 120 + k

set_option maxRecDepth 100000 in
set_option maxHeartbeats 1000000 in
theorem bytes_up (a0 : Option Addr) (len0 cap0 : Nat) (d0 : Bool) (a1 : Option Addr) (len1 cap1 : Nat) (w : World) (l0 : len0 ≤ 9223372036854775807) (l1 : len1 ≤ 9223372036854775807)
    (h : 120 < len0 ∨ (¬ 120 < len0 ∧ 120 < len1)) :
    Calls Try.prog 9 #[.agg #[.slice a0 len0 cap0, .bool d0], .slice a1 len1 cap1] w fun e w' => e = .returned (.bool true) ∧ Below w.heap.size w w' := by
  have ha := (Below.refl w.heap.size w).alloc (Nat.le_refl _) (.cells #[.slice a0 len0 cap0, .bool d0] 24)
  have Haw := Lib.hid (awake_any (w.alloc (.cells #[.slice a0 len0 cap0, .bool d0] 24)))
  have HA := Lib.hid ha
  have HBx := Lib.hid (box_new w (.slice a0 len0 cap0) (.bool d0))
  clear ha
  rcases h with h | ⟨h, h'⟩
  all_goals
    go_enter Try.func9, Try.ntmps9
    go_wp2_with fail
    refine Haw.out.mono ?_
    rintro e w1 ⟨rfl, hb1⟩
    obtain ⟨p0, p1, p2, p3⟩ := HBx.out.kept hb1
    have HB := Lib.hid (bt HA.out hb1)
    clear hb1
    go_wp2_with fail
    go_ret
    exact ⟨rfl, HB.out⟩

set_option maxRecDepth 100000 in
set_option maxHeartbeats 2000000 in
theorem bytes_in (a0 : Option Addr) (fb : List Int) (len0 cap0 : Nat) (d0 : Bool) (a1 : Option Addr) (b : List Int) (len1 cap1 : Nat) (w : World) (l0 : len0 ≤ 120) (l1 : len1 ≤ 120)
    (e0 : fb.length = len0) (e1 : b.length = len1) (s0 : SlB w a0 fb cap0) (s1 : SlB w a1 b cap1) :
    Calls Try.prog 9 #[.agg #[.slice a0 len0 cap0, .bool d0], .slice a1 len1 cap1] w fun e w' => e = .returned (.bool true) ∧ Below w.heap.size w w' := by
  have ha := (Below.refl w.heap.size w).alloc (Nat.le_refl _) (.cells #[.slice a0 len0 cap0, .bool d0] 24)
  have Haw := Lib.hid (awake_any (w.alloc (.cells #[.slice a0 len0 cap0, .bool d0] 24)))
  have HA := Lib.hid ha
  have HBx := Lib.hid (box_new w (.slice a0 len0 cap0) (.bool d0))
  have hcap := s1.2.1
  rw [e1] at hcap
  have hcm : cap1 ≤ 9223372036854775807 := by have := s1.2.2.2; unfold maxLen at this; omega
  obtain ⟨dx, lx, fx, hrx⟩ : ∃ dx lx fx, feed' d0 fb b = ⟨dx, lx, fx⟩ := ⟨_, _, _, rfl⟩
  have hlx : lx.length ≤ 240 := by have := feed'_len d0 fb b; rw [hrx, e0, e1] at this; simp only at this; omega
  have hfx : fx.length ≤ 240 := by have := feed'_many d0 fb b; rw [hrx, e0, e1] at this; simp only at this; omega
  have HF := Lib.hid (Feed_later d0 a0 a1 fb b len0 len1 cap0 cap1 w s0 s1 e0 e1 (by omega) _ hrx)
  have HRx := Lib.hid hrx
  have HS0 := Lib.hid s0
  have HS1 := Lib.hid s1
  have E0 := Lib.hid e0
  have E1 := Lib.hid e1
  clear ha hrx s0 s1 e0 e1
  go_enter Try.func9, Try.ntmps9
  go_wp2_with fail
  refine Haw.out.mono ?_
  rintro e w0 ⟨rfl, hb1⟩
  have HBx1 := Lib.hid (HBx.out.kept hb1)
  have HB1 := Lib.hid (bt HA.out hb1)
  obtain ⟨p0, p1, p2, p3⟩ := HBx.out.kept hb1
  clear hb1 HBx HA Haw
  go_wp2_with fail
  refine (HF.out _ HB1.out).mono ?_
  rintro e w2 ⟨A2, c2, V2, k2, rfl, h2, hl2, hB2⟩
  simp only [frm]
  obtain ⟨nx, hnx⟩ : ∃ nx, nx = lx.length := ⟨_, rfl⟩
  obtain ⟨mx, hmx⟩ : ∃ mx, mx = fx.length := ⟨_, rfl⟩
  rw [← hnx] at hlx ⊢
  rw [← hmx] at hfx ⊢
  have HNx := Lib.hid hnx
  have HMx := Lib.hid hmx
  have ha3 := (Below.refl w2.heap.size w2).alloc (Nat.le_refl _) (.cells #[.slice A2 nx c2, .bool dx] 24)
  have hbf2 := HBx1.out.kept hB2
  have hbf3 := hbf2.kept ha3
  have hltf := hbf2.lt
  obtain ⟨w1, hw1⟩ : ∃ w1, w1 = w2.alloc (.cells #[.slice A2 nx c2, .bool dx] 24) := ⟨_, rfl⟩
  have hz1 : w1.heap.size = w2.heap.size + 1 := by rw [hw1]; simp
  have HW1 := Lib.hid hw1
  have HZ1 := Lib.hid hz1
  have HB3 := Lib.hid (show Below w.heap.size w w1 from by rw [hw1]; exact bt (bt HB1.out hB2) ha3)
  have HBoxx := Lib.hid (show Box w1 w2.heap.size (.slice A2 nx c2) (.bool dx) from by rw [hw1]; exact box_new w2 _ _)
  have HX3 := Lib.hid (show SlB w1 A2 lx c2 from by rw [hw1]; exact h2.kept ha3)
  have HL3 := Lib.hid (show IsL (fun b => w0.heap.size ≤ b) w1 V2 k2 fx from by rw [hw1]; exact hl2.kept ha3)
  clear p0 p1 p2 p3 hw1 hz1
  obtain ⟨p0, p1, p2, p3⟩ := hbf2
  obtain ⟨q0, q1, q2, q3⟩ := hbf3
  clear ha3 hB2 h2 hl2 HBx1 HB1 hnx hmx
  go_wp2_with fail
  obtain ⟨y, hy⟩ : ∃ y, y = w2.heap.size + 1 := ⟨_, rfl⟩
  rw [← hy]
  have hyw : w1.heap.size = y := by rw [HZ1.out, hy]
  have HYW := Lib.hid hyw
  clear hy hyw p0 p1 p2 p3 q0 q1 q2 q3
  go_loopw [9, 10] (JB w1 y d0 fb b) (fun _ i _ => len1 - (intOf i).toNat)
  case atStart =>
    rw [← HW1.out]
    have ha := (Below.refl w1.heap.size w1).alloc (Nat.le_refl _) (.cells #[.slice a0 len0 cap0, .bool d0] 24)
    have hbx := box_new w1 (.slice a0 len0 cap0) (.bool d0)
    rw [HYW.out] at hbx
    refine ⟨0, a0, fb, len0, cap0, d0, none, [], 0, 0, [], rfl, Nat.zero_le _, rfl, rfl, E0.out.symm, by rw [HYW.out] at ha; exact ha, hbx, (HS0.out.kept HB3.out).kept ha, ?_, World.ownsRow_nil _ _ _ _, trivial, rfl, fun h => by omega, by omega⟩
    intro h0 a e
    obtain ⟨g, o, e', hc⟩ := (HS0.out.kept HB3.out).1.2 h0
    have hlt := World.block_lt_of_cell? w1 _ (hc 0 h0)
    rw [e] at e'
    injection e' with e'
    subst e'
    have : g < w1.heap.size := hlt
    have := HYW.out
    show g ≠ y
    omega
  case round =>
    obtain ⟨k, A, ly, n, c, dy, V, fm, nm, km, vs, rfl, hk, rfl, hnm, hn, hB, hBox, hS, hSy, hown, hE, hR, hrest, hnk⟩ := hrel
    have HNm := Lib.hid hnm
    have HN := Lib.hid hn
    have HB := Lib.hid hB
    have HBox := Lib.hid hBox
    have HS := Lib.hid hS
    have HSy := Lib.hid hSy
    have HOwn := Lib.hid hown
    have HE := Lib.hid hE
    have HR := Lib.hid hR
    have HRest := Lib.hid hrest
    have hkl : k ≤ len1 := by have := E1.out; omega
    have hyr : y < wr.heap.size := hBox.lt
    have hbase : Below w.heap.size w wr := HB3.out.trans (hB.mono (by have := HB3.out.size; have := HYW.out; omega))
    have HBase0 := Lib.hid hbase
    clear hnm hn hB hBox hS hSy hown hE hR hrest hk hbase
    by_cases hlt : k < len1
    · obtain ⟨u, hu⟩ : ∃ u, u = (b.drop k).take 1 := ⟨_, rfl⟩
      have hul : u.length = 1 := by rw [hu, List.length_take, List.length_drop]; have := E1.out; omega
      obtain ⟨dz, lz, fz, hrz⟩ : ∃ dz lz fz, feed' dy ly u = ⟨dz, lz, fz⟩ := ⟨_, _, _, rfl⟩
      have hR' : R.addAll (fm ++ fz) (feed' dz lz (b.drop (k + 1))) = feed' d0 fb b := by
        rw [← HR.out, one_byte b k, ← hu, feed'_app, hrz, addAll_addAll]
      have hrest' : feed' dz lz [] = ⟨dz, lz, []⟩ := by
        have h := feed'_rest dy ly u
        rw [hrz] at h
        exact h
      have hlz : lz.length ≤ n + 1 := by have := feed'_len dy ly u; rw [hrz, hul, ← HN.out] at this; exact this
      have hfm : fm.length + fz.length ≤ 240 := by
        have h := congrArg (fun r => r.fs.length) hR'
        simp only [R.addAll, List.length_append] at h
        have h' := feed'_many d0 fb b
        rw [← h, E0.out, E1.out] at h'
        omega
      have hcut := slB_cut HS1.out k (k + 1) cap1 (by omega) (by omega) (by omega) (by have := E1.out; omega)
      rw [show k + 1 - k = 1 from by omega, ← hu] at hcut
      obtain ⟨D, hD⟩ : ∃ D, D = dropA a1 k cap1 := ⟨_, rfl⟩
      rw [← hD] at hcut
      have hs1 : ∀ W : World, (Instr.sliceAt 22 (.slice a1 len1 cap1) (some (.int .i64 (k : Int))) (some (.int .i64 ((k : Int) + 1))) none).run Try.prog W = .ok (.slice D 1 (cap1 - k)) W := fun W => by
        have h := slice_2 W a1 len1 cap1 k (k + 1) (by omega) (by omega)
        rw [← hD, show k + 1 - k = 1 from by omega] at h
        exact h
      have hsum : IntKind.i64.wrap ((k : Int) + 1) = (k : Int) + 1 := IntWalk.i64_in _ (by omega)
      have hs0 : (0 : Int) ≤ (k : Int) + 1 := by omega
      have HG := Lib.hid (Feed_loc dy A D ly u n 1 c (cap1 - k) wr HS.out (hcut.kept HBase0.out) HN.out.symm hul (by omega) _ hrz)
      have HR' := Lib.hid hR'
      have HRest' := Lib.hid hrest'
      have HBase := Lib.hid (Below.refl wr.heap.size wr)
      clear hu hul hrz hR' hrest' hcut hD
      go_wp2_with fail
      refine RegB.GS_start (fun x => Box x y (.slice A n c) (.bool dy)) (by kernel_rfl) (by repeat (first | exact Reg.frameless_bodyPost | refine Reg.frameless_then ?_ | refine Reg.frameless_inBlock ?_)) (fun W hW => HBox.out.kept hW) (fun W hW => ?_)
      have HW := Lib.hid hW
      have x0 : ∀ x : RegB.At (fun x => Box x y (.slice A n c) (.bool dy)), x.world.cell? ⟨y, 0, none⟩ = some (.slice A n c) := fun x => x.ok.1
      have x1 : ∀ x : RegB.At (fun x => Box x y (.slice A n c) (.bool dy)), x.world.cell? ⟨y, 1, none⟩ = some (.bool dy) := fun x => x.ok.2.1
      haveI : Nonempty (RegB.At (fun x => Box x y (.slice A n c) (.bool dy))) := ⟨⟨W, HBox.out.kept hW⟩⟩
      clear hW
      first | (refine RegB.GS_step (i := 0) rfl (by kernel_rfl) (by rfl) (fun K hK => ?_); go_big_quiet_op; refine hK _ ?_; clear hK K)
      first | (refine RegB.GS_step (i := 1) rfl (by kernel_rfl) (by rfl) (fun K hK => ?_); go_big_quiet_op; refine hK _ ?_; clear hK K)
      first | (refine RegB.GS_step (i := 2) rfl (by kernel_rfl) (by rfl) (fun K hK => ?_); go_big_quiet_op; refine hK _ ?_; clear hK K)
      first | (refine RegB.GS_step (i := 3) rfl (by kernel_rfl) (by rfl) (fun K hK => ?_); go_big_quiet_op; refine hK _ ?_; clear hK K)
      first | (refine RegB.GS_step (i := 4) rfl (by kernel_rfl) (by rfl) (fun K hK => ?_); go_big_quiet_op; refine hK _ ?_; clear hK K)
      first | (refine RegB.GS_step (i := 5) rfl (by kernel_rfl) (by rfl) (fun K hK => ?_); go_big_quiet_op; refine hK _ ?_; clear hK K)
      refine RegB.GS_fork (i := 6) (j := 10) rfl rfl (by kernel_rfl) (by rfl) (by rfl) (fun K hK => ?_) (fun K hK => ?_)
      focus
        go_simp
        refine (HG.out _ (bt HBase.out HW.out)).mono ?_
        rintro e wz ⟨Az, cz, Vz, kz, rfl, h4, hl4, hB4, hA4, hV4⟩
        simp only [frm]
        obtain ⟨nz, hn4⟩ : ∃ nz, nz = lz.length := ⟨_, rfl⟩
        obtain ⟨mz, hm4⟩ : ∃ mz, mz = fz.length := ⟨_, rfl⟩
        rw [← hn4, ← hm4]
        have HNz := Lib.hid hn4
        have HMz := Lib.hid hm4
        clear hn4 hm4
        refine hK _ _ ((HBox.out.kept HW.out).kept hB4) ?_
        clear hK K
        first | (refine RegB.GS_step (i := 7) rfl (by kernel_rfl) (by rfl) (fun K hK => ?_); go_big_quiet_op; refine hK _ ?_; clear hK K)
        first | (refine RegB.GS_step (i := 8) rfl (by kernel_rfl) (by rfl) (fun K hK => ?_); go_big_quiet_op; refine hK _ ?_; clear hK K)
        first | (refine RegB.GS_step (i := 9) rfl (by kernel_rfl) (by rfl) (fun K hK => ?_); go_big_quiet_op; refine hK _ ?_; clear hK K)
        refine RegB.GS_event (i := 10) rfl (by kernel_rfl) (by rfl) (fun K hK => ?_)
        go_simp
        refine hK _ _ (((HBox.out.kept HW.out).kept hB4).kept ((Below.refl _ _).alloc (Nat.le_refl _) _)) ?_
        clear hK K
        refine RegB.GS_event (i := 11) rfl (by kernel_rfl) (by rfl) (fun K hK => ?_)
        go_simp
        refine hK _ _ (((HBox.out.kept HW.out).kept hB4).kept ((Below.refl _ _).alloc (Nat.le_refl _) _)) ?_
        clear hK K
        first | (refine RegB.GS_step (i := 12) rfl (by kernel_rfl) (by rfl) (fun K hK => ?_); go_big_quiet_op; refine hK _ ?_; clear hK K)
        refine RegB.GS_done (by kernel_rfl) ?_
        obtain ⟨f1, f2, f3, f4⟩ := put_new hB4 h4 hl4 (.slice Az nz cz) (.bool dz)
        have f6 : ∀ a, Az = some a → W.heap.size ≤ a.block := hA4
        have f7 : ∀ a, Vz = some a → W.heap.size ≤ a.block := hV4
        obtain ⟨bkz, hbY⟩ : ∃ bkz, bkz = wz.heap.size := ⟨_, rfl⟩
        obtain ⟨Wz, hWy⟩ : ∃ Wz, Wz = wz.alloc (.cells #[(.slice Az nz cz), (.bool dz)] 24) := ⟨_, rfl⟩
        rw [← hWy] at f1 f2 f3 f4 ⊢
        have f5 : W.heap.size ≤ bkz := by rw [hbY]; first | exact hB4.size | exact Nat.le_refl _
        rw [← hbY] at f2 ⊢
      rotate_left
      focus
        go_simp
        refine hK _ _ ((HBox.out.kept HW.out).kept ((Below.refl _ _).alloc (Nat.le_refl _) _)) ?_
        clear hK K
        refine RegB.GS_event (i := 6) rfl (by kernel_rfl) (by rfl) (fun K hK => ?_)
        go_simp
        refine (HG.out _ (bt (bt HBase.out HW.out) ((Below.refl _ _).alloc (Nat.le_refl _) _))).mono ?_
        rintro e wz ⟨Az, cz, Vz, kz, rfl, h4, hl4, hB4, hA4, hV4⟩
        simp only [frm]
        obtain ⟨nz, hn4⟩ : ∃ nz, nz = lz.length := ⟨_, rfl⟩
        obtain ⟨mz, hm4⟩ : ∃ mz, mz = fz.length := ⟨_, rfl⟩
        rw [← hn4, ← hm4]
        have HNz := Lib.hid hn4
        have HMz := Lib.hid hm4
        clear hn4 hm4
        refine hK _ _ (((HBox.out.kept HW.out).kept ((Below.refl _ _).alloc (Nat.le_refl _) _)).kept hB4) ?_
        clear hK K
        first | (refine RegB.GS_step (i := 7) rfl (by kernel_rfl) (by rfl) (fun K hK => ?_); go_big_quiet_op; refine hK _ ?_; clear hK K)
        first | (refine RegB.GS_step (i := 8) rfl (by kernel_rfl) (by rfl) (fun K hK => ?_); go_big_quiet_op; refine hK _ ?_; clear hK K)
        first | (refine RegB.GS_step (i := 9) rfl (by kernel_rfl) (by rfl) (fun K hK => ?_); go_big_quiet_op; refine hK _ ?_; clear hK K)
        obtain ⟨f1, f2, f3, f4⟩ := put_old hB4 h4 hl4 hA4 hV4 (.slice Az nz cz) (.bool dz)
        have f6 : ∀ a, Az = some a → W.heap.size ≤ a.block := fun a ha => by have := hA4 a ha; simp at this; omega
        have f7 : ∀ a, Vz = some a → W.heap.size ≤ a.block := fun a ha => by have := hV4 a ha; simp at this; omega
        obtain ⟨z0, z1, z2, z3⟩ := (box_new W (.slice none 0 0) (.bool false)).kept hB4
        refine RegB.GS_event (i := 11) rfl (by kernel_rfl) (by rfl) (fun K hK => ?_)
        go_simp
        refine hK _ _ ((HBox.out.kept HW.out).kept f1) ?_
        clear hK K z0 z1 z2 z3
        first | (refine RegB.GS_step (i := 12) rfl (by kernel_rfl) (by rfl) (fun K hK => ?_); go_big_quiet_op; refine hK _ ?_; clear hK K)
        refine RegB.GS_done (by kernel_rfl) ?_
        obtain ⟨bkz, hbY⟩ : ∃ bkz, bkz = W.heap.size := ⟨_, rfl⟩
        obtain ⟨Wz, hWy⟩ : ∃ Wz, Wz = (wz.setCell ⟨W.heap.size, 0, none⟩ (.slice Az nz cz)).setCell ⟨W.heap.size, 1, none⟩ (.bool dz) := ⟨_, rfl⟩
        rw [← hWy] at f1 f2 f3 f4 ⊢
        have f5 : W.heap.size ≤ bkz := by rw [hbY]; first | exact hB4.size | exact Nat.le_refl _
        rw [← hbY] at f2 ⊢
      all_goals
        clear hsum hs0 x0 x1 hWy hbY
        have hWz := bt HW.out f1
        have hzW := HW.out.size
        have hzz := f1.size
        have hownz := own_below HOwn.out hWz
        have hEz := HE.out.map fun _ _ h => h.kept hWz
        obtain ⟨⟨us, hrn, hEn⟩, _, hcn2, _⟩ := f4
        have hUl : us.length = mz := by rw [hEn.len, HMz.out]
        have hEn' := hEn.map fun _ _ h => h.mono (q := fun b => b ≠ y ∧ ne (.slice V nm km) b) fun b _ hb => ⟨by omega, fun e => by have := (HOwn.out.lt b e.symm).2; omega⟩
        have hmz : mz = fz.length := HMz.out
        have hnm := HNm.out
        have hne : ∀ q, (Value.slice V nm km).ownBlock = some q → y + 1 ≤ q ∧ q < wr.heap.size := HOwn.out.lt
        have HNe := Lib.hid hne
        have HOwnz := Lib.hid hownz
        have HEz := Lib.hid hEz
        have HRn := Lib.hid hrn
        have HEn := Lib.hid hEn'
        have HCn := Lib.hid hcn2
        have HUl := Lib.hid hUl
        have HF2 := Lib.hid f2
        have HF3 := Lib.hid f3
        have HF6 := Lib.hid f6
        have HWz := Lib.hid hWz
        have hsz : nm + mz ≤ 240 := by omega
        have hyz : y + 1 ≤ Wz.heap.size := by omega
        clear hnm hmz hne hownz hEz hrn hEn hEn' hcn2 hUl f1 f2 f3 f6 f7 h4 hl4 hB4 hA4 hV4 hWz
        go_wp2_with (at_builtin; refine wp_append_lp (fun b => b ≠ y) rfl (.tmp 53) (.tmp 54) rfl (y + 1) (.slice V nm km) nm vs fm rfl HOwnz.out HEz.out Vz mz kz us fz rfl HUl.out HRn.out HEn.out HCn.out (by omega) hyz ?_; intro v5 w5 hown5 hE5 hgrow5 _; refine pause ?_)
        obtain ⟨V5, k5, rfl⟩ := own_slice hown5
        have hbz5 := HF2.out.grown hgrow5 (fun e => by have := (HNe.out bkz e.symm).2; omega)
        have hby5 := (HBox.out.kept HWz.out).grown hgrow5 (fun e => by have := (HNe.out y e.symm).1; omega)
        have hsl5 := SlB.grown HF3.out hgrow5 (fun _ a ha e => by
          have h1 := HF6.out a ha
          have h2 := (HNe.out a.block e.symm).2
          omega)
        have hB5 : Below y w1 w5 := (HB.out.trans (HWz.out.mono (by omega))).grown hgrow5 (by omega) (fun q hq => by have := (HNe.out q hq).1; omega)
        have hg6 := grownBy_set2 w5 y (.slice Az nz cz) (.bool dz)
        have HB6 := Lib.hid (Below.stored hB5 (Nat.le_refl _) (.slice Az nz cz) (.bool dz))
        have HBox6 := Lib.hid (box_store hby5 (.slice Az nz cz) (.bool dz))
        have HS6 := Lib.hid (SlB.set2 (b := y) (u0 := .slice Az nz cz) (u1 := .bool dz) hsl5 (fun _ a ha => by have := HF6.out a ha; omega))
        have HOwn6 := Lib.hid (hown5.kept hg6 (Or.inr fun e => by have := (hown5.lt y e).1; omega))
        have HE6 := Lib.hid (hE5.map fun _ _ h => h.grown hg6 fun b hb e => by injection e with e; exact hb.1 e)
        obtain ⟨p0, p1, p2, p3⟩ := hbz5
        obtain ⟨q0, q1, q2, q3⟩ := hby5
        clear hown5 hE5 hgrow5 hsl5 hB5 hg6
        unfold Pause
        go_wp2_with fail
        go_roundw
        case rel =>
          refine ⟨k + 1, Az, lz, nz, cz, dz, V5, fm ++ fz, nm + mz, k5, vs ++ us, by go_num, by have := E1.out; omega, rfl, by rw [List.length_append, HNm.out, HMz.out], HNz.out, HB6.out, HBox6.out, HS6.out, fun _ a ha => by have := HF6.out a ha; omega, HOwn6.out, HE6.out, HR'.out, fun _ => HRest'.out, by have := HNz.out; omega⟩
        case measure => simp [intOf]; omega
    · obtain rfl : k = len1 := by omega
      have hdr : b.drop k = [] := List.drop_of_length_le (by have := E1.out; omega)
      have hR := HR.out
      rw [hdr] at hR
      by_cases h0 : k = 0
      · subst h0
        clear hR hdr
        go_wp2_with fail
        go_ret
        exact ⟨rfl, HBase0.out⟩
      · have hd0 : ((k : Int) == 0) = false := by rw [beq_eq_false_iff_ne]; omega
        rw [HRest.out (by omega), HRx.out] at hR
        simp only [R.addAll, List.append_nil] at hR
        injection hR with r1 r2 r3
        subst r1
        subst r2
        subst r3
        have hsm := fun W (hW : Below wr.heap.size wr W) => refSame_any A2 A ly ly c2 c dy dy W ((HX3.out.kept (show Below w1.heap.size w1 wr from by rw [HYW.out]; exact HB.out)).kept hW) (HS.out.kept hW)
        simp only [frm, beq_self_eq_true, decide_true, Bool.and_self] at hsm
        obtain rfl : nx = n := by rw [HNx.out, HN.out]
        rw [← HN.out] at hsm
        have HSm := Lib.hid (hsm wr (Below.refl _ _))
        have hown := own_row HOwn.out
        have HLm := Lib.hid (show IsL (fun b => b ≠ y ∧ ne (.slice V nm km) b) wr V km fm from ⟨⟨_, hown.1, HE.out⟩, by rw [← HNm.out]; exact hown.2.1, hown.2.2.1, hown.2.2.2.1⟩)
        have HLl := Lib.hid (HL3.out.kept (show Below w1.heap.size w1 wr from by rw [HYW.out]; exact HB.out))
        obtain rfl : mx = nm := by rw [HMx.out, HNm.out]
        obtain ⟨p0, p1, p2, p3⟩ := HBoxx.out.kept (show Below w1.heap.size w1 wr from by rw [HYW.out]; exact HB.out)
        obtain ⟨q0, q1, q2, q3⟩ := HBox.out
        clear hsm hown hdr
        go_wp2_with fail
        refine HSm.out.mono ?_
        rintro e w8 ⟨rfl, hB8⟩
        have hli := Lists_any V2 V fm fm k2 km w8 (HLl.out.kept hB8) (HLm.out.kept hB8)
        simp only [decide_true] at hli
        rw [← HNm.out] at hli
        have HLi := Lib.hid hli
        have HB8 := Lib.hid (bt HBase0.out hB8)
        clear hB8 hli p0 p1 p2 p3 q0 q1 q2 q3
        go_wp2_with fail
        refine HLi.out.mono ?_
        rintro e w9 ⟨rfl, hB9⟩
        have HB9 := Lib.hid (bt HB8.out hB9)
        clear hB9
        go_wp2_with fail
        go_ret
        exact ⟨ret_bool (by first | rfl | simp), HB9.out⟩

theorem bytes_walk (a0 : Option Addr) (len0 cap0 : Nat) (z0 : List Int) (d0 : Bool) (a1 : Option Addr) (len1 cap1 : Nat) (z1 : List Int) (w : World) (w0 : RowU8 w a0 len0 cap0 z0) (w1 : RowU8 w a1 len1 cap1 z1) :
    Calls Try.prog 9 #[.agg #[.slice a0 len0 cap0, .bool d0], .slice a1 len1 cap1] w fun e w' => e = .returned (.bool true) ∧ Below w.heap.size w w' := by
  obtain ⟨x0, e0, s0⟩ := row_slB w0
  obtain ⟨x1, e1, s1⟩ := row_slB w1
  have m0 := s0.2.1
  have m1 := s1.2.1
  have c0 := s0.2.2.2
  have c1 := s1.2.2.2
  unfold maxLen at c0 c1
  by_cases h : 120 < len0 ∨ (¬ 120 < len0 ∧ 120 < len1)
  · exact bytes_up a0 len0 cap0 d0 a1 len1 cap1 w (by omega) (by omega) h
  · exact bytes_in a0 x0 len0 cap0 d0 a1 x1 len1 cap1 w (by omega) (by omega) e0 e1 s0 s1
end Go.Proofs.Ytofmgbncaokmdaa.Fr
