/- Feed of the document's answers: what it answers of any framer and any bytes; asked: the slices read as bytes, and are not too long. -/
import Derived.Test.YtofmgbncaokmdaaFrameRefPack
namespace Go.Proofs.Ytofmgbncaokmdaa.Fr
open Go.RowKit Go.Proofs.Ytofmgbncaokmdaa.BM Go.Proofs.Ytofmgbncaokmdaa.LM Go.Proofs.Ytofmgbncaokmdaa.Std Go.Proofs.Ytofmgbncaokmdaa.FrM

/-- The answer, from what holds in the loop. -/
theorem ref_fin {w w1 wr w2 : World} {all left : List Int} {V A2 : Option Addr} {k c2 : Nat} {vs : List Value} {fs : List (List Int)} (d : Bool) (hb1 : Below w.heap.size w w1) (hsz : w.heap.size + 2 ≤ w1.heap.size) (hbx : Box w1 (w.heap.size + 1) (.slice none 0 0) (.bool false))
    (hown : wr.ownsRow w1.heap.size 22 1 (.slice V fs.length k) fs.length vs) (hE : Els (fun b => w1.heap.size ≤ b ∧ ne (.slice V fs.length k) b) wr vs fs) (hB : Below w1.heap.size w1 wr) (hw2 : Below wr.heap.size wr w2)
    (hS : SlB w2 A2 left c2) (hA : ∀ a, A2 = some a → w.heap.size + 2 ≤ a.block) (hres : feed all = ⟨d, left, fs⟩) :
    FeedRes w (feed all) (.returned (.tuple #[.agg #[.slice A2 left.length c2, .bool d], .slice V fs.length k])) ((w2.setCell ⟨w.heap.size + 1, 0, none⟩ (.slice A2 left.length c2)).setCell ⟨w.heap.size + 1, 1, none⟩ (.bool d)) ∧
    Box ((w2.setCell ⟨w.heap.size + 1, 0, none⟩ (.slice A2 left.length c2)).setCell ⟨w.heap.size + 1, 1, none⟩ (.bool d)) (w.heap.size + 1) (.slice A2 left.length c2) (.bool d) ∧
    Box w2 (w.heap.size + 1) (.slice none 0 0) (.bool false) := by
  have h12 := bt hB hw2
  have hbx2 := hbx.kept h12
  obtain ⟨r1, r2, r3, r4, r5⟩ := own_row hown
  rw [hres]
  obtain ⟨q1, q2⟩ := feed_out d (bt hb1 h12) hbx2 (r1.kept hw2) r2 r3 r4 (fun a ha => by have := r5 a ha; omega) (hE.map fun _ _ h => (h.kept hw2).mono fun b _ hb => by have := hb.1; omega) hS hA
  exact ⟨q1.res, q2, hbx2⟩

set_option maxRecDepth 100000 in
set_option maxHeartbeats 1000000 in
theorem refFeed_dead (A B : Option Addr) (xs : List Int) (m c k : Nat) (w : World) (h : SlB w A xs c) :
    Calls Try.prog 14 #[frm A xs.length c true, .slice B m k] w (FeedRes w ⟨true, xs, []⟩) := by
  unfold frm
  have hbx := box_new (w.alloc (.cells #[.slice A xs.length c, .bool true] 24)) (.slice none 0 0) (.bool false)
  rw [show (w.alloc (.cells #[.slice A xs.length c, .bool true] 24)).heap.size = w.heap.size + 1 from by simp] at hbx
  have hw2 : Below w.heap.size w (((w.alloc (.cells #[.slice A xs.length c, .bool true] 24))).alloc (.cells #[.slice none 0 0, .bool false] 24)) := ((Below.refl _ w).alloc (Nat.le_refl _) _).alloc (by simp) _
  have hf : Below w.heap.size w ((w.alloc (.cells #[.slice A xs.length c, .bool true] 24)).alloc (.cells #[.slice A xs.length c, .bool true] 24)) := ((Below.refl _ w).alloc (Nat.le_refl _) _).alloc (by simp) _
  have HFin := Lib.hid (show FeedRes w ⟨true, xs, []⟩ (.returned (.tuple #[.agg #[.slice A xs.length c, .bool true], .slice none 0 0])) ((w.alloc (.cells #[.slice A xs.length c, .bool true] 24)).alloc (.cells #[.slice A xs.length c, .bool true] 24)) from ⟨A, c, none, 0, rfl, h.kept hf, isL_none _ _, hf⟩)
  clear h hbx hw2 hf
  go_enter Try.func14, Try.ntmps14
  go_wp2_with fail
  exact bodyPost_ret (v := .tuple #[.agg #[.slice A xs.length c, .bool true], .slice none 0 0]) (by simp [results, Try.results14, go_sem]) rfl HFin.out

set_option maxRecDepth 100000 in
set_option maxHeartbeats 1000000 in
theorem refFeed_all (A B : Option Addr) (xs ys all : List Int) (c k : Nat) (w : World) (h : SlB w A xs c) (g : SlB w B ys k) (hm : xs.length + ys.length ≤ 100000000) (hall : xs ++ ys = all) :
    Calls Try.prog 14 #[frm A xs.length c false, .slice B ys.length k] w (FeedRes w (feed all)) := by
  unfold frm
  have hal : all.length = xs.length + ys.length := by rw [← hall, List.length_append]
  obtain ⟨N, hN⟩ : ∃ N, N = all.length := ⟨_, rfl⟩
  have hbx := box_new (w.alloc (.cells #[.slice A xs.length c, .bool false] 24)) (.slice none 0 0) (.bool false)
  rw [show (w.alloc (.cells #[.slice A xs.length c, .bool false] 24)).heap.size = w.heap.size + 1 from by simp] at hbx
  have hw2 : Below w.heap.size w (((w.alloc (.cells #[.slice A xs.length c, .bool false] 24))).alloc (.cells #[.slice none 0 0, .bool false] 24)) := ((Below.refl _ w).alloc (Nat.le_refl _) _).alloc (by simp) _
  obtain ⟨w0, hw0⟩ : ∃ w0, w0 = (w.alloc (.cells #[.slice A xs.length c, .bool false] 24)).alloc (.cells #[.slice none 0 0, .bool false] 24) := ⟨_, rfl⟩
  have hz0 : w.heap.size + 2 ≤ w0.heap.size := by rw [hw0]; simp
  rw [← hw0] at hw2 hbx
  have Hw0 := Lib.hid hw0
  have HBX := Lib.hid hbx
  have HW2 := Lib.hid hw2
  have HX := Lib.hid (h.kept hw2)
  have HY := Lib.hid (g.kept hw2)
  have HAl := Lib.hid hal
  have HNn := Lib.hid hN
  have HAll := Lib.hid hall
  have HBy := Lib.hid (show CrcM.Bytes all from by rw [← hall]; exact bytes_app h.1.1 g.1.1)
  have h0 : Hid (SlB ((w.alloc (.cells #[.slice A xs.length c, .bool false] 24)).alloc (.cells #[.slice none 0 0, .bool false] 24)) A xs c) := by rw [← hw0]; exact h.kept hw2
  clear h g hw2 hbx hw0 hal hN hall
  go_enter Try.func14, Try.ntmps14
  go_wp2_with (at_builtin; refine wp_append_b rfl (.const (.slice none 0 0)) (.tmp 17) rfl (w.heap.size + 2) (.slice none 0 0) 0 [] rfl (World.ownsRow_nil _ _ _ _) A xs.length c xs rfl rfl h0.out.1 h0.out.2.2.1 (by omega) (by simp) ?_; intro v1 w3 hown3 hgrow3; refine pause ?_)
  rw [← Hw0.out] at hgrow3
  have hB3 : Below w0.heap.size w0 w3 := (Below.refl _ _).grown hgrow3 (Nat.le_refl _) (fun _ h => by cases h)
  have HB3 := Lib.hid hB3
  have HOwn3 := Lib.hid hown3
  have hsz3 := hB3.size
  have HY3 := Lib.hid (HY.out.kept hB3)
  clear hgrow3 hB3 hown3 h0
  unfold Pause
  go_wp2_with (at_builtin; refine wp_append_b rfl (.tmp 18) (.tmp 19) rfl (w.heap.size + 2) v1 (0 + xs.length) ([] ++ xs) rfl HOwn3.out B ys.length k ys rfl rfl HY3.out.1 HY3.out.2.2.1 (by omega) (by omega) ?_; intro v2 w1 hown1 hgrow1; refine pause ?_)
  have hB1 : Below w.heap.size w w1 := (bt HW2.out HB3.out).grown hgrow1 (by omega) (fun q hq => by have := (HOwn3.out.lt q hq).1; omega)
  have hx1 : Box w1 (w.heap.size + 1) (.slice none 0 0) (.bool false) := by
    have h3 := HBX.out.kept HB3.out
    have hg : Below (w.heap.size + 2) w3 w1 := (Below.refl _ w3).grown hgrow1 (by omega) (fun q hq => (HOwn3.out.lt q hq).1)
    exact h3.below hg (by omega)
  have hsz1 : w.heap.size + 2 ≤ w1.heap.size := by have := hgrow1.size; omega
  rw [show cs ([] ++ xs ++ ys) = cs all from by rw [List.nil_append, HAll.out]] at hown1
  obtain ⟨A0, c0, rfl, _, h2, h3⟩ := own_slB hown1 HBy.out
  have HBw := Lib.hid hB1
  have HBx := Lib.hid hx1
  have H2 := Lib.hid h2
  have H3 := Lib.hid h3
  have hN9 : N ≤ 100000000 := by have := HNn.out; have := HAl.out; omega
  clear hB1 hx1 h2 h3 hown1 hgrow1
  unfold Pause
  go_wp2_with fail
  go_loopw [6, 7] (fun s6 s7 wr => ∃ (A1 : Option Addr) (zs : List Int) (c1 : Nat) (V : Option Addr) (fs : List (List Int)) (k1 : Nat) (vs : List Value), s6 = .slice A1 zs.length c1 ∧ s7 = .slice V fs.length k1 ∧
    R.addAll fs (feed zs) = feed all ∧ SlB w1 A1 zs c1 ∧ (∀ a, A1 = some a → a.spot = none ∧ w.heap.size + 2 ≤ a.block) ∧ 8 * fs.length + zs.length ≤ N ∧
    wr.ownsRow w1.heap.size 22 1 (.slice V fs.length k1) fs.length vs ∧ Els (fun b => w1.heap.size ≤ b ∧ ne (.slice V fs.length k1) b) wr vs fs ∧ Below w1.heap.size w1 wr) (fun s6 _ _ => lenOf s6)
  case atStart =>
    refine ⟨A0, all, c0, none, [], 0, [], rfl, rfl, rfl, H2.out, fun a ha => ?_, by have := HNn.out; simp; omega, World.ownsRow_nil _ _ _ _, trivial, Below.refl _ _⟩
    have := H3.out a ha
    exact ⟨this.1, this.2.1⟩
  case round =>
    obtain ⟨A1, zs, c1, V, fs, k1, vs, rfl, rfl, hR, hS, hA, hlen, hown, hE, hB⟩ := hrel
    have HR := Lib.hid hR
    have HSr := Lib.hid (hS.kept hB)
    have HS := Lib.hid hS
    have HA1 := Lib.hid (fun a ha => (⟨(hA a ha).1, (hA a ha).2, trivial⟩ : _ ∧ _ ∧ True))
    have HOwn := Lib.hid hown
    have HE := Lib.hid hE
    have HB := Lib.hid hB
    have hzB := hB.size
    have hcc := hS.2.1
    have hcm : c1 ≤ 9223372036854775807 := by have := hS.2.2.2; unfold maxLen at this; omega
    clear hR hS hA hown hE hB HBX HW2 HX HY HY3 HB3 HOwn3 H2 H3 Hw0
    by_cases h8 : zs.length < 8
    · have HRes := Lib.hid (show feed all = ⟨false, zs, fs⟩ from by rw [← HR.out, feed_short h8]; simp [R.addAll])
      obtain ⟨f1, f2, f3⟩ := ref_fin false HBw.out hsz1 HBx.out HOwn.out HE.out HB.out (Below.refl _ _) (HS.out.kept (bt HB.out (Below.refl _ _))) (fun a ha => (HA1.out a ha).2.1) HRes.out
      obtain ⟨b0, b1, b2, b3⟩ := f3
      obtain ⟨r0, r1, _, _⟩ := f2
      have F1 := Lib.hid f1
      have R0 := Lib.hid r0
      have R1 := Lib.hid r1
      clear f1 r0 r1
      go_wp2_with fail
      obtain ⟨W3, hW3⟩ : ∃ W3, W3 = (wr.setCell ⟨w.heap.size + 1, 0, none⟩ (.slice A1 zs.length c1)).setCell ⟨w.heap.size + 1, 1, none⟩ (.bool false) := ⟨_, rfl⟩
      rw [← hW3] at F1 R0 R1 ⊢
      have r0 := R0.out
      have r1 := R1.out
      clear hW3 b0 b1 b2 b3
      exact bodyPost_ret (v := .tuple #[.agg #[(.slice A1 zs.length c1), .bool false], .slice V fs.length k1]) (by simp [results, Try.results14, go_sem, r0, r1]) rfl F1.out
    · have h8' : 8 ≤ zs.length := by omega
      have k1' := slB_head HSr.out 4 c1 (by omega) (by omega) (by omega)
      have k2' := slB_cut HS.out 4 8 c1 (by omega) (by omega) (by omega) (by omega)
      have l1 : (zs.take 4).length = 4 := by rw [List.length_take]; omega
      have l2 : ((zs.drop 4).take 4).length = 4 := by rw [List.length_take, List.length_drop]; omega
      have r1 := LeG.refRead_any A1 (zs.take 4) c1 wr (by omega) k1'.1
      have r2 := fun W (hW : Below w1.heap.size w1 W) => LeG.refRead_any (dropA A1 4 c1) ((zs.drop 4).take 4) (c1 - 4) W (by omega) (isB_kept k2'.1 hW)
      have hrb := rd_bd (bytes_take HS.out.1.1 4)
      obtain ⟨z, hz⟩ : ∃ z, z = sz zs := ⟨_, rfl⟩
      have hzr : rd (zs.take 4) = (z : Int) := by rw [hz, sz]; omega
      have hsb := rd_bd (bytes_take (bytes_drop HS.out.1.1 4) 4)
      obtain ⟨q, hq⟩ : ∃ q : Int, q = sm zs := ⟨_, rfl⟩
      rw [readV_four l1, l1, hzr] at r1
      rw [readV_four l2, l2, show rd ((zs.drop 4).take 4) = q from hq.symm] at r2
      rw [hzr] at hrb
      have hq1 : 0 ≤ q ∧ q ≤ 4294967295 := by rw [hq]; exact hsb
      obtain ⟨hq0, hq1⟩ := hq1
      obtain ⟨hz0', hz1⟩ := hrb
      have s1 : ∀ w, (Instr.sliceAt 22 (.slice A1 zs.length c1) none (some (.int .i64 4)) none).run Try.prog w = .ok (.slice A1 4 c1) w := fun w => slice_hi w A1 zs.length c1 4 (by omega)
      obtain ⟨D4, hD4⟩ : ∃ D4, D4 = dropA A1 4 c1 := ⟨_, rfl⟩
      have s2 : ∀ w, (Instr.sliceAt 22 (.slice A1 zs.length c1) (some (.int .i64 4)) (some (.int .i64 8)) none).run Try.prog w = .ok (.slice D4 4 (c1 - 4)) w := fun w => by rw [hD4]; exact slice_2 w A1 zs.length c1 4 8 (by omega) (by omega)
      rw [← hD4] at r2
      have R1 := Lib.hid r1
      have R2 := Lib.hid r2
      have HZ := Lib.hid hz
      have HQ := Lib.hid hq
      clear r1 r2 k1' k2' l1 l2 hz hzr hsb hq hD4
      by_cases hgt : 512 < z
      · have HRes := Lib.hid (show feed all = ⟨true, [], fs⟩ from by rw [← HR.out, feed_great h8' (by rw [← HZ.out]; exact hgt)]; simp [R.addAll])
        go_wp2_with fail
        refine R1.out.mono ?_
        rintro e w2 ⟨rfl, h2⟩
        have H2 := Lib.hid h2
        clear h2
        go_wp2_with fail
        refine (R2.out _ (bt HB.out H2.out)).mono ?_
        rintro e w4 ⟨rfl, h4⟩
        have h24 := bt H2.out h4
        have H24 := Lib.hid h24
        clear h4 h24
        obtain ⟨f1, f2, f3⟩ := ref_fin true HBw.out hsz1 HBx.out HOwn.out HE.out HB.out H24.out (slB_none _) (fun a ha => by cases ha) HRes.out
        rw [List.length_nil] at f1 f2
        obtain ⟨b0, b1, b2, b3⟩ := f3
        obtain ⟨r0, r1, _, _⟩ := f2
        have F1 := Lib.hid f1
        have R0 := Lib.hid r0
        have R1 := Lib.hid r1
        clear f1 r0 r1
        go_wp2_with fail
        obtain ⟨W3, hW3⟩ : ∃ W3, W3 = (w4.setCell ⟨w.heap.size + 1, 0, none⟩ (.slice none 0 0)).setCell ⟨w.heap.size + 1, 1, none⟩ (.bool true) := ⟨_, rfl⟩
        rw [← hW3] at F1 R0 R1 ⊢
        have r0 := R0.out
        have r1 := R1.out
        clear hW3 b0 b1 b2 b3
        exact bodyPost_ret (v := .tuple #[.agg #[(.slice none 0 0), .bool true], .slice V fs.length k1]) (by simp [results, Try.results14, go_sem, r0, r1]) rfl F1.out
      · by_cases hsh : zs.length < 8 + z
        · have HRes := Lib.hid (show feed all = ⟨false, zs, fs⟩ from by rw [← HR.out, feed_wait h8' (by rw [← HZ.out]; omega) (by rw [← HZ.out]; exact hsh)]; simp [R.addAll])
          go_wp2_with fail
          refine R1.out.mono ?_
          rintro e w2 ⟨rfl, h2⟩
          have H2 := Lib.hid h2
          clear h2
          go_wp2_with fail
          refine (R2.out _ (bt HB.out H2.out)).mono ?_
          rintro e w4 ⟨rfl, h4⟩
          have h24 := bt H2.out h4
          have H24 := Lib.hid h24
          clear h4 h24
          obtain ⟨f1, f2, f3⟩ := ref_fin false HBw.out hsz1 HBx.out HOwn.out HE.out HB.out H24.out (HS.out.kept (bt HB.out H24.out)) (fun a ha => (HA1.out a ha).2.1) HRes.out
          obtain ⟨b0, b1, b2, b3⟩ := f3
          obtain ⟨r0, r1, _, _⟩ := f2
          have F1 := Lib.hid f1
          have R0 := Lib.hid r0
          have R1 := Lib.hid r1
          clear f1 r0 r1
          go_wp2_with fail
          obtain ⟨W3, hW3⟩ : ∃ W3, W3 = (w4.setCell ⟨w.heap.size + 1, 0, none⟩ (.slice A1 zs.length c1)).setCell ⟨w.heap.size + 1, 1, none⟩ (.bool false) := ⟨_, rfl⟩
          rw [← hW3] at F1 R0 R1 ⊢
          have r0 := R0.out
          have r1 := R1.out
          clear hW3 b0 b1 b2 b3
          exact bodyPost_ret (v := .tuple #[.agg #[(.slice A1 zs.length c1), .bool false], .slice V fs.length k1]) (by simp [results, Try.results14, go_sem, r0, r1]) rfl F1.out
        · have hlo : 8 + z ≤ zs.length := by omega
          obtain ⟨F, hF⟩ : ∃ F, F = fr zs := ⟨_, rfl⟩
          have hFe : F = (zs.drop 8).take (8 + z - 8) := by rw [hF, fr, ← HZ.out, show 8 + z - 8 = z from by omega]
          have hFl : F.length = z := by rw [hFe, List.length_take, List.length_drop]; omega
          obtain ⟨D, hD⟩ : ∃ D, D = dropA A1 8 c1 := ⟨_, rfl⟩
          have hcut1 := slB_cut HS.out 8 (8 + z) c1 (by omega) (by omega) (by omega) (by omega)
          rw [← hFe, ← hD] at hcut1
          have s3 : ∀ w, (Instr.sliceAt 22 (.slice A1 zs.length c1) (some (.int .i64 8)) (some (.int .i64 (8 + (z : Int)))) none).run Try.prog w = .ok (.slice D z (c1 - 8)) w := fun w => by
            have h := slice_2 w A1 zs.length c1 8 (8 + z) (by omega) (by omega)
            rw [← hD, show 8 + z - 8 = z from by omega] at h
            rw [show (8 : Int) + (z : Int) = ((8 + z : Nat) : Int) from by omega]
            exact h
          have hof := fun W (hW : Below w1.heap.size w1 W) => Crc.ROf_any D F (c1 - 8) W (by omega) (isB_kept hcut1.1 hW)
          have hnl := CrcM.next_lt 0 F
          obtain ⟨n, hn⟩ : ∃ n, n = CrcM.next 0 F := ⟨_, rfl⟩
          rw [hFl, ← hn] at hof
          rw [← hn] at hnl
          have HOf := Lib.hid hof
          have HN := Lib.hid hn
          have HF := Lib.hid hF
          have HFl := Lib.hid hFl
          have HC1 := Lib.hid hcut1
          clear hof hn hF hFe hFl hD hcut1
          by_cases hck : (n : Int) = q
          · have hd : ((n : Int) != q) = false := by simpa using hck
            have HCK := Lib.hid hck
            clear hck
            obtain ⟨E, hE'⟩ : ∃ E, E = dropA A1 (8 + z) c1 := ⟨_, rfl⟩
            obtain ⟨ys', hys⟩ : ∃ ys', ys' = zs.drop (8 + z) := ⟨_, rfl⟩
            have hyl : ys'.length = zs.length - (8 + z) := by rw [hys, List.length_drop]
            have s4 : ∀ w, (Instr.sliceAt 22 (.slice A1 zs.length c1) (some (.int .i64 (8 + (z : Int)))) none none).run Try.prog w = .ok (.slice E ys'.length (c1 - (8 + z))) w := fun w => by
              have h := slice_lo w A1 zs.length c1 (8 + z) (by omega)
              rw [← hE', ← hyl] at h
              rw [show (8 : Int) + (z : Int) = ((8 + z : Nat) : Int) from by omega]
              exact h
            have HY' := Lib.hid hys
            have HYL := Lib.hid hyl
            have HE' := Lib.hid hE'
            clear hys hyl hE'
            go_wp2_with fail
            refine R1.out.mono ?_
            rintro e w2 ⟨rfl, h2⟩
            have H2 := Lib.hid h2
            clear h2
            go_wp2_with fail
            refine (R2.out _ (bt HB.out H2.out)).mono ?_
            rintro e w4 ⟨rfl, h4⟩
            have h24 := bt H2.out h4
            have H24 := Lib.hid h24
            clear h4 h24
            go_wp2_with fail
            refine (HOf.out _ (bt HB.out H24.out)).mono ?_
            rintro e w5 ⟨rfl, rfl⟩
            have HC4 := Lib.hid (HC1.out.kept (bt HB.out H24.out))
            have hz4 := H24.out.size
            go_wp2_with (at_builtin; refine wp_append_b rfl (.const (.slice none 0 0)) (.tmp 58) rfl w4.heap.size (.slice none 0 0) 0 [] rfl (World.ownsRow_nil _ _ _ _) D z (c1 - 8) F rfl HFl.out HC4.out.1 HC4.out.2.2.1 (by omega) (Nat.le_refl _) ?_; intro v5 w5 hown5 hgrow5; refine pause ?_)
            have h45 : Below w4.heap.size w4 w5 := (Below.refl _ _).grown hgrow5 (Nat.le_refl _) (fun _ h => by cases h)
            rw [List.nil_append] at hown5
            obtain ⟨D', c5, rfl, _, hs5, hloc5⟩ := own_slB hown5 HC1.out.1.1
            have ha := (Below.refl w5.heap.size w5).alloc (Nat.le_refl _) (.cells #[.slice D' F.length c5] 22)
            have h5 := bt H24.out (bt h45 ha)
            have hz5 := h5.size
            have hz45 := h45.size
            have hown6 := own_below HOwn.out h5
            have hEs := HE.out.map fun _ _ h => h.kept h5
            have hnew : Els (fun b => w1.heap.size ≤ b ∧ ne (.slice V fs.length k1) b) (w5.alloc (.cells #[.slice D' F.length c5] 22)) [.slice D' F.length c5] [F] := by
              refine ⟨⟨D', c5, rfl, hs5.kept ha, fun hx => ?_⟩, trivial⟩
              obtain ⟨b, o, e, hc⟩ := hs5.1.2 hx
              have hb : w4.heap.size ≤ b := (hloc5 _ e).2.1
              have hlt : b < w5.heap.size := (hloc5 _ e).2.2
              refine ⟨b, o, e, ⟨by omega, fun e' => ?_⟩, by have := ha.size; omega⟩
              have := (HOwn.out.lt b e'.symm).2
              omega
            have HOwn6 := Lib.hid hown6
            have HEs := Lib.hid hEs
            have HNew := Lib.hid hnew
            have H5 := Lib.hid h5
            clear hown5 hgrow5 h45 hs5 hloc5 ha h5 hown6 hEs hnew
            unfold Pause
            go_wp2_with (at_builtin; refine wp_append_lp (fun b => w1.heap.size ≤ b) rfl (.tmp 57) (.tmp 60) rfl w1.heap.size _ _ vs fs rfl HOwn6.out HEs.out (some ⟨w5.heap.size, 0, none⟩) 1 1 [.slice D' F.length c5] [F] rfl rfl (isRow_new w5 _) HNew.out (fun h => by cases h) (by omega) (by omega) ?_; intro v' w6 hown7 hEs7 hgrow7 _; refine pause ?_)
            obtain ⟨fs', hfs⟩ : ∃ fs', fs' = fs ++ [F] := ⟨_, rfl⟩
            have hfl : fs.length + 1 = fs'.length := by rw [hfs]; simp
            rw [hfl] at hown7
            rw [← hfs] at hEs7
            obtain ⟨V', k', rfl⟩ := own_slice hown7
            have hB7 : Below w1.heap.size w1 w6 := (bt HB.out H5.out).grown hgrow7 (by omega) (fun q hq => (HOwn6.out.lt q hq).1)
            have HOwn7 := Lib.hid hown7
            have HEs7 := Lib.hid hEs7
            have HB7 := Lib.hid hB7
            have HFs := Lib.hid hfs
            have HFL := Lib.hid hfl
            have hmu : ys'.length < zs.length := by have := HYL.out; omega
            clear hown7 hEs7 hB7 hfs hfl hgrow7
            unfold Pause
            go_wp2_with fail
            go_roundw
            case rel =>
              refine ⟨E, ys', c1 - (8 + z), V', fs', k', vs ++ [.slice D' F.length c5], rfl, rfl, ?_, ?_, ?_, ?_, HOwn7.out, HEs7.out, HB7.out⟩
              · rw [HFs.out, addAll_snoc, HY'.out, HZ.out, HF.out, ← feed_good h8' (by rw [← HZ.out]; omega) (by rw [← HZ.out]; omega) (by rw [← HF.out, ← HN.out, ← HQ.out]; exact HCK.out)]
                exact HR.out
              · have h := slB_cut HS.out (8 + z) zs.length c1 (by omega) (by omega) (by omega) (by omega)
                rw [← HE'.out, ← HY'.out, List.take_of_length_le (by rw [HYL.out]; omega)] at h
                exact h
              · intro a ha
                rw [HE'.out] at ha
                obtain ⟨a0, e0, e1, e2⟩ := dropA_block ha
                have h := HA1.out a0 e0
                rw [← e1]
                exact ⟨e2 h.1, h.2.1⟩
              · have := HYL.out
                have := HFL.out
                omega
            case measure => exact hmu
          · have hd : ((n : Int) != q) = true := by simpa using hck
            have HRes := Lib.hid (show feed all = ⟨true, [], fs⟩ from by rw [← HR.out, feed_bad h8' (by rw [← HZ.out]; omega) (by rw [← HZ.out]; omega) (by rw [← HF.out, ← HN.out, ← HQ.out]; exact hck)]; simp [R.addAll])
            clear hck
            go_wp2_with fail
            refine R1.out.mono ?_
            rintro e w2 ⟨rfl, h2⟩
            have H2 := Lib.hid h2
            clear h2
            go_wp2_with fail
            refine (R2.out _ (bt HB.out H2.out)).mono ?_
            rintro e w4 ⟨rfl, h4⟩
            have h24 := bt H2.out h4
            have H24 := Lib.hid h24
            clear h4 h24
            go_wp2_with fail
            refine (HOf.out _ (bt HB.out H24.out)).mono ?_
            rintro e w5 ⟨rfl, rfl⟩
            obtain ⟨f1, f2, f3⟩ := ref_fin true HBw.out hsz1 HBx.out HOwn.out HE.out HB.out H24.out (slB_none _) (fun a ha => by cases ha) HRes.out
            rw [List.length_nil] at f1 f2
            obtain ⟨b0, b1, b2, b3⟩ := f3
            obtain ⟨r0, r1, _, _⟩ := f2
            have F1 := Lib.hid f1
            have R0 := Lib.hid r0
            have R1 := Lib.hid r1
            clear f1 r0 r1
            go_wp2_with fail
            obtain ⟨W3, hW3⟩ : ∃ W3, W3 = (w4.setCell ⟨w.heap.size + 1, 0, none⟩ (.slice none 0 0)).setCell ⟨w.heap.size + 1, 1, none⟩ (.bool true) := ⟨_, rfl⟩
            rw [← hW3] at F1 R0 R1 ⊢
            have r0 := R0.out
            have r1 := R1.out
            clear hW3 b0 b1 b2 b3
            exact bodyPost_ret (v := .tuple #[.agg #[(.slice none 0 0), .bool true], .slice V fs.length k1]) (by simp [results, Try.results14, go_sem, r0, r1]) rfl F1.out
end Go.Proofs.Ytofmgbncaokmdaa.Fr
