/- Get of the document's answers: what it answers of any bytes; asked: the slice reads as bytes. -/
import Derived.Test.YtjbpacciaeifaaaSchemaRefRead
import Derived.Test.YtjbpacciaeifaaaSchemaRefMay
import Derived.IntWalk
namespace Go.Proofs.Ytjbpacciaeifaaa.Sc
open Go.RowKit Go.Proofs.Ytjbpacciaeifaaa.BM Go.Proofs.Ytjbpacciaeifaaa.LM Go.Proofs.Ytjbpacciaeifaaa.LeM Go.Proofs.Ytjbpacciaeifaaa.VaM Go.Proofs.Ytjbpacciaeifaaa.Va Go.Proofs.Ytjbpacciaeifaaa.ScM

/-- What comes of fields that are got, and of some more. -/
def fin (t : ByteArray) (v : Nat) (l : List F) (p : Nat) : Option (List F × Nat) → Option (Sc × Nat)
  | none => none
  | some (r, k) => if May ⟨t, v, l ++ r⟩ then some (⟨t, v, l ++ r⟩, p + k) else none

theorem fin_step {t : ByteArray} {v : Nat} {l : List F} {p k : Nat} {ys : List Int} {f : F} {m : Nat} (h : gF ys = some (f, m)) :
    fin t v l p (gFs (k + 1) ys) = fin t v (l ++ [f]) (p + m) (gFs k (ys.drop m)) := by
  simp only [gFs, h]
  cases gFs k (ys.drop m) with
  | none => rfl
  | some q =>
    obtain ⟨r, n⟩ := q
    simp only [fin, List.append_assoc, List.singleton_append, Nat.add_assoc]

theorem fin_no {t : ByteArray} {v : Nat} {l : List F} {p k : Nat} {ys : List Int} (h : gF ys = none) : fin t v l p (gFs (k + 1) ys) = none := by
  simp only [gFs, h]
  rfl

theorem gS_name {xs : List Int} (h : gN xs = none) : gS xs = none := by
  unfold gS gA
  rw [h]

theorem gS_ver {xs : List Int} {t : ByteArray} {a : Nat} (h : gN xs = some (t, a)) (h2 : getS (xs.drop a) = none) : gS xs = none := by
  unfold gS gA
  rw [h]
  simp only [h2]

theorem gS_many {xs : List Int} {t : ByteArray} {a v u : Nat} (h : gN xs = some (t, a)) (h2 : getS (xs.drop a) = some (v, u)) (h3 : getS (xs.drop (a + u)) = none) : gS xs = none := by
  unfold gS gA
  rw [h]
  simp only [h2, h3]
  split <;> first | rfl | (rename_i h4; cases h4) | skip
  all_goals (rename_i h5; split at h5 <;> cases h5)

theorem gS_great {xs : List Int} {t : ByteArray} {a v u n m : Nat} (h : gN xs = some (t, a)) (h2 : getS (xs.drop a) = some (v, u)) (h3 : getS (xs.drop (a + u)) = some (n, m)) (h4 : ¬ (v ≤ 1000 ∧ n ≤ 6)) : gS xs = none := by
  unfold gS gA
  rw [h]
  simp only [h2, h3]
  by_cases hv : v ≤ 1000
  · rw [if_pos hv, if_neg (fun hn => h4 ⟨hv, hn⟩)]
  · rw [if_neg hv]

theorem gS_fin {xs : List Int} {t : ByteArray} {a v u n m : Nat} (h : gN xs = some (t, a)) (h2 : getS (xs.drop a) = some (v, u)) (h3 : getS (xs.drop (a + u)) = some (n, m)) (hv : v ≤ 1000) (hn : n ≤ 6) :
    gS xs = fin t v [] (a + u + m) (gFs n (xs.drop (a + u + m))) := by
  unfold gS gA
  rw [h]
  simp only [h2, h3, if_pos hv, if_pos hn]
  cases gFs n (xs.drop (a + u + m)) with
  | none => rfl
  | some q => rfl

set_option maxRecDepth 100000 in
set_option maxHeartbeats 4000000 in
theorem refGet_any (A : Option Addr) (xs : List Int) (c : Nat) (w : World) (hx : SlB w A xs c) : Calls Try.prog 15 #[.slice A xs.length c] w (Gots xs w) := by
  have hxc := hx.2.1
  have hmx := hx.2.2.2
  unfold maxLen at hmx
  have HX := Lib.hid hx
  have ha0 := (Below.refl w.heap.size w).alloc (Nat.le_refl _) (.cells #[.string ⟨#[]⟩, .int .i64 0, .slice none 0 0] 24)
  have hk := (Below.refl (w.alloc (.cells #[.string ⟨#[]⟩, .int .i64 0, .slice none 0 0] 24)).heap.size (w.alloc (.cells #[.string ⟨#[]⟩, .int .i64 0, .slice none 0 0] 24))).alloc (Nat.le_refl _) (.cells #[.string ⟨#[]⟩, .int .i64 0, .slice none 0 0] 24)
  have hn2 := bx_new_t (w.alloc (.cells #[.string ⟨#[]⟩, .int .i64 0, .slice none 0 0] 24)) 24 (.string ⟨#[]⟩) (.int .i64 0) (.slice none 0 0)
  rw [show (w.alloc (.cells #[.string ⟨#[]⟩, .int .i64 0, .slice none 0 0] 24)).heap.size = w.heap.size + 1 from by simp] at hn2
  have HB1 := Lib.hid (bt ha0 hk)
  have HN1 := Lib.hid hn2
  have HZ1 := Lib.hid ((bx_new_t w 24 (.string ⟨#[]⟩) (.int .i64 0) (.slice none 0 0)).kept hk)
  have hread := fun W (hW : Below w.heap.size w W) => refRead_any A xs c W (hx.kept hW)
  have hread2 := fun W (hW : Below w.heap.size w W) (p : Nat) (hp : p ≤ xs.length) => refRead_any (dropA A p c) (xs.drop p) (c - p) W (Cut.slB_drop (hx.kept hW) p hp)
  have hget2 := fun W (hW : Below w.heap.size w W) (p : Nat) (hp : p ≤ xs.length) => LeG.refGet_any (dropA A p c) (xs.drop p) (c - p) W (Cut.slB_drop (hx.kept hW) p hp).2.1 (by rw [List.length_drop]; omega) (Cut.slB_drop (hx.kept hW) p hp).1
  have hbytes := hx.1.1
  have hcell : ∀ p, p < xs.length → ∃ b q, (∀ W2, (Instr.indexAt 25 (.slice A xs.length c) (.int .i64 (p : Int))).run Try.prog W2 = .ok (.pointer (some ⟨b, q, none⟩)) W2) ∧ (∀ W, Below w.heap.size w W → W.cell? ⟨b, q, none⟩ = some (.int .u8 (xs.getD p 0))) := by
    intro p hp
    obtain ⟨b, o, e, hc⟩ := hx.1.2 (by omega)
    have h1 := hc p hp
    have hlt := World.block_lt_of_cell? w _ h1
    refine ⟨b, o + p, fun W2 => ?_, fun W hW => ?_⟩
    · rw [e, run_indexAt_slice W2 _ _ _ _ _ _ elem_b, if_pos (by omega), size_b]
      simp only [Result.andThen, Int.toNat_natCast, Nat.mul_one, Addr.add_lit]
    · rw [hW.cell (p := ⟨b, o + p, none⟩) hlt]
      exact h1
  simp only [List.length_drop] at hread2 hget2
  have hslo := fun W (p : Nat) (hp : p ≤ xs.length) => slice_lo W A xs.length c p hp
  obtain ⟨N, hN⟩ : ∃ N, N = xs.length := ⟨_, rfl⟩
  simp only [← hN] at hread2 hget2 hslo hcell hread
  rw [← hN] at hxc ⊢
  have HLen := Lib.hid hN
  have HRead := Lib.hid hread
  have HRead2 := Lib.hid hread2
  have HGet2 := Lib.hid hget2
  have HSlo := Lib.hid hslo
  have HCell := Lib.hid hcell
  have HBy := Lib.hid hbytes
  clear hx ha0 hk hn2 hN hread hread2 hget2 hslo hcell hbytes
  go_enter Try.func15, Try.ntmps15
  go_wp2_with fail
  obtain ⟨w1, hw1⟩ : ∃ w1, w1 = (w.alloc (.cells #[.string ⟨#[]⟩, .int .i64 0, .slice none 0 0] 24)).alloc (.cells #[.string ⟨#[]⟩, .int .i64 0, .slice none 0 0] 24) := ⟨_, rfl⟩
  rw [← hw1] at HB1 HN1 HZ1 ⊢
  clear hw1
  refine (HRead.out w1 HB1.out).mono ?_
  rintro e w2 ⟨rfl, hb2⟩
  have HB2 := Lib.hid (bt HB1.out hb2)
  have HN2 := Lib.hid (HN1.out.kept hb2)
  have HZ2 := Lib.hid (HZ1.out.kept hb2)
  clear hb2 HB1 HN1 HZ1 HRead
  cases h1 : gN xs with
  | none =>
    simp only [gotN]
    have hno : gotS (gS xs) = (⟨e0, 0, []⟩, 0, false) := by rw [gS_name h1]; rfl
    have HNo := Lib.hid hno
    clear hno
    have hst := bx_store HZ2.out (.string ⟨#[]⟩) (.int .i64 0) (.slice none 0 0)
    obtain ⟨⟨g0, g1, g2⟩, _⟩ := hst
    have G0 := Lib.hid g0
    have G1 := Lib.hid g1
    have G2 := Lib.hid g2
    have HF := Lib.hid (stored3 HB2.out (Nat.le_refl _) (.string ⟨#[]⟩) (.int .i64 0) (.slice none 0 0))
    obtain ⟨⟨p0, p1, p2⟩, p3, p4, p5⟩ := HZ2.out
    obtain ⟨⟨q0, q1, q2⟩, _⟩ := HN2.out
    clear g0 g1 g2
    go_wp2_with fail
    obtain ⟨W2, hW2⟩ : ∃ W2, W2 = ((w2.setCell ⟨w.heap.size, 0, none⟩ (.string ⟨#[]⟩)).setCell ⟨w.heap.size, 1, none⟩ (.int .i64 0)).setCell ⟨w.heap.size, 2, none⟩ (.slice none 0 0) := ⟨_, rfl⟩
    rw [← hW2] at HF G0 G1 G2 ⊢
    have g0 := G0.out
    have g1 := G1.out
    have g2 := G2.out
    clear hW2 p0 p1 p2 p3 p4 p5 q0 q1 q2
    exact bodyPost_ret (v := .tuple #[.agg #[.string ⟨#[]⟩, .int .i64 0, .slice none 0 0], .int .i64 0, .bool false]) (by simp [results, Try.results15, go_sem, g0, g1, g2]) rfl ⟨none, 0, ret_v (by rw [HNo.out]; rfl), (by rw [HNo.out]; exact slF_none _), (fun a ha => by cases ha), HF.out⟩
  | some q =>
    obtain ⟨t, a⟩ := q
    simp only [gotN]
    obtain ⟨hts, ha, _⟩ := gN_some HBy.out h1
    rw [← HLen.out] at ha
    have hsl1 := fun W => HSlo.out W a ha
    have HG1 := Lib.hid (HGet2.out w2 HB2.out a ha)
    obtain ⟨D1, hD1⟩ : ∃ D, D = dropA A a c := ⟨_, rfl⟩
    rw [← hD1] at HG1
    simp only [← hD1] at hsl1
    have H1 := Lib.hid h1
    clear hD1 h1
    go_wp2_with fail
    refine HG1.out.mono ?_
    rintro e w3 ⟨rfl, hb3⟩
    have HB3 := Lib.hid (bt HB2.out hb3)
    have HN3 := Lib.hid (HN2.out.kept hb3)
    have HZ3 := Lib.hid (HZ2.out.kept hb3)
    clear hb3 HB2 HN2 HZ2 HG1 hsl1
    cases h2 : getS (xs.drop a) with
    | none =>
      simp only [LeG.gotV]
      have hsl1 := fun W => HSlo.out W a ha
      have HG2 := Lib.hid (HGet2.out w3 HB3.out a ha)
      obtain ⟨D1, hD1⟩ : ∃ D, D = dropA A a c := ⟨_, rfl⟩
      rw [← hD1] at HG2
      simp only [← hD1] at hsl1
      rw [h2] at HG2
      clear hD1
      go_wp2_with fail
      refine HG2.out.mono ?_
      rintro e w4 ⟨rfl, hb4⟩
      have HB4 := Lib.hid (bt HB3.out hb4)
      have HN4 := Lib.hid (HN3.out.kept hb4)
      have HZ4 := Lib.hid (HZ3.out.kept hb4)
      simp only [LeG.gotV]
      have hno : gotS (gS xs) = (⟨e0, 0, []⟩, 0, false) := by rw [gS_ver H1.out h2]; rfl
      have HNo := Lib.hid hno
      clear hno
      clear hb4 h2
      have hst := bx_store HZ4.out (.string ⟨#[]⟩) (.int .i64 0) (.slice none 0 0)
      obtain ⟨⟨g0, g1, g2⟩, _⟩ := hst
      have G0 := Lib.hid g0
      have G1 := Lib.hid g1
      have G2 := Lib.hid g2
      have HF := Lib.hid (stored3 HB4.out (Nat.le_refl _) (.string ⟨#[]⟩) (.int .i64 0) (.slice none 0 0))
      obtain ⟨⟨p0, p1, p2⟩, p3, p4, p5⟩ := HZ4.out
      obtain ⟨⟨q0, q1, q2⟩, _⟩ := HN4.out
      clear g0 g1 g2
      go_wp2_with fail
      obtain ⟨W2, hW2⟩ : ∃ W2, W2 = ((w4.setCell ⟨w.heap.size, 0, none⟩ (.string ⟨#[]⟩)).setCell ⟨w.heap.size, 1, none⟩ (.int .i64 0)).setCell ⟨w.heap.size, 2, none⟩ (.slice none 0 0) := ⟨_, rfl⟩
      rw [← hW2] at HF G0 G1 G2 ⊢
      have g0 := G0.out
      have g1 := G1.out
      have g2 := G2.out
      clear hW2 p0 p1 p2 p3 p4 p5 q0 q1 q2
      exact bodyPost_ret (v := .tuple #[.agg #[.string ⟨#[]⟩, .int .i64 0, .slice none 0 0], .int .i64 0, .bool false]) (by simp [results, Try.results15, go_sem, g0, g1, g2]) rfl ⟨none, 0, ret_v (by rw [HNo.out]; rfl), (by rw [HNo.out]; exact slF_none _), (fun a ha => by cases ha), HF.out⟩
    | some q =>
      obtain ⟨v, u⟩ := q
      simp only [LeG.gotV]
      obtain ⟨hv64, hu, _⟩ := (getS_iff _ (bytes_drop HBy.out a) v u).1 h2
      rw [List.length_drop, ← HLen.out] at hu
      have hau : a + u ≤ N := by omega
      have hsl1 := fun W => HSlo.out W (a + u) hau
      rw [show ((a + u : Nat) : Int) = (a : Int) + (u : Int) from by omega] at hsl1
      have HG2 := Lib.hid (HGet2.out w3 HB3.out (a + u) hau)
      obtain ⟨D1, hD1⟩ : ∃ D, D = dropA A (a + u) c := ⟨_, rfl⟩
      rw [← hD1] at HG2
      simp only [← hD1] at hsl1
      have H2 := Lib.hid h2
      clear hD1 h2
      go_wp2_with fail
      refine HG2.out.mono ?_
      rintro e w4 ⟨rfl, hb4⟩
      have HB4 := Lib.hid (bt HB3.out hb4)
      have HN4 := Lib.hid (HN3.out.kept hb4)
      have HZ4 := Lib.hid (HZ3.out.kept hb4)
      clear hb4 HG2 hsl1 HB3 HN3 HZ3
      cases h3 : getS (xs.drop (a + u)) with
      | none =>
        simp only [LeG.gotV]
        have hno : gotS (gS xs) = (⟨e0, 0, []⟩, 0, false) := by rw [gS_many H1.out H2.out h3]; rfl
        have HNo := Lib.hid hno
        clear hno
        clear h3
        have hst := bx_store HZ4.out (.string ⟨#[]⟩) (.int .i64 0) (.slice none 0 0)
        obtain ⟨⟨g0, g1, g2⟩, _⟩ := hst
        have G0 := Lib.hid g0
        have G1 := Lib.hid g1
        have G2 := Lib.hid g2
        have HF := Lib.hid (stored3 HB4.out (Nat.le_refl _) (.string ⟨#[]⟩) (.int .i64 0) (.slice none 0 0))
        obtain ⟨⟨p0, p1, p2⟩, p3, p4, p5⟩ := HZ4.out
        obtain ⟨⟨q0, q1, q2⟩, _⟩ := HN4.out
        clear g0 g1 g2
        go_wp2_with fail
        obtain ⟨W2, hW2⟩ : ∃ W2, W2 = ((w4.setCell ⟨w.heap.size, 0, none⟩ (.string ⟨#[]⟩)).setCell ⟨w.heap.size, 1, none⟩ (.int .i64 0)).setCell ⟨w.heap.size, 2, none⟩ (.slice none 0 0) := ⟨_, rfl⟩
        rw [← hW2] at HF G0 G1 G2 ⊢
        have g0 := G0.out
        have g1 := G1.out
        have g2 := G2.out
        clear hW2 p0 p1 p2 p3 p4 p5 q0 q1 q2
        exact bodyPost_ret (v := .tuple #[.agg #[.string ⟨#[]⟩, .int .i64 0, .slice none 0 0], .int .i64 0, .bool false]) (by simp [results, Try.results15, go_sem, g0, g1, g2]) rfl ⟨none, 0, ret_v (by rw [HNo.out]; rfl), (by rw [HNo.out]; exact slF_none _), (fun a ha => by cases ha), HF.out⟩
      | some q =>
        obtain ⟨n, m⟩ := q
        simp only [LeG.gotV]
        obtain ⟨hn64, hm, _⟩ := (getS_iff _ (bytes_drop HBy.out (a + u)) n m).1 h3
        rw [List.length_drop, ← HLen.out] at hm
        have H3 := Lib.hid h3
        clear h3
        by_cases hv : v ≤ 1000
        · have hdv : decide ((1000 : Int) < (v : Int)) = false := by rw [decide_eq_false_iff_not]; omega
          by_cases hn : n ≤ 6
          · have hdn : decide ((6 : Int) < (n : Int)) = false := by rw [decide_eq_false_iff_not]; omega
            have hfin := gS_fin H1.out H2.out H3.out hv hn
            have HFin := Lib.hid hfin
            clear hfin H3
            have ha5 := (Below.refl w4.heap.size w4).alloc (Nat.le_refl _) (.cells #[.string t, .int .i64 (v : Int), .slice none 0 0] 24)
            have HB5 := Lib.hid (bt HB4.out ha5)
            have HN5 := Lib.hid (HN4.out.kept ha5)
            have HZ5 := Lib.hid (HZ4.out.kept ha5)
            have HX5 := Lib.hid (bx_new_t w4 24 (.string t) (.int .i64 (v : Int)) (.slice none 0 0))
            have hnb : w.heap.size + 1 < w4.heap.size := HN4.out.lt
            clear HB4 HN4 HZ4
            go_wp2_with fail
            obtain ⟨w5, hw5⟩ : ∃ w5, w5 = w4.alloc (.cells #[.string t, .int .i64 (v : Int), .slice none 0 0] 24) := ⟨_, rfl⟩
            rw [← hw5] at ha5 HB5 HN5 HZ5 HX5 ⊢
            obtain ⟨bs, hbs⟩ : ∃ bs, bs = w4.heap.size := ⟨_, rfl⟩
            rw [← hbs] at ha5 HX5 hnb ⊢
            have hbs5 := HX5.out.lt
            clear hw5 ha5 hbs
            go_loopw [7, 16] (fun at' i wr => ∃ (j p : Nat) (l : List F) (u' : Value), i = .int .i64 j ∧ at' = .int .i64 p ∧ j ≤ n ∧ p ≤ N ∧ l.length = j ∧ (∀ f ∈ l, f.s.size ≤ 12) ∧ gS xs = fin t v l p (gFs (n - j) (xs.drop p)) ∧
              Bx wr bs (.string t) (.int .i64 (v : Int)) u' ∧ wr.ownsRow w5.heap.size 37 2 u' j (fcs l) ∧ Below w.heap.size w wr ∧ Bx wr w.heap.size (.string ⟨#[]⟩) (.int .i64 0) (.slice none 0 0) ∧ Bx wr (w.heap.size + 1) (.string ⟨#[]⟩) (.int .i64 0) (.slice none 0 0) ∧ w5.heap.size ≤ wr.heap.size) (fun _ i _ => n - (intOf i).toNat)
            case atStart =>
              exact ⟨0, a + u + m, [], .slice none 0 0, rfl, by go_num, Nat.zero_le _, by omega, rfl, (fun f hf => by cases hf), HFin.out, HX5.out, World.ownsRow_nil _ _ _ _, HB5.out, HZ5.out, HN5.out, Nat.le_refl _⟩
            case round =>
              obtain ⟨j, p, l, u', rfl, rfl, hj, hp, hlj, hl12, hgs, hxs, hown, hbel, hzz, hnn, hsz⟩ := hrel
              have HL := Lib.hid hlj
              have HL12 := Lib.hid hl12
              have HGs := Lib.hid hgs
              have HXs := Lib.hid hxs
              have HO := Lib.hid hown
              have HBl := Lib.hid hbel
              have HZz := Lib.hid hzz
              have HNn := Lib.hid hnn
              clear hlj hl12 hgs hxs hown hbel hzz hnn HX5 HB5 HZ5 HN5 HFin
              by_cases hjn : j < n
              · have hnj : n - j = (n - (j + 1)) + 1 := by omega
                have hgs := HGs.out
                rw [hnj] at hgs
                have HGs2 := Lib.hid hgs
                have hsl1 := fun W => HSlo.out W p hp
                have HR2 := Lib.hid (HRead2.out wr HBl.out p hp)
                obtain ⟨D1, hD1⟩ : ∃ D, D = dropA A p c := ⟨_, rfl⟩
                rw [← hD1] at HR2
                simp only [← hD1] at hsl1
                have hgf : gF (xs.drop p) = match gN (xs.drop p) with | some (t, m) => if m < (xs.drop p).length then some (⟨t, (xs.drop p).getD m 0⟩, m + 1) else none | none => none := rfl
                have HGf := Lib.hid hgf
                clear hgs hgf hnj hD1
                go_wp2_with fail
                refine HR2.out.mono ?_
                rintro e w6 ⟨rfl, hb6⟩
                have HX6 := Lib.hid (HXs.out.kept hb6)
                have HO6 := Lib.hid (RegA.own_below HO.out hb6)
                have HB6 := Lib.hid (bt HBl.out hb6)
                have HZ6 := Lib.hid (HZz.out.kept hb6)
                have HN6 := Lib.hid (HNn.out.kept hb6)
                have hsz6 := Nat.le_trans hsz hb6.size
                clear hb6 HXs HO HBl HZz HNn hsz HR2 hsl1
                cases hg : gN (xs.drop p) with
                | none =>
                  have hgf2 : gF (xs.drop p) = none := by rw [HGf.out, hg]
                  have hno : gotS (gS xs) = (⟨e0, 0, []⟩, 0, false) := by rw [HGs2.out, fin_no hgf2]; rfl
                  have HNo := Lib.hid hno
                  simp only [gotN]
                  clear hno hgf2 hg
                  have hst := bx_store HZ6.out (.string ⟨#[]⟩) (.int .i64 0) (.slice none 0 0)
                  obtain ⟨⟨g0, g1, g2⟩, _⟩ := hst
                  have G0 := Lib.hid g0
                  have G1 := Lib.hid g1
                  have G2 := Lib.hid g2
                  have HF := Lib.hid (stored3 HB6.out (Nat.le_refl _) (.string ⟨#[]⟩) (.int .i64 0) (.slice none 0 0))
                  obtain ⟨⟨p0, p1, p2⟩, p3, p4, p5⟩ := HZ6.out
                  obtain ⟨⟨q0, q1, q2⟩, _⟩ := HN6.out
                  clear g0 g1 g2
                  go_wp2_with fail
                  obtain ⟨W2, hW2⟩ : ∃ W2, W2 = ((w6.setCell ⟨w.heap.size, 0, none⟩ (.string ⟨#[]⟩)).setCell ⟨w.heap.size, 1, none⟩ (.int .i64 0)).setCell ⟨w.heap.size, 2, none⟩ (.slice none 0 0) := ⟨_, rfl⟩
                  rw [← hW2] at HF G0 G1 G2 ⊢
                  have g0 := G0.out
                  have g1 := G1.out
                  have g2 := G2.out
                  clear hW2 p0 p1 p2 p3 p4 p5 q0 q1 q2
                  exact bodyPost_ret (v := .tuple #[.agg #[.string ⟨#[]⟩, .int .i64 0, .slice none 0 0], .int .i64 0, .bool false]) (by simp [results, Try.results15, go_sem, g0, g1, g2]) rfl ⟨none, 0, ret_v (by rw [HNo.out]; rfl), (by rw [HNo.out]; exact slF_none _), (fun a ha => by cases ha), HF.out⟩
                | some q =>
                  obtain ⟨fs, k⟩ := q
                  obtain ⟨hf12, hk, _⟩ := gN_some (bytes_drop HBy.out p) hg
                  rw [List.length_drop, ← HLen.out] at hk
                  have hdl : (xs.drop p).length = N - p := by rw [List.length_drop, ← HLen.out]
                  have hgf2 : gF (xs.drop p) = if k < N - p then some (⟨fs, (xs.drop p).getD k 0⟩, k + 1) else none := by rw [HGf.out, hg, hdl]
                  have HGf2 := Lib.hid hgf2
                  simp only [gotN]
                  clear hg hgf2 hdl HGf
                  by_cases hlt : p + k < N
                  · have hdd : decide ((N : Int) ≤ (p : Int) + (k : Int)) = false := by rw [decide_eq_false_iff_not]; omega
                    obtain ⟨bb, qq, hix, hcc⟩ := HCell.out (p + k) hlt
                    rw [show ((p + k : Nat) : Int) = (p : Int) + (k : Int) from by omega] at hix
                    obtain ⟨fk, hfk⟩ : ∃ y, y = xs.getD (p + k) 0 := ⟨_, rfl⟩
                    rw [← hfk] at hcc
                    have hgd : (xs.drop p).getD k 0 = fk := by rw [hfk]; simp [List.getD_eq_getElem?_getD, List.getElem?_drop]
                    have hgs3 : gS xs = fin t v (l ++ [⟨fs, fk⟩]) (p + k + 1) (gFs (n - (j + 1)) (xs.drop (p + k + 1))) := by
                      rw [HGs2.out, fin_step (f := ⟨fs, fk⟩) (m := k + 1) (by rw [HGf2.out, if_pos (by omega), hgd]), List.drop_drop]
                      simp only [Nat.add_assoc]
                    have HGs3 := Lib.hid hgs3
                    have HCc := Lib.hid hcc
                    have hfb : 0 ≤ fk ∧ fk < 256 := by
                      rw [hfk, List.getD_eq_getElem?_getD, List.getElem?_eq_getElem (by rw [← HLen.out]; exact hlt)]
                      exact HBy.out _ (List.getElem_mem _)
                    obtain ⟨hf0, hf1⟩ := hfb
                    have hw64 : wrap64 fk = fk := IntWalk.wrap64_in _ (by omega)
                    clear hfk hgd hgs3 hcc HGs2 HGf2 HGs
                    go_wp2_with fail
                    refine RegM.GM_start (fun x => Bx x bs (.string t) (.int .i64 (v : Int)) u' ∧ Below w.heap.size w x) (by kernel_rfl) (by repeat (first | exact Reg.frameless_bodyPost | refine Reg.frameless_then ?_ | refine Reg.frameless_inBlock ?_)) (fun W hW => ⟨HX6.out.kept hW, bt HB6.out hW⟩) (fun W hW => ?_)
                    have HSW := Lib.hid (show Bx W bs (.string t) (.int .i64 (v : Int)) u' ∧ Below w.heap.size w W from ⟨HX6.out.kept hW, bt HB6.out hW⟩)
                    have ha7 := (Below.refl W.heap.size W).alloc (Nat.le_refl _) (.cells #[.string fs, .int .i64 fk] 37)
                    have HSV := Lib.hid (show Bx (W.alloc (.cells #[.string fs, .int .i64 fk] 37)) bs (.string t) (.int .i64 (v : Int)) u' ∧ Below w.heap.size w (W.alloc (.cells #[.string fs, .int .i64 fk] 37)) from ⟨HSW.out.1.kept ha7, bt HSW.out.2 ha7⟩)
                    have HZV := Lib.hid (HZ6.out.kept (bt hW ha7))
                    have HNV := Lib.hid (HN6.out.kept (bt hW ha7))
                    have HOV := Lib.hid (RegA.own_below (RegA.own_below HO6.out hW) ha7)
                    have hszV := Nat.le_trans hsz6 (bt hW ha7).size
                    have hone : IsF (W.alloc (.cells #[.string fs, .int .i64 fk] 37)) (some ⟨W.heap.size, 0, none⟩) [⟨fs, fk⟩] := by
                      obtain ⟨⟨y0, y1⟩, _⟩ := bx2_new W 37 (.string fs) (.int .i64 fk)
                      refine fun _ => ⟨W.heap.size, 0, rfl, fun r hr => ?_⟩
                      obtain rfl : r = 0 := by simpa using hr
                      exact ⟨y0, y1⟩
                    have HOne := Lib.hid hone
                    have x0 : ∀ x : RegB.At (fun x => Bx x bs (.string t) (.int .i64 (v : Int)) u' ∧ Below w.heap.size w x), x.world.cell? ⟨bs, 2, none⟩ = some u' := fun x => x.ok.1.1.2.2
                    have x1 : ∀ x : RegB.At (fun x => Bx x bs (.string t) (.int .i64 (v : Int)) u' ∧ Below w.heap.size w x), x.world.cell? ⟨bb, qq, none⟩ = some (.int .u8 fk) := fun x => HCc.out x.world x.ok.2
                    haveI : Nonempty (RegB.At (fun x => Bx x bs (.string t) (.int .i64 (v : Int)) u' ∧ Below w.heap.size w x)) := ⟨⟨W, HSW.out⟩⟩
                    clear hW ha7 hone HX6 HO6 HB6 HZ6 HN6 hsz6
                    refine RegM.GM_step (i := 0) 1 rfl (by kernel_rfl) (by kernel_rfl) (by rfl) (fun K hK => ?_); go_big_quiet_op; refine hK _ ?_; clear hK K
                    refine RegM.GM_step (i := 1) 10 rfl (by kernel_rfl) (by kernel_rfl) (by rfl) (fun K hK => ?_); go_big_quiet_op; refine hK _ ?_; clear hK K
                    refine RegM.GM_step (i := 2) 8 rfl (by kernel_rfl) (by kernel_rfl) (by rfl) (fun K hK => ?_); go_big_quiet_op; refine hK _ ?_; clear hK K
                    refine RegM.GM_step (i := 3) 5 rfl (by kernel_rfl) (by kernel_rfl) (by rfl) (fun K hK => ?_); go_big_quiet_op; refine hK _ ?_; clear hK K
                    refine RegM.GM_step (i := 4) 5 rfl (by kernel_rfl) (by kernel_rfl) (by rfl) (fun K hK => ?_); go_big_quiet_op; refine hK _ ?_; clear hK K
                    refine RegM.GM_step (i := 5) 6 rfl (by kernel_rfl) (by kernel_rfl) (by rfl) (fun K hK => ?_); go_big_quiet_op; refine hK _ ?_; clear hK K
                    refine RegM.GM_step (i := 6) 7 rfl (by kernel_rfl) (by kernel_rfl) (by rfl) (fun K hK => ?_); go_big_quiet_op; refine hK _ ?_; clear hK K
                    refine RegM.GM_step (i := 7) 8 rfl (by kernel_rfl) (by kernel_rfl) (by rfl) (fun K hK => ?_); go_big_quiet_op; refine hK _ ?_; clear hK K
                    refine RegM.GM_event (i := 8) rfl (by kernel_rfl) (by rfl) (fun K hK => ?_)
                    go_simp
                    refine hK _ _ HSW.out ?_
                    clear hK K
                    refine RegM.GM_event (i := 9) rfl (by kernel_rfl) (by rfl) (fun K hK => ?_)
                    go_simp
                    refine hK _ _ HSV.out ?_
                    clear hK K
                    obtain ⟨v3, hv3⟩ : ∃ v3, v3 = W.alloc (.cells #[.string fs, .int .i64 fk] 37) := ⟨_, rfl⟩
                    rw [← hv3] at HSV HZV HNV HOV hszV HOne ⊢
                    clear hv3
                    refine RegM.GM_event (i := 10) rfl (by kernel_rfl) (by rfl) (fun K hK => ?_)
                    refine op_append_f (.tmp 99) (.tmp 107) rfl w5.heap.size u' j l rfl HOV.out W.heap.size 0 1 1 [⟨fs, fk⟩] rfl rfl HOne.out (by omega) hszV ?_
                    intro u4 v4 hown4 hg4
                    obtain ⟨Aq, cq, hu4⟩ := own_is hown4
                    have hne : ∀ b, b < w5.heap.size → some b ≠ u'.ownBlock := fun b hb e => by have := (HOV.out.lt _ e.symm).1; omega
                    have HX4 := Lib.hid (HSV.out.1.grown hg4 (hne _ hbs5))
                    have HB4 := Lib.hid (HSV.out.2.grown hg4 HSV.out.2.size (fun q hq => by have := (HOV.out.lt q hq).1; omega))
                    refine hK _ _ ⟨HX4.out, HB4.out⟩ ?_
                    clear hK K
                    have HZ4 := Lib.hid (HZV.out.grown hg4 (hne _ (by omega)))
                    have HN4 := Lib.hid (HNV.out.grown hg4 (hne _ (by omega)))
                    have HO4 := Lib.hid hown4
                    have hsz4 := Nat.le_trans hszV hg4.size
                    clear hown4 hg4 hne HZV HNV HOV HSV HOne hszV HSW
                    subst hu4
                    simp only [Act.put, List.setIfInBounds_toArray, List.set_cons_zero, List.set_cons_succ]
                    refine RegM.GM_step (i := 11) 12 rfl (by kernel_rfl) (by kernel_rfl) (by rfl) (fun K hK => ?_); go_big_quiet_op; refine hK _ ?_; clear hK K
                    obtain ⟨u4, hu4⟩ : ∃ u4, u4 = Value.slice Aq (j + 1) cq := ⟨_, rfl⟩
                    rw [← hu4] at HO4
                    have HXn := Lib.hid (bx_set2 HX4.out u4)
                    have HNn := Lib.hid (HN4.out.off (p := ⟨bs, 2, none⟩) (by simp only; omega) u4)
                    have HZn := Lib.hid (HZ4.out.off (p := ⟨bs, 2, none⟩) (by simp only; omega) u4)
                    have HBn := Lib.hid (HB4.out.setCell (p := ⟨bs, 2, none⟩) (by simp only; omega) u4)
                    have HOn := Lib.hid (HO4.out.kept (grown_set v4 bs 2 u4) (Or.inr (fun e => by have := (HO4.out.lt _ e).1; omega)))
                    have hszn := Nat.le_trans hsz4 (grown_set v4 bs 2 u4).size
                    obtain ⟨⟨_, _, y2⟩, _, _, y5⟩ := HX4.out
                    clear HN4 HZ4 HB4 HO4 hsz4 x0 x1
                    refine RegM.GM_last (i := 12) rfl (by kernel_rfl) (by rfl) (by kernel_rfl) (by kernel_rfl) (fun K hK => ?_)
                    go_simp
                    refine hK _ _ ?_
                    clear hK K
                    rw [← hu4]
                    clear hu4
                    obtain ⟨v5, hv5⟩ : ∃ v5, v5 = v4.setCell ⟨bs, 2, none⟩ u4 := ⟨_, rfl⟩
                    rw [← hv5] at HXn HNn HZn HBn HOn hszn ⊢
                    clear hv5 y2 y5
                    go_wp2_with fail
                    go_roundw
                    case rel =>
                      refine ⟨j + 1, p + k + 1, l ++ [⟨fs, fk⟩], u4, by go_num, by go_num, by omega, by omega, by rw [List.length_append, HL.out]; rfl, ?_, HGs3.out, HXn.out, HOn.out, HBn.out, HZn.out, HNn.out, hszn⟩
                      intro f hf
                      rcases List.mem_append.1 hf with h | h
                      · exact HL12.out f h
                      · obtain rfl := List.mem_singleton.1 h
                        exact hf12
                    case measure => simp [intOf]; omega
                  · have hdd : decide ((N : Int) ≤ (p : Int) + (k : Int)) = true := by rw [decide_eq_true_iff]; omega
                    have hno : gotS (gS xs) = (⟨e0, 0, []⟩, 0, false) := by rw [HGs2.out, fin_no (by rw [HGf2.out, if_neg (by omega)])]; rfl
                    have HNo := Lib.hid hno
                    clear hno hlt
                    have hst := bx_store HZ6.out (.string ⟨#[]⟩) (.int .i64 0) (.slice none 0 0)
                    obtain ⟨⟨g0, g1, g2⟩, _⟩ := hst
                    have G0 := Lib.hid g0
                    have G1 := Lib.hid g1
                    have G2 := Lib.hid g2
                    have HF := Lib.hid (stored3 HB6.out (Nat.le_refl _) (.string ⟨#[]⟩) (.int .i64 0) (.slice none 0 0))
                    obtain ⟨⟨p0, p1, p2⟩, p3, p4, p5⟩ := HZ6.out
                    obtain ⟨⟨q0, q1, q2⟩, _⟩ := HN6.out
                    clear g0 g1 g2
                    go_wp2_with fail
                    obtain ⟨W2, hW2⟩ : ∃ W2, W2 = ((w6.setCell ⟨w.heap.size, 0, none⟩ (.string ⟨#[]⟩)).setCell ⟨w.heap.size, 1, none⟩ (.int .i64 0)).setCell ⟨w.heap.size, 2, none⟩ (.slice none 0 0) := ⟨_, rfl⟩
                    rw [← hW2] at HF G0 G1 G2 ⊢
                    have g0 := G0.out
                    have g1 := G1.out
                    have g2 := G2.out
                    clear hW2 p0 p1 p2 p3 p4 p5 q0 q1 q2
                    exact bodyPost_ret (v := .tuple #[.agg #[.string ⟨#[]⟩, .int .i64 0, .slice none 0 0], .int .i64 0, .bool false]) (by simp [results, Try.results15, go_sem, g0, g1, g2]) rfl ⟨none, 0, ret_v (by rw [HNo.out]; rfl), (by rw [HNo.out]; exact slF_none _), (fun a ha => by cases ha), HF.out⟩
              · obtain rfl : j = n := by omega
                obtain ⟨Af, cf, rfl, hjl, hslf, hfar⟩ := own_slF HO.out (fun f hf => by have := HL12.out f hf; unfold maxLen; omega)
                have hgs : gS xs = if May ⟨t, v, l⟩ then some (⟨t, v, l⟩, p) else none := by
                  rw [HGs.out, Nat.sub_self]
                  simp only [gFs, fin, List.append_nil, Nat.add_zero]
                have HGs2 := Lib.hid hgs
                have hmy := fun W (hW : Below wr.heap.size wr W) => refMay_any ⟨t, v, l⟩ Af cf W (hslf.kept hW) ⟨by unfold maxLen; simp only; omega, by simp only; omega, by simp only; omega⟩
                rw [HL.out] at HXs
                simp only [HL.out] at hmy
                have HMy := Lib.hid hmy
                have HSlf := Lib.hid hslf
                have HFar := Lib.hid (fun a ha => (hfar a ha).1)
                obtain ⟨⟨x0, x1, x2⟩, _⟩ := HXs.out
                clear hmy hgs hslf hfar hjl
                go_wp2_with fail
                refine (HMy.out _ (Below.refl _ _)).mono ?_
                rintro e w6 ⟨rfl, hb6⟩
                clear x0 x1 x2
                have HB6 := Lib.hid (bt HBl.out hb6)
                have HX6 := Lib.hid (HXs.out.kept hb6)
                have HZ6 := Lib.hid (HZz.out.kept hb6)
                have HN6 := Lib.hid (HNn.out.kept hb6)
                have HSlf6 := Lib.hid (HSlf.out.kept hb6)
                clear hb6 HMy HBl HXs HZz HNn HSlf HO
                by_cases hmay : May ⟨t, v, l⟩
                · have hyes : gotS (gS xs) = (⟨t, v, l⟩, p, true) := by rw [HGs2.out, if_pos hmay]; rfl
                  rw [decide_eq_true hmay]
                  have HYes := Lib.hid hyes
                  clear hyes hmay
                  have hst := bx_store HZ6.out (.string t) (.int .i64 (v : Int)) (.slice Af j cf)
                  obtain ⟨⟨g0, g1, g2⟩, _⟩ := hst
                  have G0 := Lib.hid g0
                  have G1 := Lib.hid g1
                  have G2 := Lib.hid g2
                  have HF := Lib.hid (stored3 HB6.out (Nat.le_refl _) (.string t) (.int .i64 (v : Int)) (.slice Af j cf))
                  have hg0 := grown_set w6 w.heap.size 0 (.string t)
                  have hg1 := grown_set (w6.setCell ⟨w.heap.size, 0, none⟩ (.string t)) w.heap.size 1 (.int .i64 (v : Int))
                  have hg2 := grown_set ((w6.setCell ⟨w.heap.size, 0, none⟩ (.string t)).setCell ⟨w.heap.size, 1, none⟩ (.int .i64 (v : Int))) w.heap.size 2 (.slice Af j cf)
                  have HSlfN := Lib.hid (slF_grown HSlf6.out (grown_trans (grown_trans hg0 hg1) hg2) (fun a ha => by have := HFar.out a ha; omega))
                  obtain ⟨⟨p0, p1, p2⟩, p3, p4, p5⟩ := HZ6.out
                  obtain ⟨⟨x0, x1, x2⟩, _⟩ := HX6.out
                  clear g0 g1 g2 hg0 hg1 hg2
                  go_wp2_with fail
                  obtain ⟨W2, hW2⟩ : ∃ W2, W2 = ((w6.setCell ⟨w.heap.size, 0, none⟩ (.string t)).setCell ⟨w.heap.size, 1, none⟩ (.int .i64 (v : Int))).setCell ⟨w.heap.size, 2, none⟩ (.slice Af j cf) := ⟨_, rfl⟩
                  rw [← hW2] at HF G0 G1 G2 HSlfN ⊢
                  have g0 := G0.out
                  have g1 := G1.out
                  have g2 := G2.out
                  clear hW2 p0 p1 p2 p3 p4 p5 x0 x1 x2
                  have hval : got3 Af cf (gotS (gS xs)) = .tuple #[.agg #[.string t, .int .i64 (v : Int), .slice Af j cf], .int .i64 (p : Int), .bool true] := by
                    rw [HYes.out]
                    unfold got3
                    simp only [HL.out]
                  exact bodyPost_ret (v := .tuple #[.agg #[.string t, .int .i64 (v : Int), .slice Af j cf], .int .i64 (p : Int), .bool true]) (by simp [results, Try.results15, go_sem, g0, g1, g2]) rfl ⟨Af, cf, ret_v hval, (by rw [HYes.out]; exact HSlfN.out), (fun a ha => by have := HFar.out a ha; omega), HF.out⟩
                · have hno : gotS (gS xs) = (⟨e0, 0, []⟩, 0, false) := by rw [HGs2.out, if_neg hmay]; rfl
                  rw [decide_eq_false hmay]
                  have HNo := Lib.hid hno
                  clear hno hmay
                  have hst := bx_store HZ6.out (.string ⟨#[]⟩) (.int .i64 0) (.slice none 0 0)
                  obtain ⟨⟨g0, g1, g2⟩, _⟩ := hst
                  have G0 := Lib.hid g0
                  have G1 := Lib.hid g1
                  have G2 := Lib.hid g2
                  have HF := Lib.hid (stored3 HB6.out (Nat.le_refl _) (.string ⟨#[]⟩) (.int .i64 0) (.slice none 0 0))
                  obtain ⟨⟨p0, p1, p2⟩, p3, p4, p5⟩ := HZ6.out
                  obtain ⟨⟨q0, q1, q2⟩, _⟩ := HN6.out
                  clear g0 g1 g2
                  go_wp2_with fail
                  obtain ⟨W2, hW2⟩ : ∃ W2, W2 = ((w6.setCell ⟨w.heap.size, 0, none⟩ (.string ⟨#[]⟩)).setCell ⟨w.heap.size, 1, none⟩ (.int .i64 0)).setCell ⟨w.heap.size, 2, none⟩ (.slice none 0 0) := ⟨_, rfl⟩
                  rw [← hW2] at HF G0 G1 G2 ⊢
                  have g0 := G0.out
                  have g1 := G1.out
                  have g2 := G2.out
                  clear hW2 p0 p1 p2 p3 p4 p5 q0 q1 q2
                  exact bodyPost_ret (v := .tuple #[.agg #[.string ⟨#[]⟩, .int .i64 0, .slice none 0 0], .int .i64 0, .bool false]) (by simp [results, Try.results15, go_sem, g0, g1, g2]) rfl ⟨none, 0, ret_v (by rw [HNo.out]; rfl), (by rw [HNo.out]; exact slF_none _), (fun a ha => by cases ha), HF.out⟩
          · have hdn : decide ((6 : Int) < (n : Int)) = true := by rw [decide_eq_true_iff]; omega
            have hno : gotS (gS xs) = (⟨e0, 0, []⟩, 0, false) := by rw [gS_great H1.out H2.out H3.out (fun h => hn h.2)]; rfl
            have HNo := Lib.hid hno
            clear hno
            clear hn
            have hst := bx_store HZ4.out (.string ⟨#[]⟩) (.int .i64 0) (.slice none 0 0)
            obtain ⟨⟨g0, g1, g2⟩, _⟩ := hst
            have G0 := Lib.hid g0
            have G1 := Lib.hid g1
            have G2 := Lib.hid g2
            have HF := Lib.hid (stored3 HB4.out (Nat.le_refl _) (.string ⟨#[]⟩) (.int .i64 0) (.slice none 0 0))
            obtain ⟨⟨p0, p1, p2⟩, p3, p4, p5⟩ := HZ4.out
            obtain ⟨⟨q0, q1, q2⟩, _⟩ := HN4.out
            clear g0 g1 g2
            go_wp2_with fail
            obtain ⟨W2, hW2⟩ : ∃ W2, W2 = ((w4.setCell ⟨w.heap.size, 0, none⟩ (.string ⟨#[]⟩)).setCell ⟨w.heap.size, 1, none⟩ (.int .i64 0)).setCell ⟨w.heap.size, 2, none⟩ (.slice none 0 0) := ⟨_, rfl⟩
            rw [← hW2] at HF G0 G1 G2 ⊢
            have g0 := G0.out
            have g1 := G1.out
            have g2 := G2.out
            clear hW2 p0 p1 p2 p3 p4 p5 q0 q1 q2
            exact bodyPost_ret (v := .tuple #[.agg #[.string ⟨#[]⟩, .int .i64 0, .slice none 0 0], .int .i64 0, .bool false]) (by simp [results, Try.results15, go_sem, g0, g1, g2]) rfl ⟨none, 0, ret_v (by rw [HNo.out]; rfl), (by rw [HNo.out]; exact slF_none _), (fun a ha => by cases ha), HF.out⟩
        · have hdv : decide ((1000 : Int) < (v : Int)) = true := by rw [decide_eq_true_iff]; omega
          have hno : gotS (gS xs) = (⟨e0, 0, []⟩, 0, false) := by rw [gS_great H1.out H2.out H3.out (fun h => hv h.1)]; rfl
          have HNo := Lib.hid hno
          clear hno
          clear hv
          have hst := bx_store HZ4.out (.string ⟨#[]⟩) (.int .i64 0) (.slice none 0 0)
          obtain ⟨⟨g0, g1, g2⟩, _⟩ := hst
          have G0 := Lib.hid g0
          have G1 := Lib.hid g1
          have G2 := Lib.hid g2
          have HF := Lib.hid (stored3 HB4.out (Nat.le_refl _) (.string ⟨#[]⟩) (.int .i64 0) (.slice none 0 0))
          obtain ⟨⟨p0, p1, p2⟩, p3, p4, p5⟩ := HZ4.out
          obtain ⟨⟨q0, q1, q2⟩, _⟩ := HN4.out
          clear g0 g1 g2
          go_wp2_with fail
          obtain ⟨W2, hW2⟩ : ∃ W2, W2 = ((w4.setCell ⟨w.heap.size, 0, none⟩ (.string ⟨#[]⟩)).setCell ⟨w.heap.size, 1, none⟩ (.int .i64 0)).setCell ⟨w.heap.size, 2, none⟩ (.slice none 0 0) := ⟨_, rfl⟩
          rw [← hW2] at HF G0 G1 G2 ⊢
          have g0 := G0.out
          have g1 := G1.out
          have g2 := G2.out
          clear hW2 p0 p1 p2 p3 p4 p5 q0 q1 q2
          exact bodyPost_ret (v := .tuple #[.agg #[.string ⟨#[]⟩, .int .i64 0, .slice none 0 0], .int .i64 0, .bool false]) (by simp [results, Try.results15, go_sem, g0, g1, g2]) rfl ⟨none, 0, ret_v (by rw [HNo.out]; rfl), (by rw [HNo.out]; exact slF_none _), (fun a ha => by cases ha), HF.out⟩
end Go.Proofs.Ytjbpacciaeifaaa.Sc
