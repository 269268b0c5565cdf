/- Several texts in one: what this layer has; what each asks is said at each theorem. -/
import Derived.Test.YtbmdkibmfkmjoaaGreatTcD
import Derived.Test.YtbmdkibmfkmjoaaGreatTcA
import Derived.Test.YtbmdkibmfkmjoaaGreatValueApp
import Derived.Test.YtbmdkibmfkmjoaaGreatTcB
import Derived.Test.YtbmdkibmfkmjoaaGreatOpRow
import Derived.Test.YtbmdkibmfkmjoaaGreatValueEq
import Derived.BigQuiet
import Derived.Test.YtbmdkibmfkmjoaaGreatRows
import Derived.Lib.SmallJoins
import Derived.Deep.Slices
import Derived.ShutString
import Derived.OpenShut
import Derived.Test.YtbmdkibmfkmjoaaGreatBMem
import Derived.ProofKit

namespace Go.Proofs.YtbmdkibmfkmjoaaGreat.Ex
open Go.RowKit Go.Proofs.YtbmdkibmfkmjoaaGreat.BM Go.Proofs.YtbmdkibmfkmjoaaGreat.VaM Go.Proofs.YtbmdkibmfkmjoaaGreat.Va Go.Proofs.YtbmdkibmfkmjoaaGreat.ExM Go.Proofs.YtbmdkibmfkmjoaaGreat.EvM
open Go.Proofs.YtbmdkibmfkmjoaaGreat.Sc (SlF slF_len)

set_option maxRecDepth 100000 in
set_option maxHeartbeats 4000000 in
theorem refKind_any (s : ScM.Sc) (l : List O) (A : Option Addr) (c : Nat) (B : Option Addr) (d : Nat) (w : World) (hF : SlF w A s.f c) (hz : Sc.Fine s) (hO : SlO w B l d) :
    Calls Tryz.prog 64 #[.agg #[.string s.s, .int .i64 s.v, .slice A s.f.length c], .slice B l.length d] w fun e w' => e = .returned (.tuple #[.int .i64 (kind s l).1, .int .i64 (kind s l).2]) ∧ Below w.heap.size w w' := by
  have hml := fun W (h : Below w.heap.size w W) => refMay_any l B d W (hO.kept h)
  have hms := fun W (h : Below w.heap.size w W) => Sc.refMay_any s A c W (hF.kept h) hz
  have hth := fun (g : ScM.May s ∧ ExM.May l) K k W (h : Below w.heap.size w W) (hk : SlV W K (kvs s) k) => through_any (kvs s) l true K k B d W hk (hO.kept h) (fun x hx => (kvs_may g.1 x hx).1) (fun x hx => g.2.ok hx) g.2.2
  have hno : ¬ (ScM.May s ∧ ExM.May l) → kind s l = (0, 1) := fun h => by rw [kind, if_pos h]
  have hyes : (ScM.May s ∧ ExM.May l) → kind s l = ((through (kvs s) l true).1.k, (through (kvs s) l true).2) := fun h => by rw [kind, if_neg (fun k => k h)]; rfl
  have hfat := fun j (hj : j < s.f.length) => hF.at j hj
  have hkm := @kvs_may s
  have hkt := fun j => @kvs_take s j
  have hkl : (kvs s).length = s.f.length := by unfold kvs; rw [List.length_map]
  have hl := slF_len hF
  have h6 : ScM.May s → s.f.length ≤ 6 := fun h => h.2.2.2.1
  obtain ⟨⟨rk, re⟩, hR⟩ : ∃ R, R = kind s l := ⟨_, rfl⟩
  rw [← hR] at hno hyes ⊢
  obtain ⟨Y, hY⟩ : ∃ Y, Y = through (kvs s) l true := ⟨_, rfl⟩
  rw [← hY] at hyes
  simp only [← hY] at hth
  obtain ⟨KV', hKV⟩ : ∃ K, K = kvs s := ⟨_, rfl⟩
  rw [← hKV] at hkm hkl
  simp only [← hKV] at hth hkt
  clear hY hKV hR
  obtain ⟨⟨yk, yn, ys⟩, yr⟩ := Y
  unfold TwoV at hth
  simp only at hth hyes ⊢
  obtain ⟨nm, v, f⟩ := s
  simp only at hms hfat hkt hkl hl h6 hno hyes ⊢
  obtain ⟨n, hn⟩ : ∃ n, n = f.length := ⟨_, rfl⟩
  obtain ⟨m, hm⟩ : ∃ n, n = l.length := ⟨_, rfl⟩
  simp only [← hn] at hms hfat hkt hkl hl h6
  simp only [← hm] at hml hth
  rw [← hn, ← hm]
  have HMl := Lib.hid hml
  have HMs := Lib.hid hms
  have HTh := Lib.hid hth
  have HNo := Lib.hid hno
  have HYes := Lib.hid hyes
  have HFat := Lib.hid hfat
  have HKm := Lib.hid hkm
  have HKt := Lib.hid hkt
  have HKl := Lib.hid hkl
  have H6 := Lib.hid h6
  have HX1 := Lib.hid (bx_new_t w 40 (.string nm) (.int .i64 v) (.slice A n c))
  have HB1 := Lib.hid ((Below.refl w.heap.size w).alloc (Nat.le_refl _) (.cells #[.string nm, .int .i64 v, .slice A n c] 40))
  clear hml hms hth hno hyes hfat hkm hkt hkl h6 hF hz hO hn hm
  obtain ⟨⟨p0, p1, p2⟩, _⟩ := HX1.out
  go_enter Tryz.func64, Tryz.ntmps64
  go_wp2_with fail
  obtain ⟨w1, hw1⟩ : ∃ w1, w1 = w.alloc (.cells #[.string nm, .int .i64 v, .slice A n c] 40) := ⟨_, rfl⟩
  rw [← hw1] at HX1 HB1 ⊢
  clear hw1 p0 p1 p2
  refine (HMs.out w1 HB1.out).mono ?_
  rintro e w2 ⟨rfl, hb2⟩
  have HB2 := Lib.hid (bt HB1.out hb2)
  have HX2 := Lib.hid (HX1.out.kept hb2)
  clear hb2 HB1 HX1
  obtain ⟨a1, ha1⟩ : ∃ a, a = decide (ScM.May ⟨nm, v, f⟩) := ⟨_, rfl⟩
  rw [← ha1]
  have HA1 := Lib.hid ha1
  clear ha1
  go_wp2_with fail
  refine (HMl.out w2 HB2.out).mono ?_
  rintro e w3 ⟨rfl, hb3⟩
  have HB3 := Lib.hid (bt HB2.out hb3)
  have HX3 := Lib.hid (HX2.out.kept hb3)
  clear hb3 HB2 HX2
  obtain ⟨a2, ha2⟩ : ∃ a, a = decide (ExM.May l) := ⟨_, rfl⟩
  rw [← ha2]
  have HA2 := Lib.hid ha2
  clear ha2
  have hways : (a1 = false ∨ (a1 = true ∧ a2 = false)) ∨ (a1 = true ∧ a2 = true) := by cases a1 <;> cases a2 <;> simp
  rcases hways with hbad | ⟨rfl, rfl⟩
  · have HR := Lib.hid (HNo.out (fun h => by
      have g1 := HA1.out
      have g2 := HA2.out
      rw [decide_eq_true h.1] at g1
      rw [decide_eq_true h.2] at g2
      subst g1 g2
      simp at hbad))
    clear HA1 HA2
    rcases hbad with rfl | ⟨rfl, rfl⟩
    all_goals
      go_wp2_with fail
      exact bodyPost_ret (v := .tuple #[.int .i64 0, .int .i64 1]) (by simp [results, Tryz.results64, go_sem]) rfl ⟨ret_v (by have h := HR.out; injection h with h1 h2; rw [h1, h2]), HB3.out⟩
  · have hms := of_decide_eq_true HA1.out.symm
    have hml := of_decide_eq_true HA2.out.symm
    have HTw := Lib.hid (HTh.out ⟨hms, hml⟩)
    have HY := Lib.hid (HYes.out ⟨hms, hml⟩)
    have HKy := Lib.hid (HKm.out hms)
    have hn6 := H6.out hms
    clear hms hml HA1 HA2 HNo HYes HTh HKm H6
    go_wp2_with fail
    go_loopw [8, 9] (fun u i wr => ∃ j : Nat, i = .int .i64 j ∧ j ≤ n ∧ Pile w3.heap.size (KV'.take j) u wr ∧ Below w3.heap.size w3 wr) (fun _ i _ => n - (intOf i).toNat)
    case atStart => exact ⟨0, rfl, Nat.zero_le _, pile_nil _ _, Below.refl _ _⟩
    case round =>
      obtain ⟨j, rfl, hj, hpile, hbel⟩ := hrel
      have HP := Lib.hid hpile
      have HBl := Lib.hid hbel
      clear hpile hbel
      obtain ⟨⟨p0, p1, p2⟩, _⟩ := HX3.out.kept HBl.out
      by_cases hjn : j < n
      · obtain ⟨b, q, hix, hc, _⟩ := HFat.out j hjn
        have hkt := HKt.out j hjn
        obtain ⟨⟨fs, fk⟩, hf⟩ : ∃ e, e = f.getD j ScM.d0 := ⟨_, rfl⟩
        rw [← hf] at hc hkt
        obtain ⟨y0, y1⟩ := hc wr (bt HB3.out HBl.out)
        simp only at y0 y1
        have hi := fun W => hix W n c hjn
        have HKj := Lib.hid hkt
        have HTl := Lib.hid (show (KV'.take j).length = j from by rw [List.length_take, HKl.out]; omega)
        have ha2 := (Below.refl wr.heap.size wr).alloc (Nat.le_refl _) (.cells #[.int .i64 fk, .int .i64 0, .string ⟨#[]⟩] 78)
        have HN2 := Lib.hid (one_new wr (kval fk))
        have HP2 := Lib.hid (HP.out.kept ha2)
        have HB2 := Lib.hid (bt HBl.out ha2)
        have hz2 := HB2.out.size
        have hp2 := HP2.out.1
        rw [HTl.out] at hp2
        have HPo := Lib.hid hp2
        clear hc hix hf hkt ha2 hp2
        go_wp2_with (at_builtin; refine wp_append_v rfl (.tmp 29) (.tmp 37) rfl w3.heap.size _ j (KV'.take j) rfl HPo.out (some ⟨wr.heap.size, 0, none⟩) 1 1 [kval fk] rfl rfl HN2.out (by omega) hz2 ?_; intro u4 w4 hown4 hgrow4; refine pause ?_)
        have HB4 := Lib.hid (HB2.out.grown hgrow4 hz2 (fun q hq => (HP2.out.1.lt q hq).1))
        rw [← HKj.out] at hown4
        have HP4 := Lib.hid (show Pile w3.heap.size (KV'.take (j + 1)) u4 w4 from ⟨by rw [show (KV'.take (j + 1)).length = j + 1 from by rw [List.length_take, HKl.out]; omega]; exact hown4, fun y hy => HKy.out y (List.mem_of_mem_take hy)⟩)
        clear hown4 hgrow4
        unfold Pause
        go_wp2_with fail
        go_roundw
        case rel => exact ⟨j + 1, by go_num, by omega, HP4.out, HB4.out⟩
        case measure => simp [intOf]; omega
      · obtain rfl : j = n := by omega
        have hp := HP.out
        rw [show KV'.take j = KV' from by rw [← HKl.out]; exact List.take_length] at hp
        obtain ⟨K, k, rfl, hsl, _⟩ := hp.sl
        have HCa := Lib.hid (HTw.out K k wr (bt HB3.out HBl.out) hsl)
        rw [HKl.out] at HCa ⊢
        clear hp hsl HTw
        go_wp2_with fail
        refine HCa.out.mono ?_
        rintro e w5 ⟨rfl, hb5⟩
        have ha6 := (Below.refl w5.heap.size w5).alloc (Nat.le_refl _) (.cells #[.int .i64 yk, .int .i64 yn, .string ys] 78)
        obtain ⟨⟨y0, y1, y2⟩, _⟩ := bx_new_t w5 78 (.int .i64 yk) (.int .i64 yn) (.string ys)
        have HB6 := Lib.hid (bt HB3.out (bt HBl.out (bt hb5 ha6)))
        clear hb5 ha6 p0 p1 p2 HCa
        go_wp2_with fail
        exact bodyPost_ret (v := .tuple #[.int .i64 yk, .int .i64 yr]) (by simp [results, Tryz.results64, go_sem]) rfl ⟨ret_v (by have h := HY.out; injection h with h1 h2; rw [h1, h2]), HB6.out⟩
end Go.Proofs.YtbmdkibmfkmjoaaGreat.Ex

namespace Go.Proofs.YtbmdkibmfkmjoaaGreat.Qy
open Go.RowKit Go.Proofs.YtbmdkibmfkmjoaaGreat.BM Go.Proofs.YtbmdkibmfkmjoaaGreat.LM Go.Proofs.YtbmdkibmfkmjoaaGreat.VaM Go.Proofs.YtbmdkibmfkmjoaaGreat.ExM Go.Proofs.YtbmdkibmfkmjoaaGreat.QyM
open Go.Proofs.YtbmdkibmfkmjoaaGreat.Ex (SlO slO_none slO_len)
open Go.Proofs.YtbmdkibmfkmjoaaGreat.Va (ret_v bx_new_t)
open Go.Proofs.YtbmdkibmfkmjoaaGreat.Sc (SlS SlF slF_len)
open Go.Proofs.YtbmdkibmfkmjoaaGreat.ScM (Sc)

set_option maxRecDepth 100000 in
set_option maxHeartbeats 4000000 in
theorem refAsks_any (l : List Sc) (nm : ByteArray) (f : List O) (A : Option Addr) (c : Nat) (B : Option Addr) (d : Nat) (w : World) (hS : SlS w A l c) (hO : SlO w B f d) :
    Calls Tryz.prog 38 #[.slice A l.length c, .string nm, .slice B f.length d] w fun e w' => e = .returned (.int .i64 (asks l nm f)) ∧ Below w.heap.size w w' := by
  have hfi := Rg.refFind_any l nm A c w hS
  have hki := fun K k W (hF : SlF W K (RgM.find l nm).1.f k) (hz : Sc.Fine (RgM.find l nm).1) (h : Below w.heap.size w W) => Ex.refKind_any (RgM.find l nm).1 f K k B d W hF hz (hO.kept h)
  have h1 := @asks_no l nm f
  have h2 := @asks_nil l nm f
  have h3 := @asks_kind l nm f
  obtain ⟨R, hR⟩ : ∃ R, R = asks l nm f := ⟨_, rfl⟩
  rw [← hR] at h1 h2 h3 ⊢
  unfold Rg.Found at hfi
  obtain ⟨⟨s, is⟩, hF⟩ : ∃ F, F = RgM.find l nm := ⟨_, rfl⟩
  rw [← hF] at h1 h2 h3
  simp only [← hF] at hfi hki
  simp only at h1 h2 h3
  obtain ⟨⟨kk, ke⟩, hk⟩ : ∃ K, K = kind s f := ⟨_, rfl⟩
  rw [← hk] at h3
  simp only [← hk] at hki
  simp only at h3
  clear hF hk hR
  obtain ⟨fs, fv, ff⟩ := s
  simp only at hfi hki
  obtain ⟨n, hn⟩ : ∃ n, n = l.length := ⟨_, rfl⟩
  obtain ⟨m, hm⟩ : ∃ n, n = f.length := ⟨_, rfl⟩
  obtain ⟨k, hk⟩ : ∃ n, n = ff.length := ⟨_, rfl⟩
  simp only [← hn, ← hm, ← hk] at hfi hki
  rw [← hn, ← hm]
  have HFi := Lib.hid hfi
  have HKi := Lib.hid hki
  have H1 := Lib.hid h1
  have H2 := Lib.hid h2
  have H3 := Lib.hid h3
  have HM := Lib.hid hm
  clear hfi hki h1 h2 h3 hn hm hk hS hO
  go_enter Tryz.func38, Tryz.ntmps38
  go_wp2_with fail
  refine HFi.out.mono ?_
  rintro e w1 ⟨A1, c1, rfl, hs, hz, hb⟩
  have ha := (Below.refl w1.heap.size w1).alloc (Nat.le_refl _) (.cells #[.string fs, .int .i64 fv, .slice A1 k c1] 40)
  obtain ⟨⟨p0, p1, p2⟩, _⟩ := bx_new_t w1 40 (.string fs) (.int .i64 fv) (.slice A1 k c1)
  have HB := Lib.hid (bt hb ha)
  have HC := Lib.hid (HKi.out A1 c1 _ (hs.kept ha) hz (bt hb ha))
  clear hs hz hb ha HFi HKi
  cases is
  · have HR := Lib.hid (H1.out rfl)
    clear H1 H2 H3
    go_wp2_with fail
    go_ret
    exact ⟨ret_v (x := .int .i64 3) (by rw [HR.out]), HB.out⟩
  · by_cases hf : f = []
    · have HR := Lib.hid (H2.out rfl hf)
      have g0 : m = 0 := by rw [HM.out, hf]; rfl
      subst g0
      clear H1 H2 H3 hf HM
      go_wp2_with fail
      go_ret
      exact ⟨ret_v (x := .int .i64 0) (by rw [HR.out]), HB.out⟩
    · have HR := Lib.hid (H3.out rfl hf)
      have hm0 : m ≠ 0 := fun e => hf (List.length_eq_zero_iff.1 (by rw [← HM.out, e]))
      have g0 : ((m : Int) == 0) = false := by simpa using (show (m : Int) ≠ 0 by omega)
      have g0' : (m == 0) = false := by simpa using hm0
      obtain ⟨z1, g1⟩ : ∃ z, (ke == 0) = z := ⟨_, rfl⟩
      obtain ⟨z2, g2⟩ : ∃ z, (kk != 1) = z := ⟨_, rfl⟩
      have HR2 := Lib.hid (show R = if z1 = true ∧ z2 = true then 5 else ke from by
        rw [HR.out, ← g1, ← g2]
        simp only [beq_iff_eq, bne_iff_ne])
      clear H1 H2 H3 hf hm0 HM HR
      go_wp2_with fail
      refine HC.out.mono ?_
      rintro e w2 ⟨rfl, hb2⟩
      have HB2 := Lib.hid (bt HB.out hb2)
      clear hb2
      cases z1
      · go_wp2_with fail
        go_ret
        exact ⟨ret_v (x := .int .i64 ke) (by rw [HR2.out]; rfl), HB2.out⟩
      · cases z2
        · go_wp2_with fail
          go_ret
          exact ⟨ret_v (x := .int .i64 ke) (by rw [HR2.out]; rfl), HB2.out⟩
        · go_wp2_with fail
          go_ret
          exact ⟨ret_v (x := .int .i64 5) (by rw [HR2.out]; rfl), HB2.out⟩

set_option maxRecDepth 100000 in
set_option maxHeartbeats 8000000 in
theorem refCheck_any (l : List Sc) (q : Q) (A : Option Addr) (c : Nat) (B : Option Addr) (d : Nat) (w : World) (hS : SlS w A l c) (hT : SlSt w B q.p d) :
    Calls Tryz.prog 15 #[.slice A l.length c, agQ q B d] w fun e w' => e = .returned (.int .i64 (check l q)) ∧ Below w.heap.size w w' := by
  have hlen := slSt_len hT
  have hml := fun W (h : Below w.heap.size w W) => Rg.refMay_any l A c W (hS.kept h)
  have hmq := fun W (h : Below w.heap.size w W) => refMay_any q B d W (hT.kept h)
  have hask := fun nm f K k W (h : Below w.heap.size w W) (hO : SlO W K f k) => refAsks_any l nm f A c K k W (hS.kept h) hO
  have hfind := fun nm W (h : Below w.heap.size w W) => Rg.refFind_any l nm A c W (hS.kept h)
  have h1 := @check_1 l q
  have he := fun h j => @check_e l q h j
  have ha := @check_a l q
  have hb1 := (Below.refl w.heap.size w).alloc (Nat.le_refl _) (.cells #[.slice B q.p.length d, .int .i64 q.w, .int .i64 q.a, .int .i64 q.i, .int .i64 q.f] 25)
  have hX := bxQ_new w q B d
  obtain ⟨R, hR⟩ : ∃ R, R = check l q := ⟨_, rfl⟩
  rw [← hR] at h1 ha ⊢
  simp only [← hR] at he
  unfold agQ at hmq ⊢
  have hagg : aggBad l q ↔ q.a ≠ 0 ∧ ¬ (q.f < ((RgM.find l (q.p.getD q.i.toNat t0).s).1.f.length : Int) ∧ ((RgM.find l (q.p.getD q.i.toNat t0).s).1.f.getD q.f.toNat ScM.d0).k = 0) := Iff.rfl
  have hmay : May q → (0 ≤ q.i ∧ q.i < (q.p.length : Int)) ∧ 0 ≤ q.f := fun h => ⟨h.2.2.2.1, h.2.2.2.2.1.1⟩
  obtain ⟨m, hm⟩ : ∃ m, m = l.length := ⟨_, rfl⟩
  obtain ⟨n, hn⟩ : ∃ n, n = q.p.length := ⟨_, rfl⟩
  simp only [← hm] at hml hask hfind
  simp only [← hn] at hmq he ha hb1 hmay hlen
  rw [← hm, ← hn]
  have HX := Lib.hid hX
  have HB1 := Lib.hid hb1
  have HMl := Lib.hid hml
  have HMq := Lib.hid hmq
  have HAsk := Lib.hid hask
  have HFind := Lib.hid hfind
  have H1 := Lib.hid h1
  have HE := Lib.hid he
  have HA := Lib.hid ha
  have HAgg := Lib.hid hagg
  have HMay := Lib.hid hmay
  have HN := Lib.hid hn
  have HT := Lib.hid hT
  obtain ⟨p0, p1, p2, p3, p4⟩ := HX.out.cells
  rw [← hn] at p0 p1 p2 p3 p4
  clear hml hmq hask hfind h1 he ha hb1 hX hR hagg hmay hn hm hS hT
  go_enter Tryz.func15, Tryz.ntmps15
  go_wp2_with fail
  obtain ⟨w1, hw1⟩ : ∃ w1, w1 = w.alloc (.cells #[.slice B n d, .int .i64 q.w, .int .i64 q.a, .int .i64 q.i, .int .i64 q.f] 25) := ⟨_, rfl⟩
  rw [← hw1] at p0 p1 p2 p3 p4 HB1 ⊢
  have hg : ∀ v k, w1.cell? ⟨w.heap.size, k, none⟩ = some v → ∀ W, Below w1.heap.size w1 W → W.cell? ⟨w.heap.size, k, none⟩ = some v := fun v k h W hW => (hW.cell (p := ⟨w.heap.size, k, none⟩) (World.block_lt_of_cell? w1 _ h)).trans h
  have HP0 := Lib.hid (hg _ _ p0)
  have HP1 := Lib.hid (hg _ _ p1)
  have HP2 := Lib.hid (hg _ _ p2)
  have HP3 := Lib.hid (hg _ _ p3)
  have HP4 := Lib.hid (hg _ _ p4)
  clear hw1 hg p0 p1 p2 p3 p4
  refine (HMl.out w1 HB1.out).mono ?_
  rintro e w2 ⟨rfl, hb2⟩
  have HB2 := Lib.hid hb2
  have p0 := HP0.out w2 hb2
  have p1 := HP1.out w2 hb2
  have p2 := HP2.out w2 hb2
  have p3 := HP3.out w2 hb2
  have p4 := HP4.out w2 hb2
  clear hb2 HMl
  obtain ⟨a1, ha1⟩ : ∃ a, a = decide (RgM.May l) := ⟨_, rfl⟩
  rw [← ha1]
  have HA1 := Lib.hid ha1
  clear ha1
  go_wp2_with fail
  refine (HMq.out w2 (bt HB1.out HB2.out)).mono ?_
  rintro e w3 ⟨rfl, hb3⟩
  have HB3 := Lib.hid (bt HB2.out hb3)
  obtain ⟨a2, ha2⟩ : ∃ a, a = decide (May q) := ⟨_, rfl⟩
  rw [← ha2]
  have HA2 := Lib.hid ha2
  clear hb3 ha2 HMq HB2 p0 p1 p2 p3 p4
  have hways : (a1 = false ∨ (a1 = true ∧ a2 = false)) ∨ (a1 = true ∧ a2 = true) := by cases a1 <;> cases a2 <;> simp
  rcases hways with hbad | ⟨rfl, rfl⟩
  · have HR := Lib.hid (H1.out (fun h => by
      have g1 := HA1.out
      have g2 := HA2.out
      rw [decide_eq_true h.1] at g1
      rw [decide_eq_true h.2] at g2
      subst g1 g2
      simp at hbad))
    clear HA1 HA2
    rcases hbad with rfl | ⟨rfl, rfl⟩
    all_goals
      go_wp2_with fail
      go_ret
      exact ⟨ret_v (x := .int .i64 1) (by rw [HR.out]), bt HB1.out HB3.out⟩
  · have hmays : RgM.May l ∧ May q := ⟨of_decide_eq_true HA1.out.symm, of_decide_eq_true HA2.out.symm⟩
    have HE2 := Lib.hid (HE.out hmays)
    have HAg2 := Lib.hid (HA.out hmays)
    obtain ⟨⟨hi0, hin⟩, hf0⟩ := HMay.out hmays.2
    obtain ⟨ki, hki⟩ := Int.eq_ofNat_of_zero_le hi0
    obtain ⟨kf, hkf⟩ := Int.eq_ofNat_of_zero_le hf0
    have hagg := HAgg.out
    rw [hki, hkf] at hagg
    rw [hki] at hin HP3
    rw [hkf] at HP4
    simp only [Int.toNat_natCast] at hagg
    have HAg3 := Lib.hid hagg
    have hkn : ki < n := by omega
    clear hmays H1 HE HA HA1 HA2 HMay HAgg hagg hi0 hin hf0 hki hkf
    go_wp2_with fail
    go_loopw [7] (fun i wr => ∃ j : Nat, i = .int .i64 j ∧ j ≤ n ∧ (∀ i, i < j → asksS l (q.p.getD i t0) = 0) ∧ Below w1.heap.size w1 wr) (fun i _ => n - (intOf i).toNat)
    case atStart => exact ⟨0, rfl, Nat.zero_le _, (fun i hi => absurd hi (Nat.not_lt_zero i)), HB3.out⟩
    case round =>
      obtain ⟨j, rfl, hj, hall, hbel⟩ := hrel
      have HAl := Lib.hid hall
      have HBl := Lib.hid hbel
      have p0 := HP0.out wr hbel
      clear hall hbel HB3
      by_cases hjn : j < n
      · obtain ⟨b1, q1, A1, c1, C1, d1, hix, hc, hfz⟩ := HT.out.at j (by rw [← HN.out]; exact hjn)
        obtain ⟨hcell, hA1, hC1⟩ := hc wr (bt HB1.out HBl.out)
        have hi := fun W => hix W n d hjn
        have hej := HE2.out j hjn HAl.out
        have hyes := @asksS_yes l (q.p.getD j t0)
        have hno := @asksS_no l (q.p.getD j t0)
        obtain ⟨x, hx⟩ : ∃ x, x = q.p.getD j t0 := ⟨_, rfl⟩
        rw [← hx] at hcell hA1 hC1 hej hyes hno
        have hsucc : asksS l x = 0 → ∀ i, i < j + 1 → asksS l (q.p.getD i t0) = 0 := fun h i hi => by
          by_cases e : i = j
          · rw [e, ← hx]
            exact h
          · exact HAl.out i (by omega)
        have hX2 := bxSt_new wr x A1 c1 C1 d1
        have ha2 := (Below.refl wr.heap.size wr).alloc (Nat.le_refl _) (.cells #[.string x.s, .slice A1 x.f.length c1, .int .i64 x.lo, .int .i64 x.hi, .bool x.g, .string x.t, .slice C1 x.h.length d1] 47)
        obtain ⟨S, hSx⟩ : ∃ S, S = asksS l x := ⟨_, rfl⟩
        rw [← hSx] at hej hyes hno hsucc
        obtain ⟨E1, hE1⟩ : ∃ E, E = asks l x.s x.f := ⟨_, rfl⟩
        obtain ⟨E2, hE2⟩ : ∃ E, E = asks l x.t x.h := ⟨_, rfl⟩
        rw [← hE1] at hyes hno
        rw [← hE2] at hyes
        have hk1 := fun W (h : Below w.heap.size w W) (hO : SlO W A1 x.f c1) => HAsk.out x.s x.f A1 c1 W h hO
        have hk2 := fun W (h : Below w.heap.size w W) (hO : SlO W C1 x.h d1) => HAsk.out x.t x.h C1 d1 W h hO
        simp only [← hE1] at hk1
        simp only [← hE2] at hk2
        unfold CellSt at hcell
        obtain ⟨xs, xf, lo, hi', xg, xt, xh⟩ := x
        simp only at hcell hA1 hC1 hyes hno hX2 ha2 hk1 hk2
        obtain ⟨x0, x1, x2, x3, x4, x5, x6⟩ := hcell
        have hcl := hX2.cells
        unfold CellSt at hcl
        simp only at hcl
        obtain ⟨n1, hn1⟩ : ∃ n, n = xf.length := ⟨_, rfl⟩
        obtain ⟨n2, hn2⟩ : ∃ n, n = xh.length := ⟨_, rfl⟩
        simp only [← hn1] at x1 hk1 ha2 hcl
        simp only [← hn2] at x6 hk2 ha2 hcl
        obtain ⟨w4, hw4⟩ : ∃ w4, w4 = wr.alloc (.cells #[.string xs, .slice A1 n1 c1, .int .i64 lo, .int .i64 hi', .bool xg, .string xt, .slice C1 n2 d1] 47) := ⟨_, rfl⟩
        have hcl4 := hcl
        rw [← hw4] at ha2 hcl4
        obtain ⟨z0, z1, z2, z3, z4, z5, z6⟩ := hcl4
        have hgx : ∀ v k, w4.cell? ⟨wr.heap.size, k, none⟩ = some v → ∀ W, Below w4.heap.size w4 W → W.cell? ⟨wr.heap.size, k, none⟩ = some v := fun v k h W hW => (hW.cell (p := ⟨wr.heap.size, k, none⟩) (World.block_lt_of_cell? w4 _ h)).trans h
        have HZ4 := Lib.hid (hgx _ _ z4)
        have HZ5 := Lib.hid (hgx _ _ z5)
        have HZ6 := Lib.hid (hgx _ _ z6)
        have hB4 := bt HBl.out ha2
        have HB4 := Lib.hid hB4
        have HK1 := Lib.hid (hk1 w4 (bt HB1.out hB4) (hA1.kept ha2))
        have HK2 := Lib.hid (fun W (h : Below w4.heap.size w4 W) => hk2 W (bt HB1.out (bt hB4 h)) (hC1.kept (bt ha2 h)))
        obtain ⟨r0, r1, r2, r3, r4, r5, r6⟩ := hcl
        have HYes := Lib.hid hyes
        have HNo := Lib.hid hno
        have HEj := Lib.hid hej
        have HSu := Lib.hid hsucc
        have HW4 := Lib.hid hw4
        clear hc hix hfz hA1 hC1 hej hyes hno hsucc hX2 ha2 hSx hE1 hE2 hk1 hk2 hn1 hn2 hw4 z0 z1 z2 z3 z4 z5 z6 hgx hB4 hx HE2
        go_wp2_with fail
        rw [← HW4.out]
        refine HK1.out.mono ?_
        rintro e w5 ⟨rfl, hb5⟩
        have HB5 := Lib.hid hb5
        have y4 := HZ4.out w5 hb5
        have y5 := HZ5.out w5 hb5
        have y6 := HZ6.out w5 hb5
        clear hb5 HK1 HW4 x0 x1 x2 x3 x4 x5 x6 r0 r1 r2 r3 r4 r5 r6 p0 hi
        by_cases hE1z : E1 = 0
        · subst hE1z
          cases xg
          · have HS0 := Lib.hid (HNo.out (fun h => by cases h.2))
            have HNx := Lib.hid (HSu.out HS0.out)
            go_wp2_with fail
            go_roundw
            case rel => exact ⟨j + 1, by go_num, by omega, HNx.out, bt HB4.out HB5.out⟩
            case measure => simp [intOf]; omega
          · have HS0 := Lib.hid (HYes.out rfl rfl)
            go_wp2_with fail
            refine (HK2.out w5 HB5.out).mono ?_
            rintro e w6 ⟨rfl, hb6⟩
            have HB6 := Lib.hid (bt HB4.out (bt HB5.out hb6))
            clear hb6 y4 y5 y6
            by_cases hE2z : E2 = 0
            · subst hE2z
              have HNx := Lib.hid (HSu.out HS0.out)
              go_wp2_with fail
              go_roundw
              case rel => exact ⟨j + 1, by go_num, by omega, HNx.out, HB6.out⟩
              case measure => simp [intOf]; omega
            · have g1 : (E2 != 0) = true := by simpa using hE2z
              have HR := Lib.hid (show R = E2 from by rw [HEj.out (by rw [HS0.out]; exact hE2z), HS0.out])
              clear hE2z
              go_wp2_with fail
              go_ret
              exact ⟨ret_v (x := .int .i64 E2) (by rw [HR.out]), bt HB1.out HB6.out⟩
        · have g1 : (E1 != 0) = true := by simpa using hE1z
          have g2 : (E1 == 0) = false := by simpa using hE1z
          have HS0 := Lib.hid (HNo.out (fun h => hE1z h.1))
          have HR := Lib.hid (show R = E1 from by rw [HEj.out (by rw [HS0.out]; exact hE1z), HS0.out])
          clear hE1z
          go_wp2_with fail
          go_ret
          exact ⟨ret_v (x := .int .i64 E1) (by rw [HR.out]), bt HB1.out (bt HB4.out HB5.out)⟩
      · obtain rfl : j = n := by omega
        have hrr := HAg2.out HAl.out
        obtain ⟨b1, q1, A1, c1, C1, d1, hix, hc, _⟩ := HT.out.at ki (by rw [← HN.out]; exact hkn)
        obtain ⟨⟨x0, _⟩, _⟩ := hc wr (bt HB1.out HBl.out)
        have hi := fun W => hix W j d hkn
        have hfn := HFind.out (q.p.getD ki t0).s wr (bt HB1.out HBl.out)
        have hag := HAg3.out
        obtain ⟨xs, hxs⟩ : ∃ s, s = (q.p.getD ki t0).s := ⟨_, rfl⟩
        rw [← hxs] at x0 hfn hag
        unfold Rg.Found at hfn
        obtain ⟨⟨s, is⟩, hF⟩ : ∃ F, F = RgM.find l xs := ⟨_, rfl⟩
        rw [← hF] at hfn hag
        simp only at hfn hag
        obtain ⟨fs, fv, ff⟩ := s
        simp only at hfn hag
        obtain ⟨nf, hnf⟩ : ∃ n, n = ff.length := ⟨_, rfl⟩
        rw [← hnf] at hfn hag
        have p1 := HP1.out wr HBl.out
        have p2 := HP2.out wr HBl.out
        have p3 := HP3.out wr HBl.out
        have p4 := HP4.out wr HBl.out
        have HFn := Lib.hid hfn
        have HAg := Lib.hid hag
        have HRr := Lib.hid hrr
        have HNf := Lib.hid hnf
        clear hrr hix hc hfn hag hxs hF hnf HAg2 HAg3 HE2
        go_wp2_with fail
        refine HFn.out.mono ?_
        rintro e w5 ⟨K, k5, rfl, hsl, hfz, hb5⟩
        have ha6 := (Below.refl w5.heap.size w5).alloc (Nat.le_refl _) (.cells #[.string fs, .int .i64 fv, .slice K nf k5] 40)
        obtain ⟨⟨y0, y1, y2⟩, _⟩ := bx_new_t w5 40 (.string fs) (.int .i64 fv) (.slice K nf k5)
        have HB6 := Lib.hid (bt HBl.out (bt hb5 ha6))
        have p2 := HP2.out _ HB6.out
        have p4 := HP4.out _ HB6.out
        have HSl := Lib.hid (hsl.kept ha6)
        clear hsl hb5 ha6 hfz p0 p1 p3 x0 hi
        by_cases hqa : q.a = 0
        · have g1 : (q.a != 0) = false := by rw [hqa]; rfl
          have HR := Lib.hid (show R = 0 from by rw [HRr.out, if_neg (fun h => (HAg.out.1 h).1 hqa)])
          clear hqa
          go_wp2_with fail
          go_ret
          exact ⟨ret_v (x := .int .i64 0) (by rw [HR.out]), bt HB1.out HB6.out⟩
        · have g1 : (q.a != 0) = true := by simpa using hqa
          by_cases hkf : kf < nf
          · have g2 : decide ((nf : Int) ≤ (kf : Int)) = false := by rw [decide_eq_false_iff_not]; omega
            have g2' : decide (nf ≤ kf) = false := by rw [decide_eq_false_iff_not]; omega
            obtain ⟨b6, q6, hix6, hc6, _⟩ := HSl.out.at kf (by rw [← HNf.out]; exact hkf)
            obtain ⟨_, t1⟩ := hc6 _ (Below.refl _ _)
            have hi6 := fun W => hix6 W nf k5 hkf
            have hag := HAg.out
            obtain ⟨fk, hfk⟩ : ∃ k, k = (ff.getD kf ScM.d0).k := ⟨_, rfl⟩
            rw [← hfk] at t1 hag
            have HAg2 := Lib.hid hag
            obtain ⟨z, gz⟩ : ∃ z, (fk != 0) = z := ⟨_, rfl⟩
            have HR := Lib.hid (show R = if z = true then 5 else 0 from by
              rw [HRr.out]
              by_cases hz : fk = 0
              · rw [if_neg (fun h => (HAg2.out.1 h).2 ⟨by omega, hz⟩), ← gz, hz]
                rfl
              · rw [if_pos (HAg2.out.2 ⟨hqa, fun h => hz h.2⟩), ← gz, if_pos (by simpa using hz)])
            clear hc6 hix6 hag hfk hqa HAg HAg2
            cases z
            · go_wp2_with fail
              go_ret
              exact ⟨ret_v (x := .int .i64 0) (by rw [HR.out]; rfl), bt HB1.out HB6.out⟩
            · go_wp2_with fail
              go_ret
              exact ⟨ret_v (x := .int .i64 5) (by rw [HR.out]; rfl), bt HB1.out HB6.out⟩
          · have g2 : decide ((nf : Int) ≤ (kf : Int)) = true := by rw [decide_eq_true_iff]; omega
            have g2' : decide (nf ≤ kf) = true := by rw [decide_eq_true_iff]; omega
            have HR := Lib.hid (show R = 5 from by rw [HRr.out, if_pos (HAg.out.2 ⟨hqa, fun h => hkf (by omega)⟩)])
            clear hqa
            go_wp2_with fail
            go_ret
            exact ⟨ret_v (x := .int .i64 5) (by rw [HR.out]), bt HB1.out HB6.out⟩
end Go.Proofs.YtbmdkibmfkmjoaaGreat.Qy

namespace Go.Proofs.YtbmdkibmfkmjoaaGreat.Ex
open Go.RowKit Go.Proofs.YtbmdkibmfkmjoaaGreat.BM Go.Proofs.YtbmdkibmfkmjoaaGreat.VaM Go.Proofs.YtbmdkibmfkmjoaaGreat.Va Go.Proofs.YtbmdkibmfkmjoaaGreat.ExM Go.Proofs.YtbmdkibmfkmjoaaGreat.EvM

theorem eqO_iff {a b : List O} (h : a.length = b.length) : a = b ↔ ∀ j, j < a.length → a.getD j o0 = b.getD j o0 := by
  constructor
  · intro e j _
    rw [e]
  · intro hall
    refine List.ext_getElem h (fun j h1 h2 => ?_)
    have := hall j h1
    rw [List.getD_eq_getElem?_getD, List.getD_eq_getElem?_getD, List.getElem?_eq_getElem h1, List.getElem?_eq_getElem h2] at this
    exact this

set_option maxRecDepth 100000 in
set_option maxHeartbeats 2000000 in
theorem refSame_any (a b : List O) (A : Option Addr) (c : Nat) (B : Option Addr) (d : Nat) (w : World) (h : SlO w A a c) (k : SlO w B b d) :
    Calls Tryz.prog 33 #[.slice A a.length c, .slice B b.length d] w fun e w' => e = .returned (.bool (decide (a = b))) ∧ Below w.heap.size w w' := by
  have hl := slO_len h
  have hm := slO_len k
  have hq := @eqO_iff a b
  have hne : a.length ≠ b.length → a ≠ b := fun h e => h (by rw [e])
  obtain ⟨n, hn⟩ : ∃ n, n = a.length := ⟨_, rfl⟩
  obtain ⟨r, hr⟩ : ∃ r, r = b.length := ⟨_, rfl⟩
  rw [← hn] at hl ⊢
  rw [← hr] at hm ⊢
  rw [← hn, ← hr] at hq hne
  have HN := Lib.hid hn
  have HR := Lib.hid hr
  have HS := Lib.hid h
  have HT := Lib.hid k
  have HQ := Lib.hid hq
  have HNe := Lib.hid hne
  clear hn hr h k hq hne
  by_cases g : n = r
  · subst g
    have HQ2 := Lib.hid (HQ.out rfl)
    have ee : ((n : Int) != n) = false := by simp
    clear HQ HNe
    go_enter Tryz.func33, Tryz.ntmps33
    go_wp2_with fail
    go_loopw [5] (fun i wr => ∃ j : Nat, i = .int .i64 j ∧ j ≤ n ∧ (∀ x, x < j → a.getD x o0 = b.getD x o0) ∧ Below w.heap.size w wr) (fun i _ => n - (intOf i).toNat)
    case atStart => exact ⟨0, rfl, Nat.zero_le _, fun x hx => absurd hx (Nat.not_lt_zero x), Below.refl _ _⟩
    case round =>
      obtain ⟨j, rfl, hj, hsame, hbel⟩ := hrel
      have HSm := Lib.hid hsame
      have HBl := Lib.hid hbel
      clear hsame hbel
      by_cases hjn : j < n
      · obtain ⟨b1, q1, hix1, hc1, _⟩ := HS.out.at j (by rw [← HN.out]; exact hjn)
        obtain ⟨b2, q2, hix2, hc2, _⟩ := HT.out.at j (by rw [← HR.out]; exact hjn)
        obtain ⟨f1, hf1⟩ : ∃ f, f = a.getD j o0 := ⟨_, rfl⟩
        obtain ⟨f2, hf2⟩ : ∃ f, f = b.getD j o0 := ⟨_, rfl⟩
        rw [← hf1] at hc1
        rw [← hf2] at hc2
        have hi1 := fun W => hix1 W n c hjn
        have hi2 := fun W => hix2 W n d hjn
        have HF1 := Lib.hid hf1
        have HF2 := Lib.hid hf2
        have hneq := fun W => neq_o f1 f2 W
        obtain ⟨s, hs⟩ : ∃ s, s = decide (f1 = f2) := ⟨_, rfl⟩
        simp only [← hs] at hneq
        unfold agO at hneq
        have HSs := Lib.hid hs
        obtain ⟨x0, x1, x2, x3, x4⟩ := hc1 wr HBl.out
        obtain ⟨y0, y1, y2, y3, y4⟩ := hc2 wr HBl.out
        clear hc1 hc2 hix1 hix2 hf1 hf2 hs
        obtain ⟨ac, aa, ak, an, az⟩ := f1
        obtain ⟨bc, ba, bk, bn, bz⟩ := f2
        simp only at x0 x1 x2 x3 x4 y0 y1 y2 y3 y4 hneq
        cases s with
        | true =>
          have HSu := Lib.hid (show ∀ x, x < j + 1 → a.getD x o0 = b.getD x o0 from fun x hx => by
            by_cases e : x = j
            · rw [e, ← HF1.out, ← HF2.out]
              exact of_decide_eq_true HSs.out.symm
            · exact HSm.out x (by omega))
          go_wp2_with fail
          go_quiet (fail)
          go_wp2_with fail
          go_roundw
          case rel => exact ⟨j + 1, by go_num, by omega, HSu.out, below_drewN HBl.out _⟩
          case measure => simp [intOf]; omega
        | false =>
          have HNo := Lib.hid (show ¬ a = b from fun h => by
            have h1 := HQ2.out.1 h j hjn
            rw [← HF1.out, ← HF2.out] at h1
            exact absurd h1 (of_decide_eq_false HSs.out.symm))
          go_wp2_with fail
          go_quiet (fail)
          go_wp2_with fail
          go_ret
          exact ⟨ret_v (x := .bool false) (by rw [decide_eq_false HNo.out]), below_drewN HBl.out _⟩
      · obtain rfl : j = n := by omega
        have HYes := Lib.hid (HQ2.out.2 HSm.out)
        go_wp2_with fail
        go_ret
        exact ⟨ret_v (x := .bool true) (by rw [decide_eq_true HYes.out]), HBl.out⟩
  · have g' : ((n : Int) != r) = true := by rw [bne_iff_ne]; omega
    have HNo := Lib.hid (HNe.out g)
    clear g
    go_enter Tryz.func33, Tryz.ntmps33
    go_wp2_with fail
    go_ret
    exact ⟨ret_v (x := .bool false) (by rw [decide_eq_false HNo.out]), Below.refl _ _⟩
end Go.Proofs.YtbmdkibmfkmjoaaGreat.Ex

namespace Go.Proofs.YtbmdkibmfkmjoaaGreat.Qy
open Go.RowKit Go.Proofs.YtbmdkibmfkmjoaaGreat.BM Go.Proofs.YtbmdkibmfkmjoaaGreat.LM Go.Proofs.YtbmdkibmfkmjoaaGreat.VaM Go.Proofs.YtbmdkibmfkmjoaaGreat.ExM Go.Proofs.YtbmdkibmfkmjoaaGreat.QyM
open Go.Proofs.YtbmdkibmfkmjoaaGreat.Ex (SlO slO_none slO_len)
open Go.Proofs.YtbmdkibmfkmjoaaGreat.Va (ret_v toList_beq)

/-- Two steps are the same, by their questions one by one. -/
theorem st_iff {x y : St} {p q z1 z2 z3 z4 z5 : Bool} (g1 : decide (x.f = y.f) = p) (g2 : decide (x.h = y.h) = q) (g3 : (x.s.toList != y.s.toList) = z1) (g4 : (x.lo != y.lo) = z2) (g5 : (x.hi != y.hi) = z3) (g6 : (x.g != y.g) = z4) (g7 : (x.t.toList != y.t.toList) = z5) :
    x = y ↔ p = true ∧ q = true ∧ z1 = false ∧ z2 = false ∧ z3 = false ∧ z4 = false ∧ z5 = false := by
  subst g1 g2 g3 g4 g5 g6 g7
  rw [St.ext_iff']
  have hs : ∀ s t : ByteArray, (s.toList != t.toList) = false ↔ s = t := fun s t => by
    rw [bne, toList_beq, Bool.not_eq_false', decide_eq_true_iff]
  simp only [hs, decide_eq_true_iff, bne_eq_false_iff_eq]
  constructor
  · rintro ⟨h1, h2, h3, h4, h5, h6, h7⟩
    exact ⟨h2, h7, h1, h3, h4, h5, h6⟩
  · rintro ⟨h2, h7, h1, h3, h4, h5, h6⟩
    exact ⟨h1, h2, h3, h4, h5, h6, h7⟩

theorem sameWays (p q z1 z2 z3 z4 z5 : Bool) :
    (p = false ∨ (p = true ∧ q = false) ∨ (p = true ∧ q = true ∧ z1 = true) ∨ (p = true ∧ q = true ∧ z1 = false ∧ z2 = true) ∨ (p = true ∧ q = true ∧ z1 = false ∧ z2 = false ∧ z3 = true) ∨ (p = true ∧ q = true ∧ z1 = false ∧ z2 = false ∧ z3 = false ∧ z4 = true) ∨ (p = true ∧ q = true ∧ z1 = false ∧ z2 = false ∧ z3 = false ∧ z4 = false ∧ z5 = true)) ∨
    (p = true ∧ q = true ∧ z1 = false ∧ z2 = false ∧ z3 = false ∧ z4 = false ∧ z5 = false) := by
  cases p <;> cases q <;> cases z1 <;> cases z2 <;> cases z3 <;> cases z4 <;> cases z5 <;> simp

theorem fiveWays (z0 z1 z2 z3 z4 : Bool) : (z0 = true ∨ (z0 = false ∧ z1 = true) ∨ (z0 = false ∧ z1 = false ∧ z2 = true) ∨ (z0 = false ∧ z1 = false ∧ z2 = false ∧ z3 = true) ∨ (z0 = false ∧ z1 = false ∧ z2 = false ∧ z3 = false ∧ z4 = true)) ∨ (z0 = false ∧ z1 = false ∧ z2 = false ∧ z3 = false ∧ z4 = false) := by
  cases z0 <;> cases z1 <;> cases z2 <;> cases z3 <;> cases z4 <;> simp

set_option maxRecDepth 100000 in
set_option maxHeartbeats 16000000 in
theorem refSame_any (a b : Q) (A : Option Addr) (c : Nat) (B : Option Addr) (d : Nat) (w : World) (hS : SlSt w A a.p c) (hT : SlSt w B b.p d) :
    Calls Tryz.prog 13 #[agQ a A c, agQ b B d] w fun e w' => e = .returned (.bool (decide (a = b))) ∧ Below w.heap.size w w' := by
  have hl := slSt_len hS
  have hm := slSt_len hT
  have hq := @steps_iff a.p b.p
  obtain ⟨R, hR⟩ : ∃ R, R = decide (a = b) := ⟨_, rfl⟩
  rw [← hR]
  have hr : R = true ↔ a.p = b.p ∧ a.w = b.w ∧ a.a = b.a ∧ a.i = b.i ∧ a.f = b.f := by rw [hR, decide_eq_true_iff, Q.ext_iff']
  have hX := bxQ_new w a A c
  have hb1 := (Below.refl w.heap.size w).alloc (Nat.le_refl _) (.cells #[.slice A a.p.length c, .int .i64 a.w, .int .i64 a.a, .int .i64 a.i, .int .i64 a.f] 25)
  obtain ⟨u1, hu1⟩ : ∃ u, u = w.alloc (.cells #[.slice A a.p.length c, .int .i64 a.w, .int .i64 a.a, .int .i64 a.i, .int .i64 a.f] 25) := ⟨_, rfl⟩
  have hs1 : u1.heap.size = w.heap.size + 1 := by rw [hu1]; simp
  rw [← hu1] at hX hb1
  have hY := bxQ_new u1 b B d
  rw [hs1] at hY
  have hb2 := (Below.refl u1.heap.size u1).alloc (Nat.le_refl _) (.cells #[.slice B b.p.length d, .int .i64 b.w, .int .i64 b.a, .int .i64 b.i, .int .i64 b.f] 25)
  have hX2 := (hX.kept hb2).cells
  have hY2 := hY.cells
  have hbb := bt hb1 hb2
  rw [hu1] at hX2 hY2 hbb
  clear hX hY hb1 hb2 hs1 hu1 u1
  unfold agQ
  obtain ⟨ap, aw, aa, ai, af⟩ := a
  obtain ⟨bp, bw, ba, bi, bf⟩ := b
  simp only at hS hT hl hm hq hr hX2 hY2 hbb ⊢
  obtain ⟨n, hn⟩ : ∃ n, n = ap.length := ⟨_, rfl⟩
  obtain ⟨r, hr'⟩ : ∃ r, r = bp.length := ⟨_, rfl⟩
  rw [← hn] at hl
  rw [← hr'] at hm
  rw [← hn, ← hr'] at hX2 hY2 hbb ⊢
  rw [← hn] at hq
  rw [← hr'] at hq
  have hlen : ap = bp → n = r := fun e => by rw [hn, hr', e]
  obtain ⟨z0, g0⟩ : ∃ z, ((n : Int) != (r : Int)) = z := ⟨_, rfl⟩
  obtain ⟨z1, g1⟩ : ∃ z, (aw != bw) = z := ⟨_, rfl⟩
  obtain ⟨z2, g2⟩ : ∃ z, (aa != ba) = z := ⟨_, rfl⟩
  obtain ⟨z3, g3⟩ : ∃ z, (ai != bi) = z := ⟨_, rfl⟩
  obtain ⟨z4, g4⟩ : ∃ z, (af != bf) = z := ⟨_, rfl⟩
  have g0' : (n != r) = z0 := by rw [← g0, Bool.eq_iff_iff, bne_iff_ne, bne_iff_ne]; omega
  have hr2 : R = true ↔ ap = bp ∧ z0 = false ∧ z1 = false ∧ z2 = false ∧ z3 = false ∧ z4 = false := by
    rw [hr, ← g0', ← g1, ← g2, ← g3, ← g4]
    simp only [bne_eq_false_iff_eq]
    exact ⟨fun h => ⟨h.1, hlen h.1, h.2.1, h.2.2.1, h.2.2.2.1, h.2.2.2.2⟩, fun h => ⟨h.1, h.2.2.1, h.2.2.2.1, h.2.2.2.2.1, h.2.2.2.2.2⟩⟩
  have HN := Lib.hid hn
  have HRr := Lib.hid hr'
  have HS := Lib.hid hS
  have HT := Lib.hid hT
  have HQ := Lib.hid hq
  have HR := Lib.hid hr2
  have HB := Lib.hid hbb
  have HG0 := Lib.hid g0'
  have HL := Lib.hid hlen
  obtain ⟨p0, p1, p2, p3, p4⟩ := hX2
  obtain ⟨q0', q1', q2', q3', q4'⟩ := hY2
  clear hn hr' hS hT hq hr2 hr hbb hR hlen
  rcases fiveWays z0 z1 z2 z3 z4 with hbad | ⟨rfl, rfl, rfl, rfl, rfl⟩
  · have HF := Lib.hid (show R = false from by
      cases R
      · rfl
      · obtain ⟨_, k0, k1, k2, k3, k4⟩ := HR.out.1 rfl
        subst k0 k1 k2 k3 k4
        simp at hbad)
    clear HR HG0
    rcases hbad with rfl | ⟨rfl, rfl⟩ | ⟨rfl, rfl, rfl⟩ | ⟨rfl, rfl, rfl, rfl⟩ | ⟨rfl, rfl, rfl, rfl, rfl⟩
    all_goals
      go_enter Tryz.func13, Tryz.ntmps13
      go_wp2_with fail
      go_ret
      exact ⟨ret_v (x := .bool false) (by rw [HF.out]), HB.out⟩
  · have hnr : n = r := by
      have := HG0.out
      rw [bne_eq_false_iff_eq] at this
      exact this
    subst hnr
    have HQ2 := Lib.hid (HQ.out rfl)
    have HTr := Lib.hid (fun h : ap = bp => HR.out.2 ⟨h, rfl, rfl, rfl, rfl, rfl⟩)
    have HFa := Lib.hid (fun h : ap ≠ bp => (by
      cases R
      · rfl
      · exact absurd (HR.out.1 rfl).1 h : R = false))
    clear HQ HR HG0 HL
    go_enter Tryz.func13, Tryz.ntmps13
    go_wp2_with fail
    obtain ⟨w1, hw1⟩ : ∃ w1, w1 = (w.alloc (.cells #[.slice A n c, .int .i64 aw, .int .i64 aa, .int .i64 ai, .int .i64 af] 25)).alloc (.cells #[.slice B n d, .int .i64 bw, .int .i64 ba, .int .i64 bi, .int .i64 bf] 25) := ⟨_, rfl⟩
    rw [← hw1] at p0 q0' HB ⊢
    have HP0 := Lib.hid (fun W (hW : Below w1.heap.size w1 W) => (hW.cell (p := ⟨w.heap.size, 0, none⟩) (World.block_lt_of_cell? w1 _ p0)).trans p0)
    have HQ0 := Lib.hid (fun W (hW : Below w1.heap.size w1 W) => (hW.cell (p := ⟨w.heap.size + 1, 0, none⟩) (World.block_lt_of_cell? w1 _ q0')).trans q0')
    clear hw1 p0 p1 p2 p3 p4 q0' q1' q2' q3' q4'
    go_loopw [5] (fun i wr => ∃ j : Nat, i = .int .i64 j ∧ j ≤ n ∧ (∀ i, i < j → ap.getD i t0 = bp.getD i t0) ∧ Below w1.heap.size w1 wr) (fun i _ => n - (intOf i).toNat)
    case atStart => exact ⟨0, rfl, Nat.zero_le _, (fun i hi => absurd hi (Nat.not_lt_zero i)), Below.refl _ _⟩
    case round =>
      obtain ⟨j, rfl, hj, hall, hbel⟩ := hrel
      have HAl := Lib.hid hall
      have HBl := Lib.hid hbel
      have p0 := HP0.out wr hbel
      have q0' := HQ0.out wr hbel
      clear hall hbel
      by_cases hjn : j < n
      · obtain ⟨b1, q1, A1, c1, C1, d1, hix1, hc1, _⟩ := HS.out.at j (by rw [← HN.out]; exact hjn)
        obtain ⟨b2, q2, A2, c2, C2, d2, hix2, hc2, _⟩ := HT.out.at j (by rw [← HRr.out]; exact hjn)
        obtain ⟨hcell1, hA1, hC1⟩ := hc1 wr (bt HB.out HBl.out)
        obtain ⟨hcell2, hA2, hC2⟩ := hc2 wr (bt HB.out HBl.out)
        have hi1 := fun W => hix1 W n c hjn
        have hi2 := fun W => hix2 W n d hjn
        obtain ⟨x, hx⟩ : ∃ x, x = ap.getD j t0 := ⟨_, rfl⟩
        obtain ⟨y, hy⟩ : ∃ y, y = bp.getD j t0 := ⟨_, rfl⟩
        rw [← hx] at hcell1 hA1 hC1
        rw [← hy] at hcell2 hA2 hC2
        have hsucc : x = y → ∀ i, i < j + 1 → ap.getD i t0 = bp.getD i t0 := fun h i hi => by
          by_cases e : i = j
          · rw [e, ← hx, ← hy]
            exact h
          · exact HAl.out i (by omega)
        have hfail : x ≠ y → ap ≠ bp := fun h e => h (by rw [hx, hy, e])
        obtain ⟨zp, e1⟩ : ∃ z, decide (x.f = y.f) = z := ⟨_, rfl⟩
        obtain ⟨zq, e2⟩ : ∃ z, decide (x.h = y.h) = z := ⟨_, rfl⟩
        obtain ⟨z1, e3⟩ : ∃ z, (x.s.toList != y.s.toList) = z := ⟨_, rfl⟩
        obtain ⟨z2, e4⟩ : ∃ z, (x.lo != y.lo) = z := ⟨_, rfl⟩
        obtain ⟨z3, e5⟩ : ∃ z, (x.hi != y.hi) = z := ⟨_, rfl⟩
        obtain ⟨z4, e6⟩ : ∃ z, (x.g != y.g) = z := ⟨_, rfl⟩
        obtain ⟨z5, e7⟩ : ∃ z, (x.t.toList != y.t.toList) = z := ⟨_, rfl⟩
        have hiff := st_iff e1 e2 e3 e4 e5 e6 e7
        have e3' : (x.s.toList == y.s.toList) = !z1 := by rw [← e3, bne, Bool.not_not]
        have e7' : (x.t.toList == y.t.toList) = !z5 := by rw [← e7, bne, Bool.not_not]
        have hm1 := fun W (h : Below wr.heap.size wr W) => Ex.refSame_any x.f y.f A1 c1 A2 c2 W (hA1.kept h) (hA2.kept h)
        have hm2 := fun W (h : Below wr.heap.size wr W) => Ex.refSame_any x.h y.h C1 d1 C2 d2 W (hC1.kept h) (hC2.kept h)
        simp only [e1] at hm1
        simp only [e2] at hm2
        have hX := bxSt_new wr x A1 c1 C1 d1
        have hb1 := (Below.refl wr.heap.size wr).alloc (Nat.le_refl _) (.cells #[.string x.s, .slice A1 x.f.length c1, .int .i64 x.lo, .int .i64 x.hi, .bool x.g, .string x.t, .slice C1 x.h.length d1] 47)
        obtain ⟨u1, hu1⟩ : ∃ u, u = wr.alloc (.cells #[.string x.s, .slice A1 x.f.length c1, .int .i64 x.lo, .int .i64 x.hi, .bool x.g, .string x.t, .slice C1 x.h.length d1] 47) := ⟨_, rfl⟩
        have hs1 : u1.heap.size = wr.heap.size + 1 := by rw [hu1]; simp
        rw [← hu1] at hX hb1
        have hY := bxSt_new u1 y A2 c2 C2 d2
        rw [hs1] at hY
        have hb2 := (Below.refl u1.heap.size u1).alloc (Nat.le_refl _) (.cells #[.string y.s, .slice A2 y.f.length c2, .int .i64 y.lo, .int .i64 y.hi, .bool y.g, .string y.t, .slice C2 y.h.length d2] 47)
        have hX2 := hX.kept hb2
        have hbb := bt hb1 hb2
        have q0u := HQ0.out u1 (bt HBl.out hb1)
        have hcell2' := (hc2 u1 (bt HB.out (bt HBl.out hb1))).1
        rw [← hy] at hcell2'
        rw [hu1] at hX2 hY hbb q0u hcell2'
        have HBb := Lib.hid hbb
        have HXk := Lib.hid (fun W h => (BxSt.kept hX2 (w' := W) h).cells)
        have HYk := Lib.hid (fun W h => (BxSt.kept hY (w' := W) h).cells)
        have hXc := hX2.cells
        have hYc := hY.cells
        unfold CellSt at hcell1 hcell2' hXc hYc HXk HYk
        obtain ⟨xs, xf, xlo, xhi, xg, xt, xh⟩ := x
        obtain ⟨ys, yf, ylo, yhi, yg, yt, yh⟩ := y
        simp only at hcell1 hcell2' hXc hYc HXk HYk HBb hm1 hm2 e3 e4 e5 e6 e7 e3' e7' q0u
        obtain ⟨n1, hn1⟩ : ∃ n, n = xf.length := ⟨_, rfl⟩
        obtain ⟨n2, hn2⟩ : ∃ n, n = yf.length := ⟨_, rfl⟩
        obtain ⟨n3, hn3⟩ : ∃ n, n = xh.length := ⟨_, rfl⟩
        obtain ⟨n4, hn4⟩ : ∃ n, n = yh.length := ⟨_, rfl⟩
        simp only [← hn1, ← hn2, ← hn3, ← hn4] at hcell1 hcell2' hXc hYc HXk HYk HBb hm1 hm2 q0u
        obtain ⟨x0, x1, x2, x3, x4, x5, x6⟩ := hcell1
        obtain ⟨y0, y1, y2, y3, y4, y5, y6⟩ := hcell2'
        obtain ⟨r0, r1, r2, r3, r4, r5, r6⟩ := hXc
        obtain ⟨s0, s1, s2, s3, s4, s5, s6⟩ := hYc
        have HM1 := Lib.hid hm1
        have HM2 := Lib.hid hm2
        have HIff := Lib.hid hiff
        have HSu := Lib.hid hsucc
        have HFl := Lib.hid hfail
        clear hc1 hc2 hix1 hix2 hcell2 hA1 hA2 hC1 hC2 hm1 hm2 hiff hsucc hfail hX hY hX2 hb1 hb2 hbb hs1 hu1 u1 hx hy hn1 hn2 hn3 hn4 e1 e2
        go_wp2_with fail
        obtain ⟨w4, hw4⟩ : ∃ w4, w4 = (wr.alloc (.cells #[.string xs, .slice A1 n1 c1, .int .i64 xlo, .int .i64 xhi, .bool xg, .string xt, .slice C1 n3 d1] 47)).alloc (.cells #[.string ys, .slice A2 n2 c2, .int .i64 ylo, .int .i64 yhi, .bool yg, .string yt, .slice C2 n4 d2] 47) := ⟨_, rfl⟩
        rw [← hw4] at HBb HXk HYk ⊢
        clear hw4 r0 r1 r2 r3 r4 r5 r6 s0 s1 s2 s3 s4 s5 s6 x0 x1 x2 x3 x4 x5 x6 y0 y1 y2 y3 y4 y5 y6 p0 q0' q0u hi1 hi2
        refine (HM1.out w4 HBb.out).mono ?_
        rintro e w5 ⟨rfl, hb5⟩
        have HB5 := Lib.hid hb5
        obtain ⟨r0, r1, r2, r3, r4, r5, r6⟩ := HXk.out w5 hb5
        obtain ⟨s0, s1, s2, s3, s4, s5, s6⟩ := HYk.out w5 hb5
        clear hb5 HM1
        go_wp2_with fail
        refine (HM2.out w5 (bt HBb.out HB5.out)).mono ?_
        rintro e w6 ⟨rfl, hb6⟩
        have HB6 := Lib.hid (bt HB5.out hb6)
        clear hb6 HM2 r0 r1 r2 r3 r4 r5 r6 s0 s1 s2 s3 s4 s5 s6
        obtain ⟨r0, r1, r2, r3, r4, r5, r6⟩ := HXk.out w6 HB6.out
        obtain ⟨s0, s1, s2, s3, s4, s5, s6⟩ := HYk.out w6 HB6.out
        rcases sameWays zp zq z1 z2 z3 z4 z5 with hbad | ⟨rfl, rfl, rfl, rfl, rfl, rfl, rfl⟩
        · have HRf := Lib.hid (HFa.out (HFl.out (fun e => by
            obtain ⟨k1, k2, k3, k4, k5, k6, k7⟩ := HIff.out.1 e
            subst k1 k2 k3 k4 k5 k6 k7
            simp at hbad)))
          clear HIff HSu HFl
          rcases hbad with rfl | ⟨rfl, rfl⟩ | ⟨rfl, rfl, rfl⟩ | ⟨rfl, rfl, rfl, rfl⟩ | ⟨rfl, rfl, rfl, rfl, rfl⟩ | ⟨rfl, rfl, rfl, rfl, rfl, rfl⟩ | ⟨rfl, rfl, rfl, rfl, rfl, rfl, rfl⟩
          all_goals
            try (cases xg <;> cases yg <;> first | exact absurd e6 (by decide) | skip)
          all_goals
            go_wp2_with fail
            go_ret
            exact ⟨ret_v (x := .bool false) (by rw [HRf.out]), bt HB.out (bt HBl.out (bt HBb.out HB6.out))⟩
        · have HSc := Lib.hid (HSu.out (HIff.out.2 ⟨rfl, rfl, rfl, rfl, rfl, rfl, rfl⟩))
          clear HIff HSu HFl
          cases xg <;> cases yg <;> first | exact absurd e6 (by decide) | skip
          all_goals
            go_wp2_with fail
            go_roundw
            case rel => exact ⟨j + 1, by go_num, by omega, HSc.out, bt HBl.out (bt HBb.out HB6.out)⟩
            case measure => simp [intOf]; omega
      · obtain rfl : j = n := by omega
        have HRt := Lib.hid (HTr.out (HQ2.out.2 HAl.out))
        go_wp2_with fail
        go_ret
        exact ⟨ret_v (x := .bool true) (by rw [HRt.out]), bt HB.out HBl.out⟩
end Go.Proofs.YtbmdkibmfkmjoaaGreat.Qy

namespace Go.Proofs.YtbmdkibmfkmjoaaGreat.Sc
open Go.RowKit Go.Proofs.YtbmdkibmfkmjoaaGreat.BM Go.Proofs.YtbmdkibmfkmjoaaGreat.LeM Go.Proofs.YtbmdkibmfkmjoaaGreat.VaM Go.Proofs.YtbmdkibmfkmjoaaGreat.Va Go.Proofs.YtbmdkibmfkmjoaaGreat.ScM

/-- A schema of few fields. -/
def Few (s : Sc) : Prop := s.s.size ≤ 60 ∧ s.f.length ≤ 10 ∧ ∀ i, i < s.f.length → (s.f.getD i d0).s.size ≤ 60
instance (s : Sc) : Decidable (Few s) := by unfold Few; infer_instance

set_option maxRecDepth 100000 in
set_option maxHeartbeats 1000000 in
theorem Few_any (s : Sc) (A : Option Addr) (c : Nat) (w : World) (hS : SlF w A s.f c) (hz : s.s.size ≤ maxLen) :
    Calls Tryz.prog 17 #[.agg #[.string s.s, .int .i64 s.v, .slice A s.f.length c]] w fun e w' => e = .returned (.bool (decide (Few s))) ∧ Below w.heap.size w w' := by
  obtain ⟨nm, v, l⟩ := s
  simp only at hS hz ⊢
  unfold maxLen at hz
  have hl := slF_len hS
  have hfew : Few ⟨nm, v, l⟩ ↔ nm.size ≤ 60 ∧ l.length ≤ 10 ∧ ∀ i, i < l.length → (l.getD i d0).s.size ≤ 60 := Iff.rfl
  obtain ⟨n, hn⟩ : ∃ n, n = l.length := ⟨_, rfl⟩
  rw [← hn] at hl hfew ⊢
  have HLen := Lib.hid hn
  have HS := Lib.hid hS
  have HFew := Lib.hid hfew
  have HX0 := Lib.hid (bx_new_t w 40 (.string nm) (.int .i64 v) (.slice A n c))
  have HB0 := Lib.hid ((Below.refl w.heap.size w).alloc (Nat.le_refl _) (.cells #[.string nm, .int .i64 v, .slice A n c] 40))
  clear hn hS hfew
  obtain ⟨⟨p0, p1, p2⟩, _⟩ := HX0.out
  by_cases m1 : nm.size ≤ 60
  · have hd1 : decide ((60 : Int) < (nm.size : Int)) = false := by rw [decide_eq_false_iff_not]; omega
    by_cases m2 : n ≤ 10
    · have hd2 : decide ((10 : Int) < (n : Int)) = false := by rw [decide_eq_false_iff_not]; omega
      have HF := Lib.hid (show Few ⟨nm, v, l⟩ ↔ ∀ i, i < n → (l.getD i d0).s.size ≤ 60 from ⟨fun h => (HFew.out.1 h).2.2, fun h => HFew.out.2 ⟨m1, m2, h⟩⟩)
      clear m1 HFew
      go_enter Tryz.func17, Tryz.ntmps17
      go_wp2_with fail
      obtain ⟨w1, hw1⟩ : ∃ w1, w1 = w.alloc (.cells #[.string nm, .int .i64 v, .slice A n c] 40) := ⟨_, rfl⟩
      rw [← hw1] at HX0 HB0 ⊢
      clear hw1 p0 p1 p2
      go_loopw [3] (fun i wr => ∃ j : Nat, i = .int .i64 j ∧ j ≤ n ∧ (∀ r, r < j → (l.getD r d0).s.size ≤ 60) ∧ wr = w1) (fun i _ => n - (intOf i).toNat)
      case atStart => exact ⟨0, rfl, Nat.zero_le _, fun r hr => absurd hr (Nat.not_lt_zero r), rfl⟩
      case round =>
        obtain ⟨j, rfl, hj, hall, rfl⟩ := hrel
        have HAl := Lib.hid hall
        obtain ⟨⟨_, _, p2⟩, _⟩ := HX0.out
        clear hall
        by_cases hjn : j < n
        · obtain ⟨b, q, hix, hc, hsz⟩ := HS.out.at j (by rw [← HLen.out]; exact hjn)
          obtain ⟨⟨fs, fk⟩, hf⟩ : ∃ f, f = l.getD j d0 := ⟨_, rfl⟩
          rw [← hf] at hc hsz
          obtain ⟨c0, _⟩ := hc wr HB0.out
          simp only at c0 hsz
          unfold maxLen at hsz
          have hi := fun W => hix W n c hjn
          have HFl := Lib.hid hf
          clear hc hix hf
          by_cases h60 : fs.size ≤ 60
          · have hd3 : decide ((60 : Int) < (fs.size : Int)) = false := by rw [decide_eq_false_iff_not]; omega
            have HY := Lib.hid h60
            clear h60
            go_wp2_with fail
            go_roundw
            case rel =>
              refine ⟨j + 1, by go_num, by omega, fun r hr => ?_, by trivial⟩
              by_cases e : r = j
              · rw [e, ← HFl.out]
                exact HY.out
              · exact HAl.out r (by omega)
            case measure => simp [intOf]; omega
          · have hd3 : decide ((60 : Int) < (fs.size : Int)) = true := by rw [decide_eq_true_iff]; omega
            have HNo := Lib.hid (show ¬ Few ⟨nm, v, l⟩ from fun h => h60 (by have := HF.out.1 h j hjn; rw [← HFl.out] at this; exact this))
            clear h60
            go_wp2_with fail
            go_ret
            exact ⟨ret_v (x := .bool false) (by rw [decide_eq_false HNo.out]), HB0.out⟩
        · obtain rfl : j = n := by omega
          have HYes := Lib.hid (HF.out.2 HAl.out)
          go_wp2_with fail
          go_ret
          exact ⟨ret_v (x := .bool true) (by rw [decide_eq_true HYes.out]), HB0.out⟩
    · have hd2 : decide ((10 : Int) < (n : Int)) = true := by rw [decide_eq_true_iff]; omega
      have HNo := Lib.hid (show ¬ Few ⟨nm, v, l⟩ from fun h => m2 (HFew.out.1 h).2.1)
      clear m2 m1
      go_enter Tryz.func17, Tryz.ntmps17
      go_wp2_with fail
      go_ret
      exact ⟨ret_v (x := .bool false) (by rw [decide_eq_false HNo.out]), HB0.out⟩
  · have hd1 : decide ((60 : Int) < (nm.size : Int)) = true := by rw [decide_eq_true_iff]; omega
    have HNo := Lib.hid (show ¬ Few ⟨nm, v, l⟩ from fun h => m1 (HFew.out.1 h).1)
    clear m1
    go_enter Tryz.func17, Tryz.ntmps17
    go_wp2_with fail
    go_ret
    exact ⟨ret_v (x := .bool false) (by rw [decide_eq_false HNo.out]), HB0.out⟩
end Go.Proofs.YtbmdkibmfkmjoaaGreat.Sc

namespace Go.Proofs.YtbmdkibmfkmjoaaGreat.Rg
open Go.RowKit Go.Proofs.YtbmdkibmfkmjoaaGreat.BM Go.Proofs.YtbmdkibmfkmjoaaGreat.LeM Go.Proofs.YtbmdkibmfkmjoaaGreat.VaM Go.Proofs.YtbmdkibmfkmjoaaGreat.Va Go.Proofs.YtbmdkibmfkmjoaaGreat.Sc Go.Proofs.YtbmdkibmfkmjoaaGreat.RgM
open Go.Proofs.YtbmdkibmfkmjoaaGreat.ScM (Sc)

/-- Few schemas, of few fields. -/
def Few (l : List Sc) : Prop := l.length ≤ 12 ∧ ∀ i, i < l.length → Sc.Few (l.getD i s0)
instance (l : List Sc) : Decidable (Few l) := by unfold Few; infer_instance

set_option maxRecDepth 100000 in
set_option maxHeartbeats 1000000 in
theorem Few_any (l : List Sc) (A : Option Addr) (c : Nat) (w : World) (hS : SlS w A l c) :
    Calls Tryz.prog 8 #[.slice A l.length c] w fun e w' => e = .returned (.bool (decide (Few l))) ∧ Below w.heap.size w w' := by
  have hl := slS_len hS
  have hfew : Few l ↔ l.length ≤ 12 ∧ ∀ i, i < l.length → Sc.Few (l.getD i s0) := Iff.rfl
  obtain ⟨n, hn⟩ : ∃ n, n = l.length := ⟨_, rfl⟩
  rw [← hn] at hl hfew ⊢
  have HLen := Lib.hid hn
  have HS := Lib.hid hS
  have HFew := Lib.hid hfew
  clear hn hS hfew
  by_cases m1 : n ≤ 12
  · have hd1 : decide ((12 : Int) < (n : Int)) = false := by rw [decide_eq_false_iff_not]; omega
    have HF := Lib.hid (show Few l ↔ ∀ i, i < n → Sc.Few (l.getD i s0) from ⟨fun h => (HFew.out.1 h).2, fun h => HFew.out.2 ⟨m1, h⟩⟩)
    clear m1 HFew
    go_enter Tryz.func8, Tryz.ntmps8
    go_wp2_with fail
    go_loopw [3] (fun i wr => ∃ j : Nat, i = .int .i64 j ∧ j ≤ n ∧ (∀ r, r < j → Sc.Few (l.getD r s0)) ∧ Below w.heap.size w wr) (fun i _ => n - (intOf i).toNat)
    case atStart => exact ⟨0, rfl, Nat.zero_le _, fun r hr => absurd hr (Nat.not_lt_zero r), Below.refl _ _⟩
    case round =>
      obtain ⟨j, rfl, hj, hall, hbel⟩ := hrel
      have HAl := Lib.hid hall
      have HBl := Lib.hid hbel
      clear hall hbel
      by_cases hjn : j < n
      · obtain ⟨b, q, A1, c1, hix, hc, hfine⟩ := HS.out.at j (by rw [← HLen.out]; exact hjn)
        obtain ⟨f, hf⟩ : ∃ f, f = l.getD j s0 := ⟨_, rfl⟩
        rw [← hf] at hc hfine
        obtain ⟨⟨x0, x1, x2⟩, y0⟩ := hc wr HBl.out
        have HF5 := Lib.hid (Sc.Few_any f A1 c1 wr y0 hfine.1)
        have hi := fun W => hix W n c hjn
        have HFl := Lib.hid hf
        clear hc hix hf hfine y0
        obtain ⟨fs, fv, ff⟩ := f
        simp only at x0 x1 x2 HF5
        obtain ⟨k, hk⟩ : ∃ k, k = ff.length := ⟨_, rfl⟩
        rw [← hk] at x2 HF5
        clear hk
        go_wp2_with fail
        refine HF5.out.mono ?_
        rintro e w2 ⟨rfl, hb2⟩
        have HB2 := Lib.hid (bt HBl.out hb2)
        clear hb2 x0 x1 x2 hi
        by_cases hok : Sc.Few ⟨fs, fv, ff⟩
        · rw [decide_eq_true hok]
          have HOk := Lib.hid hok
          clear hok
          go_wp2_with fail
          go_roundw
          case rel =>
            refine ⟨j + 1, by go_num, by omega, fun r hr => ?_, HB2.out⟩
            by_cases e : r = j
            · rw [e, ← HFl.out]
              exact HOk.out
            · exact HAl.out r (by omega)
          case measure => simp [intOf]; omega
        · rw [decide_eq_false hok]
          have HNo := Lib.hid (show ¬ Few l from fun h => hok (by have := HF.out.1 h j hjn; rw [← HFl.out] at this; exact this))
          clear hok
          go_wp2_with fail
          go_ret
          exact ⟨ret_v (x := .bool false) (by rw [decide_eq_false HNo.out]), HB2.out⟩
      · obtain rfl : j = n := by omega
        have HYes := Lib.hid (HF.out.2 HAl.out)
        go_wp2_with fail
        go_ret
        exact ⟨ret_v (x := .bool true) (by rw [decide_eq_true HYes.out]), HBl.out⟩
  · have hd1 : decide ((12 : Int) < (n : Int)) = true := by rw [decide_eq_true_iff]; omega
    have HNo := Lib.hid (show ¬ Few l from fun h => m1 (HFew.out.1 h).1)
    clear m1
    go_enter Tryz.func8, Tryz.ntmps8
    go_wp2_with fail
    go_ret
    exact ⟨ret_v (x := .bool false) (by rw [decide_eq_false HNo.out]), Below.refl _ _⟩
end Go.Proofs.YtbmdkibmfkmjoaaGreat.Rg

namespace Go.Proofs.YtbmdkibmfkmjoaaGreat.Op
open Go.RowKit Go.ChangeShapes Go.WideShapes Go.Proofs.YtbmdkibmfkmjoaaGreat.Sc Go.Proofs.YtbmdkibmfkmjoaaGreat.ScM Go.Proofs.YtbmdkibmfkmjoaaGreat.VaM

/-- A schema that came in: its fields lie where its slice says. -/
def ArgS (W : World) (s : ByteArray) (v : Int) (a : Option Addr) (len cap : Nat) : Prop := ∃ l : List F, l.length = len ∧ SlF W a l cap ∧ Fine ⟨s, v, l⟩

set_option maxRecDepth 100000 in
theorem two {H : Type} {enc : TypeId × Value → H} {P : Program} {w : World} {base : Nat} {spare : Nat → Bool} {held : Bool} {t : TypeId} {g0 g1 : Field} {fuel : Nat} {u0 u1 : Value} {x : DataW H × List MemPlace}
    (ht : P.underlying t = some (.struct #[g0, g1])) (h : DataW.trod enc P w base spare held fuel t [u0, u1] = some x) :
    ∃ y0 y1 n, DataW.trod enc P w base spare held n g0.type (([u0, u1].drop g0.offset).take (P.cellsOf g0.type)) = some y0 ∧ DataW.trod enc P w base spare held n g1.type (([u0, u1].drop g1.offset).take (P.cellsOf g1.type)) = some y1 := by
  obtain ⟨ys, n, _, _, _, hn, hat⟩ := DataW.trod_struct ht h
  obtain ⟨a, b, rfl⟩ : ∃ a b, ys = [a, b] := by
    match ys, hn with
    | [a, b], _ => exact ⟨a, b, rfl⟩
  exact ⟨a, b, n, by simpa using hat 0 g0 rfl, by simpa using hat 1 g1 rfl⟩

set_option maxRecDepth 100000 in
theorem open_fields {H : Type} {enc : TypeId × Value → H} {W : World} {fuel : Nat} {v2 : Value} {y2 : DataW H × List MemPlace} (h2 : DataW.trod enc Tryz.prog W 0 (fun _ => true) true fuel 38 [v2] = some y2) :
    ∃ a len cap, v2 = .slice a len cap ∧ ∃ l : List F, l.length = len ∧ SlF W a l cap := by
  rcases Deep.open_slice Tryz.underlying38 h2 with ⟨hcs, _⟩ | ⟨x, l, c, m, k, D, Pl, hcs, _, hl, hm, hmm, _, hr⟩
  · simp only [List.cons.injEq, and_true] at hcs
    subst hcs
    exact ⟨none, 0, 0, rfl, [], rfl, slF_none W⟩
  · simp only [List.cons.injEq, and_true] at hcs
    subst hcs
    simp only [if_true] at hmm
    rw [hmm] at hr
    have each : ∀ i, i < l → ∃ f : F, f.s.size ≤ maxLen ∧ W.cell? (x.add (i * 2)) = some (.string f.s) ∧ W.cell? (x.add (i * 2 + 1)) = some (.int .i64 f.k) := by
      intro i hi
      obtain ⟨cs', hc, ht⟩ := hr i (by omega)
      rw [show Tryz.prog.cellsOf 72 = 2 from by kernel_rfl] at hc
      obtain ⟨_, hlen, hcell⟩ := World.cells?_some hc
      match cs', hlen with
      | [v0, v1], _ =>
        obtain ⟨y0, y1, k, t0, t1⟩ := two Tryz.underlying72 ht
        have c1 : Tryz.prog.cellsOf 3 = 1 := by kernel_rfl
        have c2 : Tryz.prog.cellsOf 9 = 1 := by kernel_rfl
        simp only [c1, c2] at t0 t1
        obtain ⟨f0, e0', _, w0⟩ := DataW.trod_string Tryz.underlying9 t0
        obtain ⟨f1, e1', _, _⟩ := DataW.trod_int Tryz.underlying3 t1
        simp only [List.drop_zero, List.drop_succ_cons, List.take_succ_cons, List.take_zero, List.cons.injEq, and_true] at e0' e1'
        subst e0' e1'
        have g0 := hcell 0 (by decide)
        have g1 := hcell 1 (by decide)
        refine ⟨⟨f0, f1⟩, w0, ?_, ?_⟩
        · rw [Deep.add_add, Nat.add_zero] at g0
          exact g0
        · rw [Deep.add_add] at g1
          exact g1
    let g : Nat → F := fun i => if h : i < l then Classical.choose (each i h) else d0
    have hg : ∀ i, i < l → (g i).s.size ≤ maxLen ∧ W.cell? (x.add (i * 2)) = some (.string (g i).s) ∧ W.cell? (x.add (i * 2 + 1)) = some (.int .i64 (g i).k) := by
      intro i hi
      have e : g i = Classical.choose (each i hi) := dif_pos hi
      rw [e]
      exact Classical.choose_spec (each i hi)
    have hgl : ((List.range l).map g).length = l := by simp
    have hgd : ∀ i, i < l → ((List.range l).map g).getD i d0 = g i := fun i hi => by simp [List.getD_eq_getElem?_getD, hi]
    refine ⟨some x, l, c, rfl, (List.range l).map g, hgl, fun h0 => ?_, by rw [hgl]; exact hl, (fun e => by cases e), hm, fun f hf => ?_⟩
    · rw [hgl] at h0
      obtain ⟨b, o, sp⟩ := x
      have hsp : sp = none := by simpa [Addr.add] using World.cell?_spot (hg 0 h0).2.1
      subst hsp
      refine ⟨b, o, rfl, fun i hi => ?_⟩
      rw [hgl] at hi
      rw [hgd i hi]
      obtain ⟨_, g1, g2⟩ := hg i hi
      rw [Addr.add_lit] at g1 g2
      exact ⟨g1, g2⟩
    · obtain ⟨i, hi, rfl⟩ := List.mem_map.1 hf
      exact (hg i (List.mem_range.1 hi)).1

set_option maxRecDepth 100000 in
theorem open_schema {H : Type} {enc : TypeId × Value → H} {W : World} {r : Reach} {b0 : Nat} {v : Value} {d : DataW H} {p : List MemPlace} (hv : Value.okWide Tryz.prog W r b0 40 v)
    (h : DataW.Trod enc Tryz.prog W 0 (fun _ => true) true 40 v d p) : ∃ s n a len cap, v = .agg #[.string s, .int .i64 n, .slice a len cap] ∧ ArgS W s n a len cap := by
  obtain ⟨v0, v1, v2, y0, y1, y2, fuel, rfl, _, _, h0, h1, h2⟩ := Joins.open_agg3 Tryz.underlying40 (by kernel_rfl) (by kernel_rfl) hv h
  obtain ⟨s, hs, _, ws⟩ := DataW.trod_string Tryz.underlying9 h0
  obtain ⟨n, hn, _, wn⟩ := DataW.trod_int Tryz.underlying3 h1
  simp only [List.cons.injEq, and_true] at hs hn
  subst hs hn
  have hb := bounds_i64 wn
  obtain ⟨a, len, cap, rfl, l, hl, hf⟩ := open_fields h2
  exact ⟨s, n, a, len, cap, rfl, l, hl, hf, ws, by simp only; omega, by simp only; omega⟩

set_option maxRecDepth 100000 in
theorem open_field {H : Type} {enc : TypeId × Value → H} {W : World} {r : Reach} {b0 : Nat} {v : Value} {d : DataW H} {p : List MemPlace} (hv : Value.okWide Tryz.prog W r b0 72 v)
    (h : DataW.Trod enc Tryz.prog W 0 (fun _ => true) true 72 v d p) : ∃ s n, v = .agg #[.string s, .int .i64 n] ∧ s.size ≤ maxLen := by
  obtain ⟨v0, v1, y0, y1, fuel, rfl, _, _, h0, h1⟩ := Joins.open_agg2 Tryz.underlying72 (by kernel_rfl) (by kernel_rfl) hv h
  obtain ⟨s, hs, _, ws⟩ := DataW.trod_string Tryz.underlying9 h0
  obtain ⟨n, hn, _, _⟩ := DataW.trod_int Tryz.underlying3 h1
  simp only [List.cons.injEq, and_true] at hs hn
  subst hs hn
  exact ⟨s, n, rfl, ws⟩
end Go.Proofs.YtbmdkibmfkmjoaaGreat.Op

namespace Go.Proofs.YtbmdkibmfkmjoaaGreat.Op
open Go.RowKit Go.ChangeShapes Go.WideShapes Go.Proofs.YtbmdkibmfkmjoaaGreat.Sc Go.Proofs.YtbmdkibmfkmjoaaGreat.ScM Go.Proofs.YtbmdkibmfkmjoaaGreat.VaM Go.Proofs.YtbmdkibmfkmjoaaGreat.RgM

/-- Schemas that came in lie where their slice says. -/
def ArgL (W : World) (a : Option Addr) (len cap : Nat) : Prop := ∃ l : List Sc, l.length = len ∧ SlS W a l cap

/-- A schema, and where its fields lie. -/
def encS (x : Sc × Option Addr × Nat) : List Value := [.string x.1.s, .int .i64 x.1.v, .slice x.2.1 x.1.f.length x.2.2]

theorem elems_s {W : World} : ∀ L : List (Sc × Option Addr × Nat), (∀ x ∈ L, SlF W x.2.1 x.1.f x.2.2 ∧ Fine x.1) → RG.Elems KS (fun _ => True) W (L.map (·.1)) (L.flatMap encS)
  | [], _ => rfl
  | x :: L, h => by
    obtain ⟨h1, h2⟩ := h x (by simp)
    exact ⟨encS x, L.flatMap encS, rfl, ⟨x.2.1, x.2.2, rfl, h1, h2, fun _ _ _ => True.intro⟩, elems_s L fun y hy => h y (by simp [hy])⟩

theorem cells_s {w : World} {b : Nat} : ∀ (L : List (Sc × Option Addr × Nat)) (o : Nat), (∀ i x, L[i]? = some x → w.cell? ⟨b, o + i * 3, none⟩ = some (.string x.1.s) ∧ w.cell? ⟨b, o + i * 3 + 1, none⟩ = some (.int .i64 x.1.v) ∧ w.cell? ⟨b, o + i * 3 + 2, none⟩ = some (.slice x.2.1 x.1.f.length x.2.2)) →
    ∀ (j : Nat) (u : Value), (L.flatMap encS)[j]? = some u → w.cell? ⟨b, o + j, none⟩ = some u
  | [], _, _, j, u, h => by simp at h
  | x :: L, o, hc, j, u, h => by
    rw [List.flatMap_cons] at h
    obtain ⟨c0, c1, c2⟩ := hc 0 x rfl
    rw [Nat.zero_mul, Nat.add_zero] at c0 c1 c2
    by_cases hj : j < 3
    · rw [List.getElem?_append_left (by simpa [encS] using hj)] at h
      have hw : j = 0 ∨ j = 1 ∨ j = 2 := by omega
      rcases hw with rfl | rfl | rfl
      · obtain rfl : _ = u := by simpa [encS] using h
        exact c0
      · obtain rfl : _ = u := by simpa [encS] using h
        exact c1
      · obtain rfl : _ = u := by simpa [encS] using h
        exact c2
    · rw [List.getElem?_append_right (by simp only [encS, List.length_cons, List.length_nil]; omega)] at h
      have h2 := cells_s L (o + 3) (fun i y hi => by
        have h3 := hc (i + 1) y (by simpa using hi)
        rw [show o + 3 + i * 3 = o + (i + 1) * 3 from by omega]
        exact h3) (j - 3) u h
      rw [show o + 3 + (j - 3) = o + j from by omega] at h2
      exact h2

set_option maxRecDepth 100000 in
theorem open_schemas {H : Type} {enc : TypeId × Value → H} {W : World} {r : Reach} {b0 : Nat} {v : Value} {d : DataW H} {p : List MemPlace} (hv : Value.okWide Tryz.prog W r b0 22 v)
    (h : DataW.Trod enc Tryz.prog W 0 (fun _ => true) true 22 v d p) : ∃ a len cap, v = .slice a len cap ∧ ArgL W a len cap := by
  obtain ⟨a, len, cap, rfl⟩ := okWide_slice Tryz.underlying22 hv
  refine ⟨a, len, cap, rfl, ?_⟩
  obtain ⟨fuel, hf⟩ := h
  simp only [Value.cells] at hf
  rcases Deep.open_slice Tryz.underlying22 hf with ⟨hcs, _⟩ | ⟨x, l, c, m, n, D, Pl, hcs, _, hl, hm, hmm, _, hr⟩
  · simp only [List.cons.injEq, Value.slice.injEq, and_true] at hcs
    obtain ⟨rfl, rfl, rfl⟩ := hcs
    exact ⟨[], rfl, slS_none W⟩
  · simp only [List.cons.injEq, Value.slice.injEq, and_true] at hcs
    obtain ⟨rfl, rfl, rfl⟩ := hcs
    simp only [if_true] at hmm
    subst hmm
    have each : ∀ i, i < len → ∃ y : Sc × Option Addr × Nat, (SlF W y.2.1 y.1.f y.2.2 ∧ Fine y.1) ∧ W.cell? (x.add (i * 3)) = some (.string y.1.s) ∧ W.cell? (x.add (i * 3 + 1)) = some (.int .i64 y.1.v) ∧ W.cell? (x.add (i * 3 + 2)) = some (.slice y.2.1 y.1.f.length y.2.2) := by
      intro i hi
      obtain ⟨cs', hc, ht⟩ := hr i (by omega)
      rw [show Tryz.prog.cellsOf 40 = 3 from by kernel_rfl] at hc
      obtain ⟨_, hlen, hcell⟩ := World.cells?_some hc
      match cs', hlen with
      | [v0, v1, v2], _ =>
        obtain ⟨y0, y1, y2, k, _, _, t0, t1, t2⟩ := Deep.trod_struct3 Tryz.underlying40 ht
        have c0 : Tryz.prog.cellsOf 9 = 1 := by kernel_rfl
        have c1 : Tryz.prog.cellsOf 3 = 1 := by kernel_rfl
        have c2 : Tryz.prog.cellsOf 38 = 1 := by kernel_rfl
        simp only [c0] at t0
        simp only [c1] at t1
        simp only [c2] at t2
        obtain ⟨s, e0', _, w0⟩ := DataW.trod_string Tryz.underlying9 t0
        obtain ⟨n1, e1', _, w1⟩ := DataW.trod_int Tryz.underlying3 t1
        simp only [List.drop_zero, List.drop_succ_cons, List.take_succ_cons, List.take_zero, List.cons.injEq, and_true] at e0' e1' t2
        subst e0' e1'
        obtain ⟨A1, n2, k2, rfl, l2, rfl, hs2⟩ := open_fields t2
        have g0 := hcell 0 (by decide)
        have g1 := hcell 1 (by decide)
        have g2 := hcell 2 (by decide)
        have hb := bounds_i64 w1
        refine ⟨(⟨s, n1, l2⟩, A1, k2), ⟨hs2, w0, by simp only; omega, by simp only; omega⟩, ?_, ?_, ?_⟩
        · rw [Deep.add_add, Nat.add_zero] at g0
          exact g0
        · rw [Deep.add_add] at g1
          exact g1
        · rw [Deep.add_add] at g2
          exact g2
    let g : Nat → Sc × Option Addr × Nat := fun i => if h : i < len then Classical.choose (each i h) else (s0, none, 0)
    have hg : ∀ i, i < len → (SlF W (g i).2.1 (g i).1.f (g i).2.2 ∧ Fine (g i).1) ∧ W.cell? (x.add (i * 3)) = some (.string (g i).1.s) ∧ W.cell? (x.add (i * 3 + 1)) = some (.int .i64 (g i).1.v) ∧ W.cell? (x.add (i * 3 + 2)) = some (.slice (g i).2.1 (g i).1.f.length (g i).2.2) := by
      intro i hi
      have e : g i = Classical.choose (each i hi) := dif_pos hi
      rw [e]
      exact Classical.choose_spec (each i hi)
    have hgl : (((List.range len).map g).map (·.1)).length = len := by simp
    refine ⟨((List.range len).map g).map (·.1), hgl, ⟨((List.range len).map g).flatMap encS, fun h0 => ?_, elems_s _ fun y hy => ?_⟩, by rw [hgl]; exact hl, (fun e => by cases e), hm⟩
    · have hl0 : 0 < len := by
        rcases Nat.eq_zero_or_pos len with e | e
        · subst e
          simp at h0
        · exact e
      obtain ⟨b, o, sp⟩ := x
      have hsp : sp = none := by simpa [Addr.add] using World.cell?_spot (hg 0 hl0).2.1
      subst hsp
      refine ⟨b, o, rfl, cells_s _ o fun i y hi => ?_⟩
      have hi2 : i < len := by
        have := (List.getElem?_eq_some_iff.1 hi).1
        simpa using this
      have hy : y = g i := by
        rw [List.getElem?_map, List.getElem?_range hi2] at hi
        simpa using hi.symm
      subst hy
      obtain ⟨_, g1, g2, g3⟩ := hg i hi2
      rw [Addr.add_lit] at g1 g2 g3
      exact ⟨g1, g2, g3⟩
    · obtain ⟨i, hi, rfl⟩ := List.mem_map.1 hy
      exact (hg i (List.mem_range.1 hi)).1
end Go.Proofs.YtbmdkibmfkmjoaaGreat.Op

namespace Go.Proofs.YtbmdkibmfkmjoaaGreat.Op
open Go.RowKit Go.ChangeShapes Go.WideShapes Go.Proofs.YtbmdkibmfkmjoaaGreat.BM

set_option maxRecDepth 100000 in
theorem open_bytes_cells {H : Type} {enc : TypeId × Value → H} {W : World} {fuel : Nat} {v : Value} {x : DataW H × List MemPlace} (h : DataW.trod enc Tryz.prog W 0 (fun _ => true) true fuel 26 [v] = some x) :
    ∃ a len cap zs, v = .slice a len cap ∧ RowU8 W a len cap zs := by
  rcases open_ints Tryz.underlying26 Tryz.underlying5 (by kernel_rfl) h with ⟨hcs, _⟩ | ⟨x, l, c, zs, hcs, _, hl, hm, hz, _, hcell, hwz⟩
  · exact ⟨none, 0, 0, [], by simpa using hcs, .inl ⟨rfl, rfl, rfl, rfl⟩⟩
  · exact ⟨some x, l, c, zs, by simpa using hcs, .inr ⟨x, rfl, hl, hm, by simpa using hz, hcell, hwz⟩⟩

set_option maxRecDepth 100000 in
theorem open_bytes {H : Type} {enc : TypeId × Value → H} {W : World} {r : Reach} {b0 : Nat} {v : Value} {d : DataW H} {p : List MemPlace} (hv : Value.okWide Tryz.prog W r b0 26 v)
    (h : DataW.Trod enc Tryz.prog W 0 (fun _ => true) true 26 v d p) : ∃ a len cap zs, v = .slice a len cap ∧ RowU8 W a len cap zs := by
  obtain ⟨a, len, cap, rfl⟩ := okWide_slice Tryz.underlying26 hv
  obtain ⟨fuel, hf⟩ := h
  simp only [Value.cells] at hf
  exact open_bytes_cells hf
end Go.Proofs.YtbmdkibmfkmjoaaGreat.Op
