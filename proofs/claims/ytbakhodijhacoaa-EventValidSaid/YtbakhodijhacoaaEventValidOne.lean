/-
  EventValid: for every input the law returns true, and each argument reads afterwards as it read before. No condition.
  The walk is the theorem Go.Proofs.Ytbakhodijhacoaa.Ev.valid_walk.
-/
import Derived.Test.YtbakhodijhacoaaRows
import Derived.Test.YtbakhodijhacoaaSchemaRow
import Derived.Lib.SmallJoins
import Derived.Deep.Slices
import Derived.ShutString
import Derived.OpenShut
import Derived.Test.YtbakhodijhacoaaEventAwake
import Derived.Test.YtbakhodijhacoaaEventFew
import Derived.Test.YtbakhodijhacoaaSchemaFew
import Derived.Test.YtbakhodijhacoaaSchemaFits
import Derived.Test.YtbakhodijhacoaaOpenEvent
import Derived.BigQuiet
import Derived.Deep.QuietTactic
import Derived.WalkKit
import Derived.ProofKit
import Derived.ChangeOld
import Derived.Below
namespace Go.Proofs.Ytbakhodijhacoaa.Op
open Go.RowKit Go.ChangeShapes Go.WideShapes Go.Proofs.Ytbakhodijhacoaa.Sc Go.Proofs.Ytbakhodijhacoaa.ScM Go.Proofs.Ytbakhodijhacoaa.VaM

/-- A schema that came in: its fields lie where its slice says. -/
def ArgS (W : World) (s : ByteArray) (v : Int) (a : Option Addr) (len cap : Nat) : Prop := ∃ l : List F, l.length = len ∧ SlF W a l cap ∧ Fine ⟨s, v, l⟩

theorem two {H : Type} {enc : TypeId × Value → H} {P : Program} {w : World} {base : Nat} {spare : Nat → Bool} {held : Bool} {t : TypeId} {g0 g1 : Field} {fuel : Nat} {u0 u1 : Value} {x : DataW H × List MemPlace}
    (ht : P.underlying t = some (.struct #[g0, g1])) (h : DataW.trod enc P w base spare held fuel t [u0, u1] = some x) :
    ∃ y0 y1 n, DataW.trod enc P w base spare held n g0.type (([u0, u1].drop g0.offset).take (P.cellsOf g0.type)) = some y0 ∧ DataW.trod enc P w base spare held n g1.type (([u0, u1].drop g1.offset).take (P.cellsOf g1.type)) = some y1 := by
  obtain ⟨ys, n, _, _, _, hn, hat⟩ := DataW.trod_struct ht h
  obtain ⟨a, b, rfl⟩ : ∃ a b, ys = [a, b] := by
    match ys, hn with
    | [a, b], _ => exact ⟨a, b, rfl⟩
  exact ⟨a, b, n, by simpa using hat 0 g0 rfl, by simpa using hat 1 g1 rfl⟩

theorem open_schema {H : Type} {enc : TypeId × Value → H} {W : World} {r : Reach} {b0 : Nat} {v : Value} {d : DataW H} {p : List MemPlace} (hv : Value.okWide Try.prog W r b0 24 v)
    (h : DataW.Trod enc Try.prog W 0 (fun _ => true) true 24 v d p) : ∃ s n a len cap, v = .agg #[.string s, .int .i64 n, .slice a len cap] ∧ ArgS W s n a len cap := by
  obtain ⟨v0, v1, v2, y0, y1, y2, fuel, rfl, _, _, h0, h1, h2⟩ := Joins.open_agg3 Try.underlying24 (by kernel_rfl) (by kernel_rfl) hv h
  obtain ⟨s, hs, _, ws⟩ := DataW.trod_string Try.underlying9 h0
  obtain ⟨n, hn, _, wn⟩ := DataW.trod_int Try.underlying3 h1
  simp only [List.cons.injEq, and_true] at hs hn
  subst hs hn
  have hb := bounds_i64 wn
  rcases Deep.open_slice Try.underlying22 h2 with ⟨hcs, _⟩ | ⟨x, l, c, m, k, D, Pl, hcs, _, hl, hm, hmm, _, hr⟩
  · simp only [List.cons.injEq, and_true] at hcs
    subst hcs
    exact ⟨s, n, none, 0, 0, rfl, [], rfl, slF_none W, ws, by simp only; omega, by simp only; omega⟩
  · simp only [List.cons.injEq, and_true] at hcs
    subst hcs
    simp only [if_true] at hmm
    rw [hmm] at hr
    have each : ∀ i, i < l → ∃ f : F, f.s.size ≤ maxLen ∧ W.cell? (x.add (i * 2)) = some (.string f.s) ∧ W.cell? (x.add (i * 2 + 1)) = some (.int .i64 f.k) := by
      intro i hi
      obtain ⟨cs', hc, ht⟩ := hr i (by omega)
      rw [show Try.prog.cellsOf 42 = 2 from by kernel_rfl] at hc
      obtain ⟨_, hlen, hcell⟩ := World.cells?_some hc
      match cs', hlen with
      | [v0, v1], _ =>
        obtain ⟨y0, y1, k, t0, t1⟩ := two Try.underlying42 ht
        have c1 : Try.prog.cellsOf 3 = 1 := by kernel_rfl
        have c2 : Try.prog.cellsOf 9 = 1 := by kernel_rfl
        simp only [c1, c2] at t0 t1
        obtain ⟨f0, e0', _, w0⟩ := DataW.trod_string Try.underlying9 t0
        obtain ⟨f1, e1', _, _⟩ := DataW.trod_int Try.underlying3 t1
        simp only [List.drop_zero, List.drop_succ_cons, List.take_succ_cons, List.take_zero, List.cons.injEq, and_true] at e0' e1'
        subst e0' e1'
        have g0 := hcell 0 (by decide)
        have g1 := hcell 1 (by decide)
        refine ⟨⟨f0, f1⟩, w0, ?_, ?_⟩
        · rw [Deep.add_add, Nat.add_zero] at g0
          exact g0
        · rw [Deep.add_add] at g1
          exact g1
    let g : Nat → F := fun i => if h : i < l then Classical.choose (each i h) else d0
    have hg : ∀ i, i < l → (g i).s.size ≤ maxLen ∧ W.cell? (x.add (i * 2)) = some (.string (g i).s) ∧ W.cell? (x.add (i * 2 + 1)) = some (.int .i64 (g i).k) := by
      intro i hi
      have e : g i = Classical.choose (each i hi) := dif_pos hi
      rw [e]
      exact Classical.choose_spec (each i hi)
    have hgl : ((List.range l).map g).length = l := by simp
    have hgd : ∀ i, i < l → ((List.range l).map g).getD i d0 = g i := fun i hi => by simp [List.getD_eq_getElem?_getD, hi]
    refine ⟨s, n, some x, l, c, rfl, (List.range l).map g, hgl, ⟨fun h0 => ?_, by rw [hgl]; exact hl, (fun e => by cases e), hm, fun f hf => ?_⟩, ws, by simp only; omega, by simp only; omega⟩
    · rw [hgl] at h0
      obtain ⟨b, o, sp⟩ := x
      have hsp : sp = none := by simpa [Addr.add] using World.cell?_spot (hg 0 h0).2.1
      subst hsp
      refine ⟨b, o, rfl, fun i hi => ?_⟩
      rw [hgl] at hi
      rw [hgd i hi]
      obtain ⟨_, g1, g2⟩ := hg i hi
      rw [Addr.add_lit] at g1 g2
      exact ⟨g1, g2⟩
    · obtain ⟨i, hi, rfl⟩ := List.mem_map.1 hf
      exact (hg i (List.mem_range.1 hi)).1

theorem open_field {H : Type} {enc : TypeId × Value → H} {W : World} {r : Reach} {b0 : Nat} {v : Value} {d : DataW H} {p : List MemPlace} (hv : Value.okWide Try.prog W r b0 42 v)
    (h : DataW.Trod enc Try.prog W 0 (fun _ => true) true 42 v d p) : ∃ s n, v = .agg #[.string s, .int .i64 n] ∧ s.size ≤ maxLen := by
  obtain ⟨v0, v1, y0, y1, fuel, rfl, _, _, h0, h1⟩ := Joins.open_agg2 Try.underlying42 (by kernel_rfl) (by kernel_rfl) hv h
  obtain ⟨s, hs, _, ws⟩ := DataW.trod_string Try.underlying9 h0
  obtain ⟨n, hn, _, _⟩ := DataW.trod_int Try.underlying3 h1
  simp only [List.cons.injEq, and_true] at hs hn
  subst hs hn
  exact ⟨s, n, rfl, ws⟩
end Go.Proofs.Ytbakhodijhacoaa.Op

namespace Go.Proofs.Ytbakhodijhacoaa.Ev
open Go.RowKit Go.Proofs.Ytbakhodijhacoaa.BM Go.Proofs.Ytbakhodijhacoaa.LM Go.Proofs.Ytbakhodijhacoaa.EvM
open Go.Proofs.Ytbakhodijhacoaa.VaM (V e0)
open Go.Proofs.Ytbakhodijhacoaa.Va (SlV slV_len bx_new_t bx_set2 Bx ret_v CellV tyV slV_grown)
open Go.Proofs.Ytbakhodijhacoaa.Sc (SlF slF_len grown_set)
open Go.Proofs.Ytbakhodijhacoaa.ScM (Sc Fit d0)

theorem valid_ok {s : Sc} {e : Ev} : valid s e = 0 ↔ ScM.May s ∧ May e ∧ s.s = e.s ∧ s.f.map (·.k) = e.v.map (·.k) := by
  constructor
  · intro h
    by_cases h1 : ScM.May s ∧ May e
    · by_cases h2 : s.s = e.s
      · by_cases h3 : s.f.map (·.k) = e.v.map (·.k)
        · exact ⟨h1.1, h1.2, h2, h3⟩
        · rw [valid, if_neg (fun k => k h1), if_neg (fun k => k h2), if_neg h3] at h
          cases h
      · rw [valid_3 h1 h2] at h
        cases h
    · rw [valid_1 h1] at h
      cases h
  · rintro ⟨h1, h2, h3, h4⟩
    rw [valid, if_neg (fun k => k ⟨h1, h2⟩), if_neg (fun k => k h3), if_pos h4]

theorem may_take {e : Ev} (h : May e) (n : Nat) : May ⟨e.s, e.t, e.v.take n⟩ := by
  refine ⟨h.1, h.2.1, h.2.2.1, ?_, vgd_of (fun x hx => h.vok (List.mem_of_mem_take hx))⟩
  have := h.2.2.2.1
  simp only [List.length_take]
  omega

theorem valid_take {s old : Sc} {e : Ev} (h : valid s e = 0) (hf : Fit old s) : valid old ⟨e.s, e.t, e.v.take old.f.length⟩ = 0 := by
  obtain ⟨_, h2, h3, h4⟩ := valid_ok.1 h
  obtain ⟨f1, _, f3, _, _, f6⟩ := hf
  refine valid_ok.2 ⟨f1, may_take h2 _, f3.trans h3, ?_⟩
  simp only
  rw [List.map_take, ← h4, ← List.map_take, f6]

/-- Two schemas and an event that came in, as the walk meets them. -/
structure Three (w : World) (s1 s2 se : ByteArray) (v1 v2 te : Int) (a1 a2 ae : Option Addr) (n1 n2 ne c1 c2 ce : Nat) (l1 l2 : List ScM.F) (m : List V) : Prop where
  e1 : l1.length = n1
  e2 : l2.length = n2
  e3 : m.length = ne
  h1 : SlF w a1 l1 c1
  h2 : SlF w a2 l2 c2
  h3 : SlV w ae m ce
  f1 : Sc.Fine ⟨s1, v1, l1⟩
  f2 : Sc.Fine ⟨s2, v2, l2⟩
  f3 : Fine ⟨se, te, m⟩

set_option maxRecDepth 100000 in
set_option maxHeartbeats 8000000 in
theorem valid_walk' (s1 s2 se : ByteArray) (v1 v2 te : Int) (a1 a2 ae : Option Addr) (n1 n2 ne c1 c2 ce : Nat) (l1 l2 : List ScM.F) (m : List V) (w : World) (h : Three w s1 s2 se v1 v2 te a1 a2 ae n1 n2 ne c1 c2 ce l1 l2 m) :
    Calls Try.prog 5 #[.agg #[.string s1, .int .i64 v1, .slice a1 n1 c1], .agg #[.string s2, .int .i64 v2, .slice a2 n2 c2], .agg #[.string se, .int .i64 te, .slice ae ne ce]] w fun e w' => e = .returned (.bool true) ∧ Below w.heap.size w w' := by
  have hF1 := fun W (hW : Below w.heap.size w W) => Sc.Few_any ⟨s1, v1, l1⟩ a1 c1 W (h.h1.kept hW) h.f1.1
  have hF2 := fun W (hW : Below w.heap.size w W) => Sc.Few_any ⟨s2, v2, l2⟩ a2 c2 W (h.h2.kept hW) h.f2.1
  have hF3 := fun W (hW : Below w.heap.size w W) => Few_any ⟨se, te, m⟩ ae ce W (h.h3.kept hW) h.f3.1
  have hV1 := fun W (hW : Below w.heap.size w W) => Valid_any ⟨s1, v1, l1⟩ ⟨se, te, m⟩ a1 c1 ae ce W (h.h1.kept hW) (h.h3.kept hW) h.f1 h.f3
  have hFt := fun W (hW : Below w.heap.size w W) => Sc.Fits_any ⟨s2, v2, l2⟩ ⟨s1, v1, l1⟩ a2 c2 a1 c1 W (h.h2.kept hW) (h.h1.kept hW) h.f2 h.f1
  have hVk := fun (k : Nat) (W : World) (hW2 : SlF W a2 l2 c2) (hW3 : SlV W ae (m.take k) ce) => Valid_any ⟨s2, v2, l2⟩ ⟨se, te, m.take k⟩ a2 c2 ae ce W hW2 hW3 h.f2 h.f3
  obtain ⟨E, hE⟩ : ∃ E, E = valid ⟨s1, v1, l1⟩ ⟨se, te, m⟩ := ⟨_, rfl⟩
  obtain ⟨P, hP⟩ : ∃ P, P = decide (Few ⟨se, te, m⟩) := ⟨_, rfl⟩
  obtain ⟨Q, hQ⟩ : ∃ P, P = decide (Sc.Few ⟨s1, v1, l1⟩) := ⟨_, rfl⟩
  obtain ⟨R, hR⟩ : ∃ P, P = decide (Sc.Few ⟨s2, v2, l2⟩) := ⟨_, rfl⟩
  obtain ⟨T, hT⟩ : ∃ P, P = decide (Fit ⟨s2, v2, l2⟩ ⟨s1, v1, l1⟩) := ⟨_, rfl⟩
  simp only [h.e1, h.e2, h.e3, ← hE, ← hP, ← hQ, ← hR, ← hT] at hF1 hF2 hF3 hV1 hFt hVk
  have hb1 := slF_len h.h1
  have hb2 := slF_len h.h2
  have hb3 := slV_len h.h3
  have hce := h.h3.1.2.1
  rw [h.e1] at hb1
  rw [h.e2] at hb2
  rw [h.e3] at hb3 hce
  have HF1 := Lib.hid hF1
  have HF2 := Lib.hid hF2
  have HF3 := Lib.hid hF3
  have HV1 := Lib.hid hV1
  have HFt := Lib.hid hFt
  have HVk := Lib.hid hVk
  have HE := Lib.hid hE
  have HT := Lib.hid hT
  have HL1 := Lib.hid h.e1
  have HL2 := Lib.hid h.e2
  have HL3 := Lib.hid h.e3
  have HS1 := Lib.hid h.h1
  have HS2 := Lib.hid h.h2
  have HS3 := Lib.hid h.h3
  have ha1 := (Below.refl w.heap.size w).alloc (Nat.le_refl _) (.cells #[.string s1, .int .i64 v1, .slice a1 n1 c1] 24)
  obtain ⟨u1, hu1⟩ : ∃ u, u = w.alloc (.cells #[.string s1, .int .i64 v1, .slice a1 n1 c1] 24) := ⟨_, rfl⟩
  have hs1 : u1.heap.size = w.heap.size + 1 := by rw [hu1]; simp
  have hx1 := bx_new_t w 24 (.string s1) (.int .i64 v1) (.slice a1 n1 c1)
  rw [← hu1] at ha1 hx1
  have ha2 := (Below.refl u1.heap.size u1).alloc (Nat.le_refl _) (.cells #[.string s2, .int .i64 v2, .slice a2 n2 c2] 24)
  have hx2 := bx_new_t u1 24 (.string s2) (.int .i64 v2) (.slice a2 n2 c2)
  obtain ⟨u2, hu2⟩ : ∃ u, u = u1.alloc (.cells #[.string s2, .int .i64 v2, .slice a2 n2 c2] 24) := ⟨_, rfl⟩
  have hs2 : u2.heap.size = w.heap.size + 2 := by rw [hu2]; simp [hs1]
  rw [← hu2] at ha2 hx2
  have ha3 := (Below.refl u2.heap.size u2).alloc (Nat.le_refl _) (.cells #[.string se, .int .i64 te, .slice ae ne ce] 27)
  have hx3 := bx_new_t u2 27 (.string se) (.int .i64 te) (.slice ae ne ce)
  have hx1' := (hx1.kept ha2).kept ha3
  have hx2' := hx2.kept ha3
  have hb := bt ha1 (bt ha2 ha3)
  rw [hs1] at hx2'
  rw [hs2] at hx3
  rw [hu2, hu1] at hx1' hx2' hx3 hb
  have HX1 := Lib.hid hx1'
  have HX2 := Lib.hid hx2'
  have HX3 := Lib.hid hx3
  have HB := Lib.hid hb
  clear ha1 ha2 ha3 hx1 hx2 hx3 hx1' hx2' hb hu1 hu2 hs1 hs2 hF1 hF2 hF3 hV1 hFt hVk hE hP hQ hR hT h u1 u2
  go_enter Try.func5, Try.ntmps5
  go_wp2_with fail
  refine (awake_any _).mono ?_
  rintro e w1 ⟨rfl, hb⟩
  have HB1 := Lib.hid (bt HB.out hb)
  have HY1 := Lib.hid (HX1.out.kept hb)
  have HY2 := Lib.hid (HX2.out.kept hb)
  have HY3 := Lib.hid (HX3.out.kept hb)
  clear hb HB HX1 HX2 HX3
  obtain ⟨⟨p0, p1, p2⟩, _⟩ := HY3.out
  go_wp2_with fail
  refine (HF3.out _ HB1.out).mono ?_
  rintro e w2 ⟨rfl, hb⟩
  have HB2 := Lib.hid (bt HB1.out hb)
  have HX1 := Lib.hid (HY1.out.kept hb)
  have HX2 := Lib.hid (HY2.out.kept hb)
  have HX3 := Lib.hid (HY3.out.kept hb)
  clear hb HB1 HY1 HY2 HY3 p0 p1 p2 HF3
  obtain ⟨⟨p0, p1, p2⟩, _⟩ := HX1.out
  go_wp2_with fail
  refine (HF1.out _ HB2.out).mono ?_
  rintro e w3 ⟨rfl, hb⟩
  have HB3 := Lib.hid (bt HB2.out hb)
  have HY1 := Lib.hid (HX1.out.kept hb)
  have HY2 := Lib.hid (HX2.out.kept hb)
  have HY3 := Lib.hid (HX3.out.kept hb)
  clear hb HB2 HX1 HX2 HX3 p0 p1 p2 HF1
  obtain ⟨⟨p0, p1, p2⟩, _⟩ := HY2.out
  go_wp2_with fail
  refine (HF2.out _ HB3.out).mono ?_
  rintro e w4 ⟨rfl, hb⟩
  have HB4 := Lib.hid (bt HB3.out hb)
  have HX1 := Lib.hid (HY1.out.kept hb)
  have HX2 := Lib.hid (HY2.out.kept hb)
  have HX3 := Lib.hid (HY3.out.kept hb)
  clear hb HB3 HY1 HY2 HY3 p0 p1 p2 HF2
  by_cases hpq : P = true ∧ Q = true ∧ R = true
  · obtain ⟨rfl, rfl, rfl⟩ := hpq
    obtain ⟨⟨p0, p1, p2⟩, _⟩ := HX1.out
    obtain ⟨⟨q0, q1, q2⟩, _⟩ := HX3.out
    go_wp2_with fail
    refine (HV1.out _ HB4.out).mono ?_
    rintro e w5 ⟨rfl, hb⟩
    have HB5 := Lib.hid (bt HB4.out hb)
    have HY1 := Lib.hid (HX1.out.kept hb)
    have HY2 := Lib.hid (HX2.out.kept hb)
    have HY3 := Lib.hid (HX3.out.kept hb)
    clear hb HB4 HX1 HX2 HX3 p0 p1 p2 q0 q1 q2 HV1
    by_cases hE0 : E = 0
    · subst hE0
      obtain ⟨_, _, hnm, hks⟩ := valid_ok.1 HE.out.symm
      have hln := congrArg List.length hks
      simp only [List.length_map, HL1.out, HL3.out] at hln hnm
      subst hln
      subst hnm
      have hkd := (kinds_iff (by rw [HL1.out, HL3.out])).1 hks
      have HKd := Lib.hid hkd
      have ee : (s1.toList == s1.toList) = true := by simp
      obtain ⟨⟨p0, p1, p2⟩, _⟩ := HY1.out
      obtain ⟨⟨q0, q1, q2⟩, _⟩ := HY3.out
      clear hks hkd
      go_wp2_with fail
      clear p0 p1 p2 q0 q1 q2
      go_loopw [11] (fun i wr => ∃ j : Nat, i = .int .i64 j ∧ j ≤ n1 ∧ Below w5.heap.size w5 wr) (fun i _ => n1 - (intOf i).toNat)
      case atStart => exact ⟨0, rfl, Nat.zero_le _, Below.refl _ _⟩
      case round =>
        obtain ⟨j, rfl, hj, hbel⟩ := hrel
        have HBl := Lib.hid hbel
        obtain ⟨⟨x0, x1, x2⟩, _⟩ := HY1.out.kept hbel
        obtain ⟨⟨y0, y1, y2⟩, _⟩ := HY3.out.kept hbel
        clear hbel
        by_cases hjr : j < n1
        · obtain ⟨b1, t1, hix1, hc1, _⟩ := HS1.out.at j (by rw [HL1.out]; omega)
          obtain ⟨b2, t2, hix2, hc2, _⟩ := HS3.out.at v0 j (by rw [HL3.out]; omega)
          have hkj := HKd.out j (by rw [HL1.out, HL3.out]; omega)
          obtain ⟨⟨z1, k1⟩, hf1⟩ : ∃ f, f = l1.getD j d0 := ⟨_, rfl⟩
          obtain ⟨⟨k2, m2, z2⟩, hf2⟩ : ∃ f, f = m.getD j v0 := ⟨_, rfl⟩
          rw [← hf1] at hc1 hkj
          rw [← hf2] at hc2 hkj
          simp only at hkj
          subst hkj
          obtain ⟨c0, c1', c2'⟩ := hc2 wr (bt HB5.out HBl.out)
          obtain ⟨g0, g1⟩ := hc1 wr (bt HB5.out HBl.out)
          simp only at c0 c1' c2' g0 g1
          have hi1 := fun W => hix1 W n1 c1 (by omega)
          have hi2 := fun W => hix2 W n1 ce hjr
          clear hc1 hc2 hix1 hix2 hf1 hf2 x0 x1 y0 y1
          go_wp2_with fail
          go_quiet (fail)
          go_wp2_with fail
          go_roundw
          case rel => exact ⟨j + 1, by go_num, by omega, below_drewN HBl.out _⟩
          case measure => simp [intOf]; omega
        · obtain rfl : j = n1 := by omega
          obtain ⟨⟨r0, r1, r2⟩, _⟩ := HY2.out.kept HBl.out
          clear y0 y1 y2
          go_wp2_with fail
          refine (HFt.out _ (bt HB5.out HBl.out)).mono ?_
          rintro e w6 ⟨rfl, hb⟩
          have HB6 := Lib.hid (bt HB5.out (bt HBl.out hb))
          have HX2 := Lib.hid ((HY2.out.kept HBl.out).kept hb)
          have HX3 := Lib.hid ((HY3.out.kept HBl.out).kept hb)
          clear hb HBl HY1 HY2 HY3 HB5 x0 x1 x2 r0 r1 r2 HFt
          cases T
          · go_wp2_with fail
            go_ret
            exact ⟨ret_bool (by first | rfl | simp), HB6.out⟩
          · have hfit := decide_eq_true_iff.1 HT.out.symm
            have hvt := valid_take HE.out.symm hfit
            have hn21 : n2 ≤ j := by
              have h5 := hfit.2.2.2.2.1
              simp only [HL1.out, HL2.out] at h5
              exact h5
            simp only [HL2.out] at hvt
            have hcut := fun W => tyV.cut W ae j ce n2 (by omega)
            have hlt : (m.take n2).length = n2 := by rw [List.length_take, HL3.out]; omega
            have hvk := HVk.out n2
            simp only [hvt, hlt] at hvk
            have hX3 := HX3.out
            have hsl := (HS3.out.take n2).kept HB6.out
            have hB7 := HB6.out.setCell (p := ⟨w.heap.size + 2, 2, none⟩) (by simp only; omega) (.slice ae n2 ce)
            have HB7 := Lib.hid hB7
            have HZ3 := Lib.hid (bx_set2 hX3 (.slice ae n2 ce))
            have hne2 : w.heap.size + 2 ≠ w.heap.size + 1 := by omega
            have HZ2 := Lib.hid (HX2.out.off (p := ⟨w.heap.size + 2, 2, none⟩) hne2 (.slice ae n2 ce))
            have HVv := Lib.hid (hvk _ (HS2.out.kept hB7) ((HS3.out.take n2).kept hB7))
            obtain ⟨⟨q0, q1, q2⟩, q3, q4, q5⟩ := hX3
            obtain ⟨⟨r0, r1, r2⟩, _⟩ := HX2.out
            obtain ⟨W7, hW7⟩ : ∃ W7, W7 = w6.setCell ⟨w.heap.size + 2, 2, none⟩ (.slice ae n2 ce) := ⟨_, rfl⟩
            rw [← hW7] at HB7 HZ3 HZ2 HVv
            obtain ⟨z0, z1, z2⟩ := HZ3.out.1
            obtain ⟨o0, o1, o2⟩ := HZ2.out.1
            rw [hW7] at z0 z1 z2 o0 o1 o2
            have HW7 := Lib.hid hW7
            clear hfit hvt hvk hlt hsl hB7 hW7
            go_wp2_with fail
            rw [← HW7.out]
            clear q0 q1 q2 q3 q4 q5 r0 r1 r2 z0 z1 z2 o0 o1 o2
            refine HVv.out.mono ?_
            rintro e w8 ⟨rfl, hb⟩
            have HB8 := Lib.hid (bt HB7.out hb)
            clear hb
            go_wp2_with fail
            go_ret
            exact ⟨ret_bool (by first | rfl | simp), HB8.out⟩
    · have hd : ¬ (E = 0) := hE0
      clear HE
      go_wp2_with fail
      go_ret
      exact ⟨ret_bool (by first | rfl | simp), HB5.out⟩
  · have hw : P = false ∨ (P = true ∧ Q = false) ∨ (P = true ∧ Q = true ∧ R = false) := by cases P <;> cases Q <;> cases R <;> simp_all
    clear hpq
    rcases hw with rfl | ⟨rfl, rfl⟩ | ⟨rfl, rfl, rfl⟩
    all_goals
      go_wp2_with fail
      go_ret
      exact ⟨ret_bool (by first | rfl | simp), HB4.out⟩

theorem valid_walk (s1 : ByteArray) (v1 : Int) (a1 : Option Addr) (n1 c1 : Nat) (s2 : ByteArray) (v2 : Int) (a2 : Option Addr) (n2 c2 : Nat) (se : ByteArray) (te : Int) (ae : Option Addr) (ne ce : Nat) (w : World)
    (h1 : Op.ArgS w s1 v1 a1 n1 c1) (h2 : Op.ArgS w s2 v2 a2 n2 c2) (h3 : Op.ArgE w se te ae ne ce) :
    Calls Try.prog 5 #[.agg #[.string s1, .int .i64 v1, .slice a1 n1 c1], .agg #[.string s2, .int .i64 v2, .slice a2 n2 c2], .agg #[.string se, .int .i64 te, .slice ae ne ce]] w fun e w' => e = .returned (.bool true) ∧ Below w.heap.size w w' := by
  obtain ⟨l1, e1, g1, f1⟩ := h1
  obtain ⟨l2, e2, g2, f2⟩ := h2
  obtain ⟨m, e3, g3, f3⟩ := h3
  exact valid_walk' s1 s2 se v1 v2 te a1 a2 ae n1 n2 ne c1 c2 ce l1 l2 m w ⟨e1, e2, e3, g1, g2, g3, f1, f2, f3⟩
end Go.Proofs.Ytbakhodijhacoaa.Ev

namespace Go.Proofs.Ytbakhodijhacoaa.eventValid
open Go.ChangeShapes Go.WideShapes Go.ChangeAt Go.RowKit

theorem own : ownKnob Try.prog.godebug = none := by kernel_rfl
theorem laidOut : laidOutB Try.prog = true := by kernel_rfl

set_option maxRecDepth 100000 in
theorem lifted (os : Os) (started : os.Started) (H : Type) (enc : TypeId × Value → H) :
    ReturnsInHanded {} Try.checked os 5 .any (Rows.eventValidSpec.pre6 enc Try.prog Try.f5 Rows.eventValidRow.domain false) (Rows.eventValidSpec.post enc Try.prog Try.f5 false true false false) := by
  refine returnsInHanded_of_change (C := Try.checked) own started (by kernel_rfl) Try.func5
    (ChangeSpec.witness6 (enc := enc) (C := Try.checked) false ⟨#[], #[.agg #[.string ⟨#[]⟩, .int .i64 0, .slice none 0 0], .agg #[.string ⟨#[]⟩, .int .i64 0, .slice none 0 0], .agg #[.string ⟨#[]⟩, .int .i64 0, .slice none 0 0]], []⟩ 8 (by kernel_rfl) (by kernel_rfl) (by kernel_rfl) (by kernel_rfl)) ?_
  intro W base args ds gs before hval0 hW hcnd _
  have hval : ∀ (j : Nat) t v, Try.f5.params[j]? = some t → args[j]? = some v → Value.okWide Try.prog W .any base t v := hval0
  have hW' := hW
  obtain ⟨p, q, hA0, hV, rfl, hfz, hnd⟩ := hW
  have hA : DataW.TrodAll enc Try.prog W 0 (fun _ => true) true Try.f5.params.toList args.toList ds p := hA0
  rw [Try.params5] at hA hval
  obtain ⟨v0, vs0, d0, ds0, p0, q0, hargs, rfl, rfl, h0, r0⟩ := trodAll_cons hA
  obtain ⟨v1, vs1, d1, ds1, p1, q1, rfl, rfl, rfl, h1, r1⟩ := trodAll_cons r0
  obtain ⟨v2, vs2, d2, ds2, p2, q2, rfl, rfl, rfl, h2, r2⟩ := trodAll_cons r1
  obtain ⟨rfl, rfl, rfl⟩ := trodAll_nil r2
  obtain rfl : args = #[v0, v1, v2] := by cases args; simp_all
  obtain ⟨rfl, rfl⟩ := trodVars_none hV
  have k0 := h0
  have lt0 : ∀ x ∈ p0, x.block < W.heap.size := by obtain ⟨m, hm⟩ := k0; exact DataW.trod_lt m _ _ _ hm
  obtain ⟨ss0, nn0, a0, len0, cap0, rfl, w0⟩ := Op.open_schema (hval 0 24 v0 rfl rfl) h0
  have k1 := h1
  have lt1 : ∀ x ∈ p1, x.block < W.heap.size := by obtain ⟨m, hm⟩ := k1; exact DataW.trod_lt m _ _ _ hm
  obtain ⟨ss1, nn1, a1, len1, cap1, rfl, w1⟩ := Op.open_schema (hval 1 24 v1 rfl rfl) h1
  have k2 := h2
  have lt2 : ∀ x ∈ p2, x.block < W.heap.size := by obtain ⟨m, hm⟩ := k2; exact DataW.trod_lt m _ _ _ hm
  obtain ⟨ss2, nn2, a2, len2, cap2, rfl, w2⟩ := Op.open_event (hval 2 27 v2 rfl rfl) h2
  clear hA0 hval0
  refine (Go.Proofs.Ytbakhodijhacoaa.Ev.valid_walk ss0 nn0 a0 len0 cap0 ss1 nn1 a1 len1 cap1 ss2 nn2 a2 len2 cap2 W w0 w1 w2).mono fun e W' ⟨he, bel⟩ => ?_
  subst he
  exact ⟨_, rfl, _, _, _, [], _, [], hW', trodAll_mk1 (shut_bool Try.underlying4 _), (trodAll_cons_mk (Below.trod laidOut (by kernel_rfl) (of_decide_eq_true (by kernel_rfl)) k0 bel lt0) (trodAll_cons_mk (Below.trod laidOut (by kernel_rfl) (of_decide_eq_true (by kernel_rfl)) k1 bel lt1) (trodAll_cons_mk (Below.trod laidOut (by kernel_rfl) (of_decide_eq_true (by kernel_rfl)) k2 bel lt2) trodAll_mk0))), rfl, bel.frame _, fun h => by cases h⟩

theorem over : Rows.eventValidRow.holds Try.pinned (OpenSpec.ofChange Rows.eventValidSpec) :=
  OpenClaim.holds_of_wide 5 Try.f5 rfl rfl rfl rfl rfl rfl rfl ⟨rfl, rfl, rfl, rfl, rfl⟩ rfl rfl rfl rfl rfl (by kernel_rfl) Try.func5 (by kernel_rfl)
    (of_decide_eq_true (by kernel_rfl)) (by unfold Func.isWrapper; first | (rw [if_pos (by decide +kernel)]; kernel_rfl) | (rw [if_neg (by decide +kernel)]; exact ⟨rfl, rfl⟩))
    (fun os started H enc _ => lifted os started H enc)

theorem proved : Rows.EventValidSaid := over
#print axioms proved
end Go.Proofs.Ytbakhodijhacoaa.eventValid
