/- own and ownAll: copies that share nothing; asked: the schemas lie where they say, and there is memory for as many fields again. -/
import Derived.Test.YtnkhnfkohnflcaaSchemaOwn
import Derived.Test.YtnkhnfkohnflcaaSchemaSet
namespace Go.Proofs.Ytnkhnfkohnflcaa.Rg
open Go.RowKit Go.Proofs.Ytnkhnfkohnflcaa.BM Go.Proofs.Ytnkhnfkohnflcaa.LM Go.Proofs.Ytnkhnfkohnflcaa.VaM Go.Proofs.Ytnkhnfkohnflcaa.Va Go.Proofs.Ytnkhnfkohnflcaa.Sc Go.Proofs.Ytnkhnfkohnflcaa.RgM
open Go.Proofs.Ytnkhnfkohnflcaa.ScM (Sc)

/-- Fields stay, where another block is written. -/
theorem slF_off {w : World} {A : Option Addr} {l : List ScM.F} {c : Nat} {p : Addr} (h : SlF w A l c) (hp : ∀ a, A = some a → a.block ≠ p.block) (u : Value) : SlF (w.setCell p u) A l c := by
  refine ⟨fun hx => ?_, h.2⟩
  obtain ⟨g, o, e, hc⟩ := h.1 hx
  have hne := hp _ e
  have n : ∀ q, (⟨g, q, none⟩ : Addr) ≠ p := fun q e => hne (by rw [← e])
  exact ⟨g, o, e, fun j hj => ⟨by rw [World.cell?_setCell_other (h := (n _).symm)]; exact (hc j hj).1, by rw [World.cell?_setCell_other (h := (n _).symm)]; exact (hc j hj).2⟩⟩

set_option maxRecDepth 100000 in
set_option maxHeartbeats 2000000 in
theorem own_any (s : Sc) (A : Option Addr) (c : Nat) (w : World) (hF : SlF w A s.f c) (hr : Room s.f) :
    Calls Try.prog 28 #[.agg #[.string s.s, .int .i64 s.v, .slice A s.f.length c]] w fun e w' => ∃ A' c', e = .returned (.agg #[.string s.s, .int .i64 s.v, .slice A' s.f.length c']) ∧ Own w.heap.size w' A' s.f c' ∧ Below w.heap.size w w' := by
  obtain ⟨nm, v, f⟩ := s
  simp only at hF hr ⊢
  have hcl := fun W (h : Below w.heap.size w W) => CloneF_any f A c W (hF.kept h) hr
  have HCl := Lib.hid hcl
  obtain ⟨n, hn⟩ : ∃ n, n = f.length := ⟨_, rfl⟩
  rw [← hn] at HCl ⊢
  clear hcl hF hr hn
  have hb1 := (Below.refl w.heap.size w).alloc (Nat.le_refl _) (.cells #[.string nm, .int .i64 v, .slice A n c] 25)
  have hx1 := bx_new_t w 25 (.string nm) (.int .i64 v) (.slice A n c)
  obtain ⟨u1, hu1⟩ : ∃ u, u = w.alloc (.cells #[.string nm, .int .i64 v, .slice A n c] 25) := ⟨_, rfl⟩
  have hs1 : u1.heap.size = w.heap.size + 1 := by rw [hu1]; simp
  rw [← hu1] at hb1 hx1
  have hb2 := (Below.refl u1.heap.size u1).alloc (Nat.le_refl _) (.cells #[.string ⟨#[]⟩, .int .i64 0, .slice none 0 0] 25)
  have hz2 := bx_new_t u1 25 (.string ⟨#[]⟩) (.int .i64 0) (.slice none 0 0)
  rw [hs1] at hz2
  have hx2 := hx1.kept hb2
  have hbb := bt hb1 hb2
  rw [hu1] at hx2 hz2 hbb
  have HX2 := Lib.hid hx2
  have HZ2 := Lib.hid hz2
  have HB2 := Lib.hid hbb
  clear hb1 hx1 hs1 hb2 hz2 hx2 hbb hu1 u1
  obtain ⟨⟨p0, p1, p2⟩, _⟩ := HX2.out
  go_enter Try.func28, Try.ntmps28
  go_wp2_with fail
  obtain ⟨w2, hw2⟩ : ∃ w2, w2 = (w.alloc (.cells #[.string nm, .int .i64 v, .slice A n c] 25)).alloc (.cells #[.string ⟨#[]⟩, .int .i64 0, .slice none 0 0] 25) := ⟨_, rfl⟩
  rw [← hw2] at HX2 HZ2 HB2 ⊢
  clear hw2 p0 p1 p2
  refine (HCl.out w2 HB2.out).mono ?_
  rintro e w3 ⟨A3, c3, rfl, hO3, hb3⟩
  have HO3 := Lib.hid hO3
  have HX3 := Lib.hid (HX2.out.kept hb3)
  have HZ3 := Lib.hid (HZ2.out.kept hb3)
  have HB3 := Lib.hid (bt HB2.out hb3)
  have hlt := HZ2.out.lt
  have HAp := Lib.hid (show ∀ a, A3 = some a → w.heap.size + 1 < a.block from fun a ha => Nat.lt_of_lt_of_le hlt (hO3.2 a ha))
  clear hO3 hb3 HX2 HZ2 HB2 HCl hlt
  have hs4 := slF_off (p := ⟨w.heap.size, 2, none⟩) HO3.out.1 (fun a ha => by have := HAp.out a ha; simp only; omega) (.slice A3 n c3)
  have hb4 := HB3.out.setCell (p := ⟨w.heap.size, 2, none⟩) (Nat.le_refl _) (.slice A3 n c3)
  have hx4 := bx_set2 HX3.out (.slice A3 n c3)
  have hz4 := HZ3.out.off (p := ⟨w.heap.size, 2, none⟩) (by simp only; omega) (.slice A3 n c3)
  have HX4 := Lib.hid hx4
  have HZ4 := Lib.hid hz4
  have HB4 := Lib.hid hb4
  have HS4 := Lib.hid hs4
  obtain ⟨⟨y0, y1, y2⟩, y3, y4, y5⟩ := HX3.out
  obtain ⟨⟨p0, p1, p2⟩, _⟩ := HX4.out
  obtain ⟨⟨q0, q1, q2⟩, q3, q4, q5⟩ := HZ4.out
  have hst := bx_store HZ4.out (.string nm) (.int .i64 v) (.slice A3 n c3)
  have HF := Lib.hid (stored3 HB4.out (Nat.le_succ _) (.string nm) (.int .i64 v) (.slice A3 n c3))
  have HSl := Lib.hid (slF_off (p := ⟨w.heap.size + 1, 2, none⟩) (slF_off (p := ⟨w.heap.size + 1, 1, none⟩) (slF_off (p := ⟨w.heap.size + 1, 0, none⟩) HS4.out (fun a ha => by have := HAp.out a ha; simp only; omega) (.string nm)) (fun a ha => by have := HAp.out a ha; simp only; omega) (.int .i64 v)) (fun a ha => by have := HAp.out a ha; simp only; omega) (.slice A3 n c3))
  obtain ⟨⟨g0, g1, g2⟩, _⟩ := hst
  have G0 := Lib.hid g0
  have G1 := Lib.hid g1
  have G2 := Lib.hid g2
  clear hs4 hb4 hx4 hz4 g0 g1 g2
  go_wp2_with fail
  obtain ⟨W2, hW2⟩ : ∃ W2, W2 = (((w3.setCell ⟨w.heap.size, 2, none⟩ (.slice A3 n c3)).setCell ⟨w.heap.size + 1, 0, none⟩ (.string nm)).setCell ⟨w.heap.size + 1, 1, none⟩ (.int .i64 v)).setCell ⟨w.heap.size + 1, 2, none⟩ (.slice A3 n c3) := ⟨_, rfl⟩
  rw [← hW2] at HF HSl G0 G1 G2 ⊢
  have g0 := G0.out
  have g1 := G1.out
  have g2 := G2.out
  clear hW2 p0 p1 p2 y0 y1 y2 y3 y4 y5 q0 q1 q2 q3 q4 q5
  exact bodyPost_ret (v := .agg #[.string nm, .int .i64 v, .slice A3 n c3]) (by simp [results, Try.results28, go_sem, g0, g1, g2]) rfl ⟨A3, c3, rfl, ⟨HSl.out, fun a ha => by have := HAp.out a ha; omega⟩, HF.out⟩

/-- Schemas of the call's own. -/
def OwnL (base : Nat) (l : List Sc) (us : List Value) (n : Nat) (u : Value) (w : World) : Prop :=
  w.ownsRow base 25 3 u n us ∧ RG.Elems KS (fun b => True ∧ ne u b) w l us

theorem OwnL.kept {base : Nat} {l : List Sc} {us : List Value} {n : Nat} {u : Value} {w w' : World} (h : OwnL base l us n u w) (hb : Below w.heap.size w w') : OwnL base l us n u w' :=
  ⟨own_later h.1 hb, h.2.map fun _ _ e => KS.kept e hb⟩

/-- The block of a row of the call's own is there. -/
theorem own_lt {w : World} {base n size : Nat} {e : TypeId} {v : Value} {xs : List Value} (h : w.ownsRow base e size v n xs) : ∀ b, v.ownBlock = some b → b < w.heap.size := by
  intro b hb
  rcases h.2 with ⟨rfl, _⟩ | ⟨g, cap, cur, rfl, _⟩
  · cases hb
  · have e : some g = some b := hb
    injection e with e
    subst e
    exact (h.lt g rfl).2

/-- A schema whose fields lie in a new block, as an element. -/
theorem relS_own {w : World} {A : Option Addr} {s : Sc} {c H : Nat} (h : Own H w A s.f c) (hf : Fine s) {v : Value} (hv : ∀ b, v.ownBlock = some b → b < H) : KS.rel (fun b => True ∧ ne v b) w s [.string s.s, .int .i64 s.v, .slice A s.f.length c] := by
  refine ⟨A, c, rfl, h.1, hf, fun _ a ha => ⟨True.intro, fun e => ?_⟩⟩
  have h1 := h.2 a ha
  have h2 := hv _ e.symm
  omega

/-- Is there memory for as many fields of any of them again? -/
def RoomL (l : List Sc) : Prop := ∀ i, i < l.length → Room (l.getD i s0).f

theorem take_snocS {l : List Sc} {j : Nat} (h : j < l.length) : l.take (j + 1) = l.take j ++ [l.getD j s0] := by
  rw [List.take_add_one, List.getElem?_eq_getElem h, getD_lt h]
  rfl

set_option maxRecDepth 100000 in
set_option maxHeartbeats 4000000 in
theorem ownAll_any (l : List Sc) (A : Option Addr) (c : Nat) (w : World) (hS : SlS w A l c) (hr : RoomL l) (hlen : l.length ≤ 1000) :
    Calls Try.prog 36 #[.slice A l.length c] w fun e w' => ∃ u us, e = .returned u ∧ OwnL w.heap.size l us l.length u w' ∧ Below w.heap.size w w' := by
  unfold RoomL at hr
  have htk := fun j => @take_snocS l j
  have hall : l.take l.length = l := List.take_length
  obtain ⟨n, hn⟩ : ∃ n, n = l.length := ⟨_, rfl⟩
  rw [← hn] at hlen hr hall ⊢
  simp only [← hn] at htk
  have HLen := Lib.hid hn
  have HS := Lib.hid hS
  have HRm := Lib.hid hr
  have HTk := Lib.hid htk
  have HAll := Lib.hid hall
  clear hn hS hr htk hall
  obtain ⟨i0, hi, hz0, hz1, hz2⟩ := info_parts tyS.info
  obtain ⟨w1, hmk, hown1, hg1⟩ := run_make_own (P := Try.prog) w w.heap.size 22 25 i0 _ 3 tyS.und hi hz0 hz1 .i64 .i64 n (by rw [hz2]; omega) (by unfold maxLen; omega) (Nat.le_refl _)
  have HB1 := Lib.hid ((Below.refl w.heap.size w).grown hg1 (Nat.le_refl _) (fun _ h => by cases h))
  obtain ⟨u1, hu1⟩ : ∃ u, u = (Value.slice (some ⟨w.heap.size, 0, none⟩) 0 n) := ⟨_, rfl⟩
  rw [← hu1] at hmk hown1
  have HO1 := Lib.hid (show OwnL w.heap.size (l.take 0) [] 0 u1 w1 from ⟨hown1, rfl⟩)
  clear hi hz0 hz1 hz2 hown1 hg1 hu1
  go_enter Try.func36, Try.ntmps36
  go_wp2_with fail
  clear hmk
  go_loopw [3, 11] (fun u i wr => ∃ (j : Nat) (us : List Value), i = .int .i64 j ∧ j ≤ n ∧ OwnL w.heap.size (l.take j) us j u wr ∧ Below w.heap.size w wr) (fun _ i _ => n - (intOf i).toNat)
  case atStart => exact ⟨0, [], rfl, Nat.zero_le _, HO1.out, HB1.out⟩
  case round =>
    obtain ⟨j, us, rfl, hj, hown, hbel⟩ := hrel
    have HO := Lib.hid hown
    have HBl := Lib.hid hbel
    clear hown hbel
    by_cases hjn : j < n
    · obtain ⟨b, q, A1, c1, hix, hc, hfine⟩ := HS.out.at j (by rw [← HLen.out]; exact hjn)
      have hrm := HRm.out j hjn
      have htk := HTk.out j hjn
      obtain ⟨f, hf⟩ : ∃ f, f = l.getD j s0 := ⟨_, rfl⟩
      rw [← hf] at hc hfine hrm htk
      have HTj := Lib.hid htk
      obtain ⟨⟨x0, x1, x2⟩, _⟩ := hc wr HBl.out
      have hi := fun W => hix W n c hjn
      have HOw := Lib.hid (fun W (h : Below w.heap.size w W) => own_any f A1 c1 W (hc W h).2 hrm)
      have HRel := Lib.hid (fun (W : World) (T : Option Addr) (d H : Nat) (v : Value) (h : Own H W T f.f d) (hv : ∀ b, v.ownBlock = some b → b < H) => relS_own h hfine hv)
      clear hc hix hf hrm htk hfine
      obtain ⟨fs, fv, ff⟩ := f
      simp only at x0 x1 x2 HOw HRel
      obtain ⟨k, hk⟩ : ∃ k, k = ff.length := ⟨_, rfl⟩
      simp only [← hk] at x2 HOw HRel
      clear hk
      have ha := (Below.refl wr.heap.size wr).alloc (Nat.le_refl _) (.cells #[.string fs, .int .i64 fv, .slice A1 k c1] 25)
      have HX2 := Lib.hid (bx_new_t wr 25 (.string fs) (.int .i64 fv) (.slice A1 k c1))
      have HB2 := Lib.hid (bt HBl.out ha)
      have HO2 := Lib.hid (HO.out.kept ha)
      obtain ⟨⟨p0, p1, p2⟩, _⟩ := HX2.out
      clear ha
      go_wp2_with fail
      obtain ⟨w2, hw2⟩ : ∃ w2, w2 = wr.alloc (.cells #[.string fs, .int .i64 fv, .slice A1 k c1] 25) := ⟨_, rfl⟩
      rw [← hw2] at HB2 HO2 ⊢
      clear hw2 HX2 p0 p1 p2 x0 x1 x2 HO
      refine (HOw.out w2 HB2.out).mono ?_
      rintro e w3 ⟨A3, c3, rfl, hO3, hb3⟩
      have hlt := own_lt HO2.out.1
      have hr3 := HRel.out w3 A3 c3 w2.heap.size _ hO3 hlt
      have ha3 := (Below.refl w3.heap.size w3).alloc (Nat.le_refl _) (.cells #[.string fs, .int .i64 fv, .slice A3 k c3] 25)
      have HNew := Lib.hid (RG.elem_new w3 25 (K := KS) (⟨fs, fv, ff⟩ : Sc) _ hr3)
      have HO4 := Lib.hid (HO2.out.kept (bt hb3 ha3))
      have HB4 := Lib.hid (bt HB2.out (bt hb3 ha3))
      have hz := HB4.out.size
      clear hO3 hb3 hlt hr3 ha3 HB2 HO2 HRel HOw
      go_wp2_with (at_builtin; refine tyS.wp_append (K := KS) (fun _ => True) rfl (.tmp 15) (.tmp 18) rfl w.heap.size _ j us (l.take j) rfl HO4.out.1 HO4.out.2 (some ⟨w3.heap.size, 0, none⟩) 1 1 _ [⟨fs, fv, ff⟩] rfl rfl HNew.out.1 HNew.out.2 (fun h => by cases h) (by omega) hz ?_; intro u7 w7 hown7 hel7 hgrow7; refine pause ?_)
      have HB7 := Lib.hid (HB4.out.grown hgrow7 hz (fun q hq => own_base HO4.out.1 q hq))
      rw [← HTj.out] at hel7
      have HO7 := Lib.hid (show OwnL w.heap.size (l.take (j + 1)) _ (j + 1) u7 w7 from ⟨hown7, hel7⟩)
      clear hown7 hel7 hgrow7 HO4 HB4 HNew
      unfold Pause
      go_wp2_with fail
      go_roundw
      case rel => exact ⟨j + 1, _, by go_num, by omega, HO7.out, HB7.out⟩
      case measure => simp [intOf]; omega
    · obtain rfl : j = n := by omega
      rw [HAll.out] at HO
      go_wp2_with fail
      go_ret
      exact ⟨_, us, rfl, HO.out, HBl.out⟩
end Go.Proofs.Ytnkhnfkohnflcaa.Rg
