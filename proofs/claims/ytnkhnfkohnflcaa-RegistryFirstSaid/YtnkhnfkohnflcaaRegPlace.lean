/- place: the closure that compares a schema's name with the one it keeps, slices.IndexFunc by it, and place itself; asked: the schemas lie where the slice says. -/
import Derived.Test.YtnkhnfkohnflcaaRegRefFind
import Derived.Test.YtnkhnfkohnflcaaSchemaMay
namespace Go.Proofs.Ytnkhnfkohnflcaa.Rg
open Go.RowKit Go.Proofs.Ytnkhnfkohnflcaa.BM Go.Proofs.Ytnkhnfkohnflcaa.VaM Go.Proofs.Ytnkhnfkohnflcaa.Va Go.Proofs.Ytnkhnfkohnflcaa.Sc Go.Proofs.Ytnkhnfkohnflcaa.RgM
open Go.Proofs.Ytnkhnfkohnflcaa.ScM (Sc)

/-- A name in a block of its own. -/
def Kept (w : World) (g : Nat) (nm : ByteArray) : Prop := w.cell? ⟨g, 0, none⟩ = some (.string nm)
theorem Kept.kept {w w' : World} {g : Nat} {nm : ByteArray} (h : Kept w g nm) (hb : Below w.heap.size w w') : Kept w' g nm := (hb.cell (p := ⟨g, 0, none⟩) (World.block_lt_of_cell? w _ h)).trans h

set_option maxRecDepth 100000 in
set_option maxHeartbeats 1000000 in
theorem named_any (s nm : ByteArray) (v : Int) (A : Option Addr) (k c g : Nat) (w : World) (hK : Kept w g nm) :
    Calls Try.prog 35 #[.agg #[.string s, .int .i64 v, .slice A k c], .pointer (some ⟨g, 0, none⟩)] w fun e w' => e = .returned (.bool (decide (s = nm))) ∧ Below w.heap.size w w' := by
  have HB := Lib.hid ((Below.refl w.heap.size w).alloc (Nat.le_refl _) (.cells #[.string s, .int .i64 v, .slice A k c] 25))
  have hk1 := hK.kept HB.out
  unfold Kept at hk1
  obtain ⟨⟨p0, p1, p2⟩, _⟩ := bx_new_t w 25 (.string s) (.int .i64 v) (.slice A k c)
  have he : (s.toList == nm.toList) = decide (s = nm) := toList_beq s nm
  obtain ⟨x, hx⟩ : ∃ x, x = decide (s = nm) := ⟨_, rfl⟩
  rw [← hx] at he ⊢
  clear hx hK
  go_enter Try.func35, Try.ntmps35
  go_wp2_with fail
  go_ret
  exact ⟨rfl, HB.out⟩

set_option maxRecDepth 100000 in
set_option maxHeartbeats 2000000 in
theorem IndexFunc_any (l : List Sc) (nm : ByteArray) (A : Option Addr) (c g : Nat) (w : World) (hS : SlS w A l c) (hK : Kept w g nm) :
    Calls Try.prog 34 #[.slice A l.length c, .func (.func 35) #[] #[.pointer (some ⟨g, 0, none⟩)]] w fun e w' => e = .returned (.int .i64 (atI l nm)) ∧ Below w.heap.size w w' := by
  have hl := slS_len hS
  have hyes := fun j => @atI_some l nm j
  have hno := @atI_none l nm
  obtain ⟨R, hR⟩ : ∃ R, R = atI l nm := ⟨_, rfl⟩
  rw [← hR] at hno ⊢
  simp only [← hR] at hyes
  obtain ⟨n, hn⟩ : ∃ n, n = l.length := ⟨_, rfl⟩
  rw [← hn] at hl hno ⊢
  simp only [← hn] at hyes
  have HLen := Lib.hid hn
  have HS := Lib.hid hS
  have HYes := Lib.hid hyes
  have HNo := Lib.hid hno
  have HK := Lib.hid hK
  clear hn hS hyes hno hR hK
  go_enter Try.func34, Try.ntmps34
  go_wp2_with fail
  go_loopw [8] (fun i wr => ∃ j : Nat, i = .int .i64 j ∧ j ≤ n ∧ (∀ r, r < j → (l.getD r s0).s ≠ nm) ∧ Below w.heap.size w wr) (fun i _ => n - (intOf i).toNat)
  case atStart => exact ⟨0, rfl, Nat.zero_le _, fun r hr => absurd hr (Nat.not_lt_zero r), Below.refl _ _⟩
  case round =>
    obtain ⟨j, rfl, hj, hne, hbel⟩ := hrel
    have HNe := Lib.hid hne
    have HBl := Lib.hid hbel
    clear hne hbel
    by_cases hjn : j < n
    · obtain ⟨b, q, A1, c1, hix, hc, _⟩ := HS.out.at j (by rw [← HLen.out]; exact hjn)
      obtain ⟨f, hf⟩ : ∃ f, f = l.getD j s0 := ⟨_, rfl⟩
      obtain ⟨⟨x0, x1, x2⟩, _⟩ := hc wr HBl.out
      rw [← hf] at x0 x1 x2
      have hi := fun W => hix W n c hjn
      have HF := Lib.hid hf
      clear hc hix hf
      obtain ⟨fs, fv, ff⟩ := f
      simp only at x0 x1 x2
      obtain ⟨k, hk⟩ : ∃ k, k = ff.length := ⟨_, rfl⟩
      rw [← hk] at x2
      clear hk
      have HN := Lib.hid (named_any fs nm fv A1 k c1 g wr (HK.out.kept HBl.out))
      go_wp2_with fail
      refine HN.out.mono ?_
      rintro e w2 ⟨rfl, hb2⟩
      have HB2 := Lib.hid (bt HBl.out hb2)
      clear hb2 HN x0 x1 x2
      by_cases he : fs = nm
      · rw [decide_eq_true he]
        have HR := Lib.hid (show (j : Int) = R from (HYes.out j hjn (by rw [← HF.out]; exact he) HNe.out).symm)
        clear he
        go_wp2_with fail
        go_ret
        exact ⟨ret_v (x := .int .i64 (j : Int)) (by rw [HR.out]), HB2.out⟩
      · rw [decide_eq_false he]
        have HE := Lib.hid he
        clear he
        go_wp2_with fail
        go_roundw
        case rel =>
          refine ⟨j + 1, by go_num, by omega, fun r hr => ?_, HB2.out⟩
          by_cases e : r = j
          · rw [e, ← HF.out]
            exact HE.out
          · exact HNe.out r (by omega)
        case measure => simp [intOf]; omega
    · obtain rfl : j = n := by omega
      have HR := Lib.hid (show (-1 : Int) = R from (HNo.out HNe.out).symm)
      go_wp2_with fail
      go_ret
      exact ⟨ret_v (x := .int .i64 (-1)) (by rw [HR.out]), HBl.out⟩

set_option maxRecDepth 100000 in
set_option maxHeartbeats 1000000 in
theorem place_any (l : List Sc) (nm : ByteArray) (A : Option Addr) (c : Nat) (w : World) (hS : SlS w A l c) :
    Calls Try.prog 22 #[.slice A l.length c, .string nm] w fun e w' => e = .returned (.int .i64 (atI l nm)) ∧ Below w.heap.size w w' := by
  have hmf : ∀ (fn : Fn) (first cap : Array Value) (w : World), (Instr.makeFunc fn first cap).run Try.prog w = .ok (.func fn first cap) w := fun _ _ _ _ => rfl
  have hb1 := (Below.refl w.heap.size w).alloc (Nat.le_refl _) (.cells #[.string nm] 9)
  have HI := Lib.hid (IndexFunc_any l nm A c w.heap.size _ (hS.kept hb1) (show Kept (w.alloc (.cells #[.string nm] 9)) w.heap.size nm from by unfold Kept; rw [World.cell?_alloc_at (hn := rfl)]; rfl))
  have HB1 := Lib.hid hb1
  obtain ⟨R, hR⟩ : ∃ R, R = atI l nm := ⟨_, rfl⟩
  rw [← hR] at HI ⊢
  obtain ⟨n, hn⟩ : ∃ n, n = l.length := ⟨_, rfl⟩
  rw [← hn] at HI ⊢
  clear hn hR hS hb1
  go_enter Try.func22, Try.ntmps22
  go_wp2_with fail
  refine HI.out.mono ?_
  rintro e w2 ⟨rfl, hb2⟩
  have HB2 := Lib.hid (bt HB1.out hb2)
  clear hb2 HI
  go_wp2_with fail
  go_ret
  exact ⟨rfl, HB2.out⟩
end Go.Proofs.Ytnkhnfkohnflcaa.Rg
