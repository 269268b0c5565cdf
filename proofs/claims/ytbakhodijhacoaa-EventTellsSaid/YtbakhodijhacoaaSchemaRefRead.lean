/- Read of the document's answers: a text that bytes begin by; asked: the slice reads as bytes. -/
import Derived.Test.YtbakhodijhacoaaBys
import Derived.Test.YtbakhodijhacoaaLeRefGet
import Derived.Test.YtbakhodijhacoaaSlCut
namespace Go.Proofs.Ytbakhodijhacoaa.Sc
open Go.RowKit Go.Proofs.Ytbakhodijhacoaa.BM Go.Proofs.Ytbakhodijhacoaa.LM Go.Proofs.Ytbakhodijhacoaa.LeM Go.Proofs.Ytbakhodijhacoaa.VaM Go.Proofs.Ytbakhodijhacoaa.Va Go.Proofs.Ytbakhodijhacoaa.ScM

/-- The answer of Read, as a value. -/
def gotN : Option (ByteArray × Nat) → Value
  | some (t, m) => .tuple #[.string t, .int .i64 (m : Int), .bool true]
  | none => .tuple #[.string ⟨#[]⟩, .int .i64 0, .bool false]

set_option maxRecDepth 100000 in
set_option maxHeartbeats 1000000 in
theorem refRead_any (A : Option Addr) (xs : List Int) (c : Nat) (w : World) (hx : SlB w A xs c) :
    Calls Try.prog 32 #[.slice A xs.length c, .int .i64 12] w fun e w' => e = .returned (gotN (gN xs)) ∧ Below w.heap.size w w' := by
  have hxc := hx.2.1
  have hmx := hx.2.2.2
  unfold maxLen at hmx
  have hget := LeG.refGet_any A xs c w hxc (by omega) hx.1
  have HX := Lib.hid hx
  cases hg : getS xs with
  | none =>
    have hr : gN xs = none := by unfold gN; simp only [hg]
    rw [hr]
    rw [hg] at hget
    obtain ⟨n, hn⟩ : ∃ n, n = xs.length := ⟨_, rfl⟩
    rw [← hn] at hget ⊢
    have HG := Lib.hid hget
    clear hr hx hn hg hget
    go_enter Try.func32, Try.ntmps32
    go_wp2_with fail
    refine HG.out.mono ?_
    rintro e w1 ⟨rfl, hb⟩
    have HB := Lib.hid hb
    simp only [LeG.gotV]
    clear hb
    go_wp2_with fail
    go_ret3
    exact ⟨ret_v (x := .tuple #[.string ⟨#[]⟩, .int .i64 0, .bool false]) rfl, HB.out⟩
  | some p =>
    obtain ⟨v, u⟩ := p
    obtain ⟨h1, h2, h3⟩ := (getS_iff xs hx.1.1 v u).1 hg
    rw [hg] at hget
    by_cases hv : v ≤ 12
    · by_cases hu : v ≤ xs.length - u
      · have hr : gN xs = some (strOfNums ((xs.drop u).take v), u + v) := by unfold gN; simp only [hg, if_pos (show v ≤ 12 ∧ v ≤ xs.length - u from ⟨hv, hu⟩)]
        rw [hr]
        have hlen : ((xs.drop u).take (u + v - u)).length = v := by rw [List.length_take, List.length_drop]; omega
        have hcut := fun W (hW : Below w.heap.size w W) => Cut.slB_cut (hx.kept hW) u (u + v) c (by omega) (by omega) (Nat.le_refl _) (by omega)
        have hsl := fun W => Cut.slice_2 W A xs.length c u (u + v) (by omega) (by omega)
        have hcv := fun W (hW : Below w.heap.size w W) => conv_any (hcut W hW).1 (c - u) 9 Try.underlying9
        simp only [hlen] at hcv
        simp only [Nat.add_sub_cancel_left] at hcv hsl
        rw [show ((u + v : Nat) : Int) = (u : Int) + (v : Int) from by omega] at hsl
        obtain ⟨S, hS⟩ : ∃ S, S = strOfNums ((xs.drop u).take v) := ⟨_, rfl⟩
        rw [← hS]
        simp only [← hS] at hcv
        have HV := Lib.hid (show gotN (some (S, u + v)) = .tuple #[.string S, .int .i64 ((u : Int) + (v : Int)), .bool true] from by simp only [gotN]; rw [show ((u + v : Nat) : Int) = (u : Int) + (v : Int) from by omega])
        obtain ⟨D, hD⟩ : ∃ D, D = dropA A u c := ⟨_, rfl⟩
        simp only [← hD] at hcv hsl
        obtain ⟨n, hn⟩ : ∃ n, n = xs.length := ⟨_, rfl⟩
        rw [← hn] at hget h2 hu hxc
        simp only [← hn] at hsl
        rw [← hn]
        have HG := Lib.hid hget
        have HCv := Lib.hid hcv
        clear hr hx hn hg hget hS hD hcut hlen h3 h1 hcv
        go_enter Try.func32, Try.ntmps32
        go_wp2_with fail
        refine HG.out.mono ?_
        rintro e w1 ⟨rfl, hb⟩
        have HB := Lib.hid hb
        have hcv1 := HCv.out w1 hb
        simp only [LeG.gotV]
        have hd1 : decide (12 < (v : Int)) = false := by rw [decide_eq_false_iff_not]; omega
        have hd2 : decide ((n : Int) - (u : Int) < (v : Int)) = false := by rw [decide_eq_false_iff_not]; omega
        clear hb
        go_wp2_with fail
        go_ret3
        exact ⟨ret_v (x := .tuple #[.string S, .int .i64 ((u : Int) + (v : Int)), .bool true]) HV.out, HB.out⟩
      · have hr : gN xs = none := by unfold gN; simp only [hg, if_neg (show ¬ (v ≤ 12 ∧ v ≤ xs.length - u) from fun h => hu h.2)]
        rw [hr]
        obtain ⟨n, hn⟩ : ∃ n, n = xs.length := ⟨_, rfl⟩
        rw [← hn] at hget h2 hu hxc
        rw [← hn]
        have HG := Lib.hid hget
        clear hr hx hn hg hget h3 h1
        go_enter Try.func32, Try.ntmps32
        go_wp2_with fail
        refine HG.out.mono ?_
        rintro e w1 ⟨rfl, hb⟩
        have HB := Lib.hid hb
        simp only [LeG.gotV]
        have hd1 : decide (12 < (v : Int)) = false := by rw [decide_eq_false_iff_not]; omega
        have hd2 : decide ((n : Int) - (u : Int) < (v : Int)) = true := by rw [decide_eq_true_iff]; omega
        clear hb
        go_wp2_with fail
        go_ret3
        exact ⟨ret_v (x := .tuple #[.string ⟨#[]⟩, .int .i64 0, .bool false]) rfl, HB.out⟩
    · have hr : gN xs = none := by unfold gN; simp only [hg, if_neg (show ¬ (v ≤ 12 ∧ v ≤ xs.length - u) from fun h => hv h.1)]
      rw [hr]
      obtain ⟨n, hn⟩ : ∃ n, n = xs.length := ⟨_, rfl⟩
      rw [← hn] at hget h2 hxc
      rw [← hn]
      have HG := Lib.hid hget
      clear hr hx hn hg hget h3
      go_enter Try.func32, Try.ntmps32
      go_wp2_with fail
      refine HG.out.mono ?_
      rintro e w1 ⟨rfl, hb⟩
      have HB := Lib.hid hb
      simp only [LeG.gotV]
      clear hb
      go_wp2_with fail
      go_ret3
      exact ⟨ret_v (x := .tuple #[.string ⟨#[]⟩, .int .i64 0, .bool false]) rfl, HB.out⟩
end Go.Proofs.Ytbakhodijhacoaa.Sc
