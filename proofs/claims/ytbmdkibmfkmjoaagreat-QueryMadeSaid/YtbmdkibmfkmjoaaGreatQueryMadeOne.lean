/- QueryMade: for every input the law returns true, and each argument reads afterwards as it read before. No condition.
  The walk is the theorem Go.Proofs.YtbmdkibmfkmjoaaGreat.Qy.made_walk. -/
import Derived.Test.YtbmdkibmfkmjoaaGreatSchemaMath
import Derived.Test.YtbmdkibmfkmjoaaGreatStrCore
import Derived.Laws.RangeAny
import Derived.Test.YtbmdkibmfkmjoaaGreatValueHeld
import Derived.Test.YtbmdkibmfkmjoaaGreatOpRow
import Derived.BigQuiet
import Derived.Test.YtbmdkibmfkmjoaaGreatQueryAg
import Derived.Test.YtbmdkibmfkmjoaaGreatChC
import Derived.Test.YtbmdkibmfkmjoaaGreatRows
import Derived.WalkKit
import Derived.ProofKit
import Derived.OpenShut
import Derived.ShutString
import Derived.ChangeOld
import Derived.Below

namespace Go.Proofs.YtbmdkibmfkmjoaaGreat.Sc
open Go.RowKit Go.Proofs.YtbmdkibmfkmjoaaGreat.BM Go.Proofs.YtbmdkibmfkmjoaaGreat.VaM Go.Proofs.YtbmdkibmfkmjoaaGreat.Va Go.Proofs.YtbmdkibmfkmjoaaGreat.ScM

/-- The order of the document's answers: byte by byte. -/
theorem refOk {x : Int} : (smallB x = true ↔ 97 ≤ x ∧ x ≤ 122) ∧ (behB x = true ↔ x = 95 ∨ (48 ≤ x ∧ x ≤ 57)) := by
  simp [smallB, behB]

set_option maxRecDepth 100000 in
theorem refName_any (s : ByteArray) (w : World) (hs : s.size ≤ maxLen) : Calls Tryz.prog 75 #[.string s] w fun e w' => e = .returned (.bool (decide (Nm s))) ∧ w = w' := by
  unfold maxLen at hs
  go_enter Tryz.func75, Tryz.ntmps75
  go_wp2_with fail
  go_loop [3] (fun i => ∃ pos : Nat, i = .int .i64 pos ∧ pos ≤ s.size ∧ okPre (bl s) pos) (fun i => s.size - (intOf i).toNat)
  case atStart => exact ⟨0, rfl, Nat.zero_le _, fun j hj => absurd hj (Nat.not_lt_zero j)⟩
  case round =>
    obtain ⟨pos, rfl, hpos, hpre⟩ := hrel
    have HPre := Lib.hid hpre
    clear hpre
    by_cases hp : pos < s.size
    · have hix := fun W => index_s s pos hp W
      obtain ⟨x, hx⟩ : ∃ x, x = (bl s).getD pos 0 := ⟨_, rfl⟩
      rw [← hx] at hix
      have no : ¬ (97 ≤ x ∧ x ≤ 122) → (pos = 0 ∨ ¬ (x = 95 ∨ (48 ≤ x ∧ x ≤ 57))) → ¬ Nm s := fun h1 h2 hn => by
        have h := hn.2.2 pos (by rw [bl_len]; exact hp)
        unfold okAt at h
        rw [← hx, refOk.1, refOk.2] at h
        rcases h with h | ⟨h3, h4⟩
        · exact h1 h
        · rcases h2 with h2 | h2
          · exact h3 h2
          · exact h2 h4
      have yes : ((97 ≤ x ∧ x ≤ 122) ∨ (pos ≠ 0 ∧ (x = 95 ∨ (48 ≤ x ∧ x ≤ 57)))) → okPre (bl s) (pos + 1) := fun h => okPre_succ HPre.out (by unfold okAt; rw [← hx, refOk.1, refOk.2]; exact h)
      have HNo := Lib.hid no
      have HYes := Lib.hid yes
      clear no yes hx
      have hways : (97 ≤ x ∧ x ≤ 122) ∨ (x < 97 ∧ pos = 0) ∨ (122 < x ∧ pos = 0) ∨ (122 < x ∧ pos ≠ 0) ∨ (x = 95 ∧ pos ≠ 0) ∨ (x < 48 ∧ pos ≠ 0) ∨ (57 < x ∧ x < 97 ∧ x ≠ 95 ∧ pos ≠ 0) ∨ (48 ≤ x ∧ x ≤ 57 ∧ pos ≠ 0) := by omega
      rcases hways with ⟨h1, h2⟩ | ⟨h1, h2⟩ | ⟨h1, h2⟩ | ⟨h1, h2⟩ | ⟨rfl, h2⟩ | ⟨h1, h2⟩ | ⟨h1, h2, h3, h4⟩ | ⟨h1, h2, h3⟩
      · go_wp2_with fail
        go_round
        case rel => exact ⟨pos + 1, by go_num, by omega, HYes.out (Or.inl ⟨h1, h2⟩)⟩
        case measure => simp [intOf]; omega
      · have hz : ((pos : Int) == 0) = true := by rw [beq_iff_eq]; omega
        have H2 := Lib.hid h2
        clear h2
        go_wp2_with fail
        go_ret
        exact ⟨ret_v (x := .bool false) (by rw [decide_eq_false (HNo.out (by omega) (Or.inl H2.out))]), rfl⟩
      · have hz : ((pos : Int) == 0) = true := by rw [beq_iff_eq]; omega
        have h97 : 97 ≤ x := by omega
        have hd : decide (x ≤ 122) = false := by rw [decide_eq_false_iff_not]; omega
        have H2 := Lib.hid h2
        clear h2
        go_wp2_with fail
        go_ret
        exact ⟨ret_v (x := .bool false) (by rw [decide_eq_false (HNo.out (by omega) (Or.inl H2.out))]), rfl⟩
      · have hz : ((pos : Int) == 0) = false := by rw [beq_eq_false_iff_ne]; omega
        have hn : (x != 95) = true := by rw [bne_iff_ne]; omega
        have h3 : 97 ≤ x := by omega
        have h4 : 57 < x := by omega
        have h5 : 48 ≤ x := by omega
        have hd : decide (x ≤ 122) = false := by rw [decide_eq_false_iff_not]; omega
        go_wp2_with fail
        go_ret
        exact ⟨ret_v (x := .bool false) (by rw [decide_eq_false (HNo.out (by omega) (Or.inr (by omega)))]), rfl⟩
      · have hz : ((pos : Int) == 0) = false := by rw [beq_eq_false_iff_ne]; omega
        go_wp2_with fail
        go_round
        case rel => exact ⟨pos + 1, by go_num, by omega, HYes.out (Or.inr ⟨h2, Or.inl rfl⟩)⟩
        case measure => simp [intOf]; omega
      · have hz : ((pos : Int) == 0) = false := by rw [beq_eq_false_iff_ne]; omega
        have hn : (x != 95) = true := by rw [bne_iff_ne]; omega
        go_wp2_with fail
        go_ret
        exact ⟨ret_v (x := .bool false) (by rw [decide_eq_false (HNo.out (by omega) (Or.inr (by omega)))]), rfl⟩
      · have hz : ((pos : Int) == 0) = false := by rw [beq_eq_false_iff_ne]; omega
        have hn : (x != 95) = true := by rw [bne_iff_ne]; omega
        go_wp2_with fail
        go_ret
        exact ⟨ret_v (x := .bool false) (by rw [decide_eq_false (HNo.out (by omega) (Or.inr (by omega)))]), rfl⟩
      · have hz : ((pos : Int) == 0) = false := by rw [beq_eq_false_iff_ne]; omega
        have hn : (x != 95) = true := by rw [bne_iff_ne]; omega
        go_wp2_with fail
        go_round
        case rel => exact ⟨pos + 1, by go_num, by omega, HYes.out (Or.inr ⟨h3, Or.inr ⟨h1, h2⟩⟩)⟩
        case measure => simp [intOf]; omega
    · obtain rfl : pos = s.size := by omega
      by_cases h0 : s.size = 0
      · obtain rfl := size_e0.1 h0
        go_wp2_with fail
        go_ret
        exact ⟨ret_v (x := .bool false) (by rw [decide_eq_false (fun h => by have := (nm_size h).1; rw [e0_size] at this; omega)]), rfl⟩
      · have hd : decide (Nm s) = decide ((s.size : Int) ≤ 12) := by
          rw [decide_eq_decide]
          exact ⟨fun h => by have := (nm_size h).2; omega, fun h => ⟨by rw [bl_len]; omega, by rw [bl_len]; omega, by rw [bl_len]; exact HPre.out⟩⟩
        have HD := Lib.hid hd
        clear hd
        go_wp2_with fail
        go_ret
        exact ⟨ret_v (x := .bool (decide ((s.size : Int) ≤ 12))) (by rw [HD.out]), rfl⟩
end Go.Proofs.YtbmdkibmfkmjoaaGreat.Sc

namespace Go.Proofs.YtbmdkibmfkmjoaaGreat.Va
open Go.RowKit Go.Proofs.YtbmdkibmfkmjoaaGreat.BM Go.Proofs.YtbmdkibmfkmjoaaGreat.VaM

set_option maxRecDepth 100000 in
set_option maxHeartbeats 1000000 in
theorem refMay_any (k n : Int) (s : ByteArray) (w : World) :
    Calls Tryz.prog 82 #[.agg #[.int .i64 k, .int .i64 n, .string s]] w fun e w' => e = .returned (.bool (decide (May ⟨k, n, s⟩))) ∧ Below w.heap.size w w' := by
  have HB := Lib.hid ((Below.refl w.heap.size w).alloc (Nat.le_refl _) (.cells #[.int .i64 k, .int .i64 n, .string s] 78))
  have yes : May ⟨k, n, s⟩ → decide (May ⟨k, n, s⟩) = true := fun h => decide_eq_true h
  have no : ¬ May ⟨k, n, s⟩ → decide (May ⟨k, n, s⟩) = false := fun h => decide_eq_false h
  rcases heldWays k n s with ⟨rfl, rfl, hz⟩ | ⟨h, hz⟩ | ⟨rfl, hn, rfl⟩ | ⟨rfl, rfl⟩ | ⟨rfl, rfl, rfl⟩ | ⟨rfl, rfl, rfl⟩ | ⟨rfl, hn, hm, rfl⟩ | ⟨rfl, hn, hm, rfl⟩ | ⟨rfl, hn, rfl⟩ | ⟨rfl, hn, hm, rfl⟩ | ⟨h0, h1, h2, h3, rfl⟩
  · have HV := Lib.hid (yes (Or.inl ⟨rfl, rfl, hz⟩))
    have h40 : decide ((s.size : Int) ≤ 40) = true := by rw [decide_eq_true_iff]; omega
    clear yes no
    go_enter Tryz.func82, Tryz.ntmps82
    go_wp2_with fail
    go_ret
    exact ⟨ret_v (x := .bool true) (by rw [HV.out]), HB.out⟩
  · have hm : ¬ May ⟨k, n, s⟩ := by
      intro hm
      rcases hm with ⟨h1, h2, h3⟩ | ⟨h0, _⟩
      · simp only at h1 h2 h3
        omega
      · exact hz h0
    have HV := Lib.hid (no hm)
    have hs0 := str_e0 hz
    clear hm yes no
    by_cases hk : k = 2
    · subst hk
      by_cases hn : n = 0
      · subst hn
        have h40 : ¬ s.size ≤ 40 := by omega
        have h40' : decide ((s.size : Int) ≤ 40) = false := by rw [decide_eq_false_iff_not]; omega
        clear h hz
        go_enter Tryz.func82, Tryz.ntmps82
        go_wp2_with fail
        go_ret
        exact ⟨ret_v (x := .bool false) (by rw [HV.out]), HB.out⟩
      · have hn0 : (n == 0) = false := by simpa using hn
        clear h hz
        go_enter Tryz.func82, Tryz.ntmps82
        go_wp2_with fail
        go_ret
        exact ⟨ret_v (x := .bool false) (by rw [HV.out]), HB.out⟩
    · clear h hz
      go_enter Tryz.func82, Tryz.ntmps82
      go_wp2_with fail
      go_ret
      exact ⟨ret_v (x := .bool false) (by rw [HV.out]), HB.out⟩
  · have HV := Lib.hid (no (fun hm => by
      rcases hm with ⟨h1, h2, h3⟩ | ⟨h0, h | h | h⟩ <;> simp only at * <;> omega))
    have hn0 : (n == 0) = false := by simpa using hn
    clear yes no
    unfold e0 at *
    go_enter Tryz.func82, Tryz.ntmps82
    go_wp2_with fail
    go_ret
    exact ⟨ret_v (x := .bool false) (by rw [HV.out]), HB.out⟩
  · have HV := Lib.hid (yes (Or.inr ⟨rfl, Or.inl rfl⟩))
    clear yes no
    unfold e0 at *
    go_enter Tryz.func82, Tryz.ntmps82
    go_wp2_with fail
    go_ret
    exact ⟨ret_v (x := .bool true) (by rw [HV.out]), HB.out⟩
  · have HV := Lib.hid (yes (Or.inr ⟨rfl, Or.inr (Or.inl ⟨rfl, Or.inl rfl⟩)⟩))
    clear yes no
    unfold e0 at *
    go_enter Tryz.func82, Tryz.ntmps82
    go_wp2_with fail
    go_ret
    exact ⟨ret_v (x := .bool true) (by rw [HV.out]), HB.out⟩
  · have HV := Lib.hid (yes (Or.inr ⟨rfl, Or.inr (Or.inl ⟨rfl, Or.inr rfl⟩)⟩))
    clear yes no
    unfold e0 at *
    go_enter Tryz.func82, Tryz.ntmps82
    go_wp2_with fail
    go_ret
    exact ⟨ret_v (x := .bool true) (by rw [HV.out]), HB.out⟩
  · have HV := Lib.hid (no (fun hm => by
      rcases hm with ⟨h1, h2, h3⟩ | ⟨h0, h | h | h⟩ <;> simp only at * <;> omega))
    have b0 : (n == 0) = false := by simpa using hn
    have b1 : (n == 1) = false := by simpa using hm
    clear yes no
    unfold e0 at *
    go_enter Tryz.func82, Tryz.ntmps82
    go_wp2_with fail
    go_ret
    exact ⟨ret_v (x := .bool false) (by rw [HV.out]), HB.out⟩
  · have HV := Lib.hid (yes (Or.inr ⟨rfl, Or.inr (Or.inr ⟨rfl, hn, hm⟩)⟩))
    have b0 : decide (0 ≤ n) = true := by simpa using hn
    have b1 : decide (n ≤ 1125899906842624) = true := by simpa using hm
    clear yes no
    unfold e0 at *
    go_enter Tryz.func82, Tryz.ntmps82
    go_wp2_with fail
    go_ret
    exact ⟨ret_v (x := .bool true) (by rw [HV.out]), HB.out⟩
  · have HV := Lib.hid (no (fun hm => by
      rcases hm with ⟨h1, h2, h3⟩ | ⟨h0, h | h | h⟩ <;> simp only at * <;> omega))
    have b0 : decide (0 ≤ n) = false := by rw [decide_eq_false_iff_not]; omega
    clear yes no
    unfold e0 at *
    go_enter Tryz.func82, Tryz.ntmps82
    go_wp2_with fail
    go_ret
    exact ⟨ret_v (x := .bool false) (by rw [HV.out]), HB.out⟩
  · have HV := Lib.hid (no (fun hm => by
      rcases hm with ⟨h1, h2, h3⟩ | ⟨h0, h | h | h⟩ <;> simp only at * <;> omega))
    have b0 : decide (0 ≤ n) = true := by simpa using hn
    have b1 : decide (n ≤ 1125899906842624) = false := by rw [decide_eq_false_iff_not]; omega
    clear yes no
    unfold e0 at *
    go_enter Tryz.func82, Tryz.ntmps82
    go_wp2_with fail
    go_ret
    exact ⟨ret_v (x := .bool false) (by rw [HV.out]), HB.out⟩
  · have HV := Lib.hid (no (fun hm => by
      rcases hm with ⟨h1, h2, h3⟩ | ⟨h0, h | h | h⟩ <;> simp only at * <;> omega))
    clear yes no
    unfold e0 at *
    go_enter Tryz.func82, Tryz.ntmps82
    go_wp2_with fail
    go_ret
    exact ⟨ret_v (x := .bool false) (by rw [HV.out]), HB.out⟩
end Go.Proofs.YtbmdkibmfkmjoaaGreat.Va

namespace Go.Proofs.YtbmdkibmfkmjoaaGreat.Ex
open Go.RowKit Go.Proofs.YtbmdkibmfkmjoaaGreat.BM Go.Proofs.YtbmdkibmfkmjoaaGreat.VaM Go.Proofs.YtbmdkibmfkmjoaaGreat.Va Go.Proofs.YtbmdkibmfkmjoaaGreat.ExM Go.Proofs.YtbmdkibmfkmjoaaGreat.EvM

/-- Whether a part may be, by its questions one by one. -/
theorem ok_iff {x : O} {b1 b2 b3 b4 b5 b6 b7 b8 b9 : Bool} (g1 : decide (x.c < 0) = b1) (g2 : decide (10 ≤ x.c) = b2) (g3 : decide (x.a < 0) = b3) (g4 : decide (6 ≤ x.a) = b4) (g5 : (x.c != 1) = b5) (g6 : (x.a != 0) = b6) (g7 : decide (VaM.May x.v) = b7) (g8 : (x.c != 0) = b8) (g9 : (!same x.v v0) = b9) :
    Ok x ↔ b1 = false ∧ b2 = false ∧ b3 = false ∧ b4 = false ∧ (b5 = false ∨ b6 = false) ∧ b7 = true ∧ (b8 = false ∨ b9 = false) := by
  subst g1 g2 g3 g4 g5 g6 g7 g8 g9
  have h9 : (!same x.v v0) = false ↔ x.v = v0 := by rw [Bool.not_eq_false', same_iff]
  unfold Ok
  rw [h9]
  simp only [decide_eq_false_iff_not, decide_eq_true_iff, bne_eq_false_iff_eq]
  constructor
  · rintro ⟨h1, h2, h3, h4, h5, h6, h7⟩
    exact ⟨by omega, by omega, by omega, by omega, h5, h6, h7⟩
  · rintro ⟨h1, h2, h3, h4, h5, h6, h7⟩
    exact ⟨by omega, by omega, by omega, by omega, h5, h6, h7⟩

theorem okWays (b1 b2 b3 b4 b5 b6 b7 b8 b9 : Bool) :
    (b1 = true ∨ (b1 = false ∧ b2 = true) ∨ (b1 = false ∧ b2 = false ∧ b3 = true) ∨ (b1 = false ∧ b2 = false ∧ b3 = false ∧ b4 = true) ∨
      (b1 = false ∧ b2 = false ∧ b3 = false ∧ b4 = false ∧ b5 = true ∧ b6 = true) ∨
      (b1 = false ∧ b2 = false ∧ b3 = false ∧ b4 = false ∧ b5 = false ∧ b7 = false) ∨
      (b1 = false ∧ b2 = false ∧ b3 = false ∧ b4 = false ∧ b5 = true ∧ b6 = false ∧ b7 = false) ∨
      (b1 = false ∧ b2 = false ∧ b3 = false ∧ b4 = false ∧ b5 = false ∧ b7 = true ∧ b8 = true ∧ b9 = true) ∨
      (b1 = false ∧ b2 = false ∧ b3 = false ∧ b4 = false ∧ b5 = true ∧ b6 = false ∧ b7 = true ∧ b8 = true ∧ b9 = true)) ∨
    ((b1 = false ∧ b2 = false ∧ b3 = false ∧ b4 = false ∧ b5 = false ∧ b7 = true ∧ b8 = false) ∨
      (b1 = false ∧ b2 = false ∧ b3 = false ∧ b4 = false ∧ b5 = false ∧ b7 = true ∧ b8 = true ∧ b9 = false) ∨
      (b1 = false ∧ b2 = false ∧ b3 = false ∧ b4 = false ∧ b5 = true ∧ b6 = false ∧ b7 = true ∧ b8 = false) ∨
      (b1 = false ∧ b2 = false ∧ b3 = false ∧ b4 = false ∧ b5 = true ∧ b6 = false ∧ b7 = true ∧ b8 = true ∧ b9 = false)) := by
  cases b1 <;> cases b2 <;> cases b3 <;> cases b4 <;> cases b5 <;> cases b6 <;> cases b7 <;> cases b8 <;> cases b9 <;> simp

set_option maxRecDepth 100000 in
set_option maxHeartbeats 8000000 in
theorem refMay_any (l : List O) (A : Option Addr) (c : Nat) (w : World) (hS : SlO w A l c) :
    Calls Tryz.prog 52 #[.slice A l.length c] w fun e w' => e = .returned (.bool (decide (May l))) ∧ Below w.heap.size w w' := by
  have hl := slO_len hS
  have hmay : May l ↔ (∀ i, i < l.length → Ok (l.getD i o0)) ∧ l.length ≤ 12 := Iff.rfl
  obtain ⟨n, hn⟩ : ∃ n, n = l.length := ⟨_, rfl⟩
  rw [← hn] at hl hmay ⊢
  have HLen := Lib.hid hn
  have HS := Lib.hid hS
  have HMay := Lib.hid hmay
  clear hn hS hmay
  go_enter Tryz.func52, Tryz.ntmps52
  go_wp2_with fail
  go_loopw [3] (fun i wr => ∃ j : Nat, i = .int .i64 j ∧ j ≤ n ∧ (∀ r, r < j → Ok (l.getD r o0)) ∧ Below w.heap.size w wr) (fun i _ => n - (intOf i).toNat)
  case atStart => exact ⟨0, rfl, Nat.zero_le _, fun r hr => absurd hr (Nat.not_lt_zero r), Below.refl _ _⟩
  case round =>
    obtain ⟨j, rfl, hj, hall, hbel⟩ := hrel
    have HAl := Lib.hid hall
    have HBl := Lib.hid hbel
    clear hall hbel
    by_cases hjn : j < n
    · obtain ⟨b, q, hix, hc, _⟩ := HS.out.at j (by rw [← HLen.out]; exact hjn)
      obtain ⟨f, hf⟩ : ∃ f, f = l.getD j o0 := ⟨_, rfl⟩
      rw [← hf] at hc
      obtain ⟨x0, x1, x2, x3, x4⟩ := hc wr HBl.out
      have hi := fun W => hix W n c hjn
      have HF := Lib.hid hf
      clear hc hix hf
      have ha := (Below.refl wr.heap.size wr).alloc (Nat.le_refl _) (.cells #[.int .i64 f.c, .int .i64 f.a, .int .i64 f.v.k, .int .i64 f.v.n, .string f.v.s] 80)
      have hx2 := bxO_new wr f
      have hneq := fun W => neq_v f.v.k f.v.n 0 0 f.v.s ⟨#[]⟩ W
      obtain ⟨b1, g1⟩ : ∃ b, decide (f.c < 0) = b := ⟨_, rfl⟩
      obtain ⟨b2, g2⟩ : ∃ b, decide (10 ≤ f.c) = b := ⟨_, rfl⟩
      obtain ⟨b3, g3⟩ : ∃ b, decide (f.a < 0) = b := ⟨_, rfl⟩
      obtain ⟨b4, g4⟩ : ∃ b, decide (6 ≤ f.a) = b := ⟨_, rfl⟩
      obtain ⟨b5, g5⟩ : ∃ b, (f.c != 1) = b := ⟨_, rfl⟩
      obtain ⟨b6, g6⟩ : ∃ b, (f.a != 0) = b := ⟨_, rfl⟩
      obtain ⟨b7, g7⟩ : ∃ b, decide (VaM.May f.v) = b := ⟨_, rfl⟩
      obtain ⟨b8, g8⟩ : ∃ b, (f.c != 0) = b := ⟨_, rfl⟩
      obtain ⟨b9, g9⟩ : ∃ b, (!same f.v v0) = b := ⟨_, rfl⟩
      have HOk := Lib.hid (ok_iff g1 g2 g3 g4 g5 g6 g7 g8 g9)
      have hm := fun W => Va.refMay_any f.v.k f.v.n f.v.s W
      obtain ⟨fc, fa, fk, fn, fs⟩ := f
      simp only at x0 x1 x2 x3 x4 hneq g1 g2 g3 g4 g5 g6 g7 g8 g9 hm
      simp only [g7] at hm
      have h9 : (!same (⟨fk, fn, fs⟩ : V) ⟨0, 0, ⟨#[]⟩⟩) = b9 := g9
      simp only [h9] at hneq
      have HX2 := Lib.hid hx2
      have HB2 := Lib.hid (bt HBl.out ha)
      have HM := Lib.hid hm
      have G1 := Lib.hid g1
      have G2 := Lib.hid g2
      have G3 := Lib.hid g3
      have G4 := Lib.hid g4
      have G5 := Lib.hid g5
      have G6 := Lib.hid g6
      have G8 := Lib.hid g8
      have HNq := Lib.hid hneq
      clear ha hm hx2 g1 g2 g3 g4 g5 g6 g7 g8 g9 h9 hneq
      obtain ⟨p0, p1, p2, p3, p4⟩ := HX2.out.cells
      simp only at p0 p1 p2 p3 p4
      go_wp2_with fail
      obtain ⟨w2, hw2⟩ : ∃ w2, w2 = wr.alloc (.cells #[.int .i64 fc, .int .i64 fa, .int .i64 fk, .int .i64 fn, .string fs] 80) := ⟨_, rfl⟩
      obtain ⟨g, hg⟩ : ∃ g, g = wr.heap.size := ⟨_, rfl⟩
      rw [← hw2] at HX2 HB2 ⊢
      rw [← hg] at HX2 ⊢
      clear hw2 hg x0 x1 x2 x3 x4 p0 p1 p2 p3 p4
      refine (HM.out w2).mono ?_
      rintro e w3 ⟨rfl, hb3⟩
      have HB3 := Lib.hid (bt HB2.out hb3)
      have HX3 := Lib.hid (HX2.out.kept hb3)
      clear hb3 HB2 HX2 HM
      obtain ⟨p0, p1, p2, p3, p4⟩ := HX3.out.cells
      simp only at p0 p1 p2 p3 p4
      have g1 := G1.out
      have g2 := G2.out
      have g3 := G3.out
      have g4 := G4.out
      have g5 := G5.out
      have g6 := G6.out
      have g8 := G8.out
      have hneq := HNq.out
      clear G1 G2 G3 G4 G5 G6 G8 HNq
      rcases okWays b1 b2 b3 b4 b5 b6 b7 b8 b9 with h | h
      · have HNo := Lib.hid (show ¬ May l from fun k => by
          have h1 := (HMay.out.1 k).1 j hjn
          rw [← HF.out] at h1
          obtain ⟨k1, k2, k3, k4, k5, k6, k7⟩ := HOk.out.1 h1
          revert h
          subst k1 k2 k3 k4 k6
          rcases k5 with rfl | rfl <;> rcases k7 with rfl | rfl <;> simp)
        clear HOk
        rcases h with rfl | ⟨rfl, rfl⟩ | ⟨rfl, rfl, rfl⟩ | ⟨rfl, rfl, rfl, rfl⟩ | ⟨rfl, rfl, rfl, rfl, rfl, rfl⟩ | ⟨rfl, rfl, rfl, rfl, rfl, rfl⟩ | ⟨rfl, rfl, rfl, rfl, rfl, rfl, rfl⟩ | ⟨rfl, rfl, rfl, rfl, rfl, rfl, rfl, rfl⟩ | ⟨rfl, rfl, rfl, rfl, rfl, rfl, rfl, rfl, rfl⟩
        all_goals
          go_wp2_with fail
          go_ret
          exact ⟨ret_v (x := .bool false) (by rw [decide_eq_false HNo.out]), HB3.out⟩
      · have HY := Lib.hid (show Ok ⟨fc, fa, fk, fn, fs⟩ from HOk.out.2 (by rcases h with ⟨rfl, rfl, rfl, rfl, rfl, rfl, rfl⟩ | ⟨rfl, rfl, rfl, rfl, rfl, rfl, rfl, rfl⟩ | ⟨rfl, rfl, rfl, rfl, rfl, rfl, rfl, rfl⟩ | ⟨rfl, rfl, rfl, rfl, rfl, rfl, rfl, rfl, rfl⟩ <;> simp))
        have HGo := Lib.hid (show ∀ r, r < j + 1 → Ok (l.getD r o0) from fun r hr => by
          by_cases e : r = j
          · rw [e, ← HF.out]
            exact HY.out
          · exact HAl.out r (by omega))
        clear HOk HY
        rcases h with ⟨rfl, rfl, rfl, rfl, rfl, rfl, rfl⟩ | ⟨rfl, rfl, rfl, rfl, rfl, rfl, rfl, rfl⟩ | ⟨rfl, rfl, rfl, rfl, rfl, rfl, rfl, rfl⟩ | ⟨rfl, rfl, rfl, rfl, rfl, rfl, rfl, rfl, rfl⟩
        all_goals
          go_wp2_with fail
          go_roundw
          case rel => exact ⟨j + 1, by go_num, by omega, HGo.out, HB3.out⟩
          case measure => simp [intOf]; omega
    · obtain rfl : j = n := by omega
      by_cases h12 : j ≤ 12
      · have hd : decide ((j : Int) ≤ 12) = true := by rw [decide_eq_true_iff]; omega
        have HY := Lib.hid (HMay.out.2 ⟨HAl.out, h12⟩)
        clear h12
        go_wp2_with fail
        go_ret
        exact ⟨ret_v (x := .bool true) (by rw [decide_eq_true HY.out]), HBl.out⟩
      · have hd : decide ((j : Int) ≤ 12) = false := by rw [decide_eq_false_iff_not]; omega
        have HNo := Lib.hid (show ¬ May l from fun h => h12 (HMay.out.1 h).2)
        clear h12
        go_wp2_with fail
        go_ret
        exact ⟨ret_v (x := .bool false) (by rw [decide_eq_false HNo.out]), HBl.out⟩
end Go.Proofs.YtbmdkibmfkmjoaaGreat.Ex

namespace Go.Proofs.YtbmdkibmfkmjoaaGreat.Qy
open Go.RowKit Go.Proofs.YtbmdkibmfkmjoaaGreat.BM Go.Proofs.YtbmdkibmfkmjoaaGreat.LM Go.Proofs.YtbmdkibmfkmjoaaGreat.VaM Go.Proofs.YtbmdkibmfkmjoaaGreat.ExM Go.Proofs.YtbmdkibmfkmjoaaGreat.QyM
open Go.Proofs.YtbmdkibmfkmjoaaGreat.Ex (SlO slO_none slO_len)
open Go.Proofs.YtbmdkibmfkmjoaaGreat.Va (ret_v str_e0)
open Go.Proofs.YtbmdkibmfkmjoaaGreat.ScM (Nm)

/-- Whether a step is well made, by its questions one by one. -/
theorem stOk_iff {x : St} {b1 b2 nm my c1 c2 c3 c4 nt mh : Bool} {te he : Bool} (g1 : decide (Nm x.s) = nm) (g2 : decide (ExM.May x.f) = my) (g3 : decide (x.lo < 1) = c1) (g4 : decide (x.hi < x.lo) = c2) (g5 : decide (4 < x.hi) = c3) (g6 : (x.lo != x.hi) = c4)
    (g7 : decide (Nm x.t) = nt) (g8 : decide (ExM.May x.h) = mh) (g9 : decide (x.t = e0) = te) (g10 : decide (x.h.length = 0) = he) :
    StOk x (b1 = true) (b2 = true) ↔ nm = true ∧ my = true ∧ c1 = false ∧ c2 = false ∧ c3 = false ∧ (b2 = false ∨ c4 = false) ∧ (x.g = false → te = true ∧ he = true) ∧ (x.g = true → b1 = false ∧ nt = true ∧ mh = true) := by
  subst g1 g2 g3 g4 g5 g6 g7 g8 g9 g10
  unfold StOk
  simp only [decide_eq_true_iff, decide_eq_false_iff_not, bne_eq_false_iff_eq, List.length_eq_zero_iff, Bool.not_eq_true]
  constructor
  · rintro ⟨h1, h2, h3, h4, h5, h6, h7, h8⟩
    refine ⟨h1, h2, by omega, by omega, by omega, ?_, h7, h8⟩
    cases b2
    · exact Or.inl rfl
    · exact Or.inr (h6 rfl)
  · rintro ⟨h1, h2, h3, h4, h5, h6, h7, h8⟩
    refine ⟨h1, h2, by omega, by omega, by omega, fun e => ?_, h7, h8⟩
    rcases h6 with h6 | h6
    · rw [h6] at e
      cases e
    · exact h6

theorem stWays (nm my c1 c2 c3 last c4 : Bool) :
    (nm = false ∨ (nm = true ∧ my = false) ∨ (nm = true ∧ my = true ∧ c1 = true) ∨ (nm = true ∧ my = true ∧ c1 = false ∧ c2 = true) ∨ (nm = true ∧ my = true ∧ c1 = false ∧ c2 = false ∧ c3 = true) ∨ (nm = true ∧ my = true ∧ c1 = false ∧ c2 = false ∧ c3 = false ∧ last = true ∧ c4 = true)) ∨
    ((nm = true ∧ my = true ∧ c1 = false ∧ c2 = false ∧ c3 = false ∧ last = false) ∨ (nm = true ∧ my = true ∧ c1 = false ∧ c2 = false ∧ c3 = false ∧ last = true ∧ c4 = false)) := by
  cases nm <;> cases my <;> cases c1 <;> cases c2 <;> cases c3 <;> cases last <;> cases c4 <;> simp

set_option maxRecDepth 100000 in
set_option maxHeartbeats 8000000 in
theorem refStep_any (x : St) (b1 b2 : Bool) (A : Option Addr) (c : Nat) (B : Option Addr) (d : Nat) (w : World) (hA : SlO w A x.f c) (hB : SlO w B x.h d) (hz : FineSt x) :
    Calls Tryz.prog 45 #[agSt x A c B d, .bool b1, .bool b2] w fun e w' => e = .returned (.bool (decide (StOk x (b1 = true) (b2 = true)))) ∧ Below w.heap.size w w' := by
  have hn1 := fun W => Sc.refName_any x.s W hz.1.1
  have hn2 := fun W => Sc.refName_any x.t W hz.1.2
  have hm1 := fun W (h : Below w.heap.size w W) => Ex.refMay_any x.f A c W (hA.kept h)
  have hm2 := fun W (h : Below w.heap.size w W) => Ex.refMay_any x.h B d W (hB.kept h)
  obtain ⟨nm, g1⟩ : ∃ b, decide (Nm x.s) = b := ⟨_, rfl⟩
  obtain ⟨my, g2⟩ : ∃ b, decide (ExM.May x.f) = b := ⟨_, rfl⟩
  obtain ⟨q1, g3⟩ : ∃ b, decide (x.lo < 1) = b := ⟨_, rfl⟩
  obtain ⟨q2, g4⟩ : ∃ b, decide (x.hi < x.lo) = b := ⟨_, rfl⟩
  obtain ⟨q3, g5⟩ : ∃ b, decide (4 < x.hi) = b := ⟨_, rfl⟩
  obtain ⟨q4, g6⟩ : ∃ b, (x.lo != x.hi) = b := ⟨_, rfl⟩
  obtain ⟨nt, g7⟩ : ∃ b, decide (Nm x.t) = b := ⟨_, rfl⟩
  obtain ⟨mh, g8⟩ : ∃ b, decide (ExM.May x.h) = b := ⟨_, rfl⟩
  obtain ⟨te, g9⟩ : ∃ b, decide (x.t = e0) = b := ⟨_, rfl⟩
  obtain ⟨he, g10⟩ : ∃ b, decide (x.h.length = 0) = b := ⟨_, rfl⟩
  have hiff := stOk_iff (b1 := b1) (b2 := b2) g1 g2 g3 g4 g5 g6 g7 g8 g9 g10
  simp only [g1] at hn1
  simp only [g7] at hn2
  simp only [g2] at hm1
  simp only [g8] at hm2
  obtain ⟨R, hR⟩ : ∃ R, R = decide (StOk x (b1 = true) (b2 = true)) := ⟨_, rfl⟩
  rw [← hR]
  have hr : R = true ↔ nm = true ∧ my = true ∧ q1 = false ∧ q2 = false ∧ q3 = false ∧ (b2 = false ∨ q4 = false) ∧ (x.g = false → te = true ∧ he = true) ∧ (x.g = true → b1 = false ∧ nt = true ∧ mh = true) := by rw [hR, decide_eq_true_iff, hiff]
  have g11 : x.t.toList.isEmpty = te := by rw [← g9]; exact e0_iff x.t
  have g12 : ((x.h.length : Int) == 0) = he := by
    rw [← g10, Bool.eq_iff_iff, beq_iff_eq, decide_eq_true_iff]
    omega
  have hX := (bxSt_new w x A c B d).cells
  have ha := (Below.refl w.heap.size w).alloc (Nat.le_refl _) (.cells #[.string x.s, .slice A x.f.length c, .int .i64 x.lo, .int .i64 x.hi, .bool x.g, .string x.t, .slice B x.h.length d] 47)
  obtain ⟨xs, xf, lo, hi, xg, xt, xh⟩ := x
  unfold agSt
  unfold CellSt at hX
  simp only at hn1 hn2 hm1 hm2 g3 g4 g5 g6 g11 g12 hr hX ha ⊢
  obtain ⟨n1, hn1'⟩ : ∃ n, n = xf.length := ⟨_, rfl⟩
  obtain ⟨n2, hn2'⟩ : ∃ n, n = xh.length := ⟨_, rfl⟩
  simp only [← hn1'] at hm1 ha hX
  simp only [← hn2'] at hm2 ha hX g12
  rw [← hn1', ← hn2']
  have HB := Lib.hid ha
  have HN1 := Lib.hid hn1
  have HN2 := Lib.hid hn2
  have HM1 := Lib.hid hm1
  have HM2 := Lib.hid hm2
  have HR := Lib.hid hr
  obtain ⟨p0, p1, p2, p3, p4, p5, p6⟩ := hX
  have HC := Lib.hid (And.intro p0 (And.intro p1 (And.intro p2 (And.intro p3 (And.intro p4 (And.intro p5 p6))))))
  clear hn1 hn2 hm1 hm2 hr ha hR hiff hn1' hn2' g1 g2 g7 g8 g9 g10 hA hB hz
  go_enter Tryz.func45, Tryz.ntmps45
  go_wp2_with fail
  refine (HN1.out _).mono ?_
  rintro e w1 ⟨rfl, rfl⟩
  go_wp2_with fail
  refine (HM1.out _ HB.out).mono ?_
  rintro e w2 ⟨rfl, hb2⟩
  have HB2 := Lib.hid (bt HB.out hb2)
  have hk := fun (b q : Nat) (v : Value) (h : (w.alloc (.cells #[.string xs, .slice A n1 c, .int .i64 lo, .int .i64 hi, .bool xg, .string xt, .slice B n2 d] 47)).cell? ⟨b, q, none⟩ = some v) => (hb2.cell (p := ⟨b, q, none⟩) (World.block_lt_of_cell? _ _ h)).trans h
  obtain ⟨z0, z1, z2, z3, z4, z5, z6⟩ := HC.out
  have p0' := hk _ _ _ z0
  have p1' := hk _ _ _ z1
  have p2' := hk _ _ _ z2
  have p3' := hk _ _ _ z3
  have p4' := hk _ _ _ z4
  have p5' := hk _ _ _ z5
  have p6' := hk _ _ _ z6
  clear hb2 hk HM1 HN1 p0 p1 p2 p3 p4 p5 p6 z0 z1 z2 z3 z4 z5 z6
  rcases stWays nm my q1 q2 q3 b2 q4 with hbad | hgood
  · have HRf := Lib.hid (show R = false from by
      cases R
      · rfl
      · obtain ⟨r1, r2, r3, r4, r5, r6, _⟩ := HR.out.1 rfl
        subst r1 r2 r3 r4 r5
        simp at hbad
        rcases r6 with r6 | r6
        · rw [r6] at hbad
          simp at hbad
        · rw [r6] at hbad
          simp at hbad)
    clear HR
    rcases hbad with rfl | ⟨rfl, rfl⟩ | ⟨rfl, rfl, rfl⟩ | ⟨rfl, rfl, rfl, rfl⟩ | ⟨rfl, rfl, rfl, rfl, rfl⟩ | ⟨rfl, rfl, rfl, rfl, rfl, rfl, rfl⟩
    all_goals
      go_wp2_with fail
      go_ret
      exact ⟨ret_v (x := .bool false) (by rw [HRf.out]), HB2.out⟩
  · have hok : nm = true ∧ my = true ∧ q1 = false ∧ q2 = false ∧ q3 = false ∧ (b2 = false ∨ q4 = false) := by
      rcases hgood with ⟨h1, h2, h3, h4, h5, h6⟩ | ⟨h1, h2, h3, h4, h5, h6, h7⟩
      · exact ⟨h1, h2, h3, h4, h5, Or.inl h6⟩
      · exact ⟨h1, h2, h3, h4, h5, Or.inr h7⟩
    cases xg
    · have HRe := Lib.hid (show R = (te && he) from by
        rw [Bool.eq_iff_iff, HR.out, Bool.and_eq_true]
        constructor
        · exact fun h => h.2.2.2.2.2.2.1 rfl
        · exact fun h => ⟨hok.1, hok.2.1, hok.2.2.1, hok.2.2.2.1, hok.2.2.2.2.1, hok.2.2.2.2.2, (fun _ => h), (fun e => by cases e)⟩)
      clear HR hok
      rcases hgood with ⟨rfl, rfl, rfl, rfl, rfl, rfl⟩ | ⟨rfl, rfl, rfl, rfl, rfl, rfl, rfl⟩
      all_goals
        cases te
        · go_wp2_with fail
          go_ret
          exact ⟨ret_v (x := .bool false) (by rw [HRe.out]; rfl), HB2.out⟩
        · go_wp2_with fail
          go_ret
          exact ⟨ret_v (x := .bool he) (by rw [HRe.out]; rfl), HB2.out⟩
    · have HRe := Lib.hid (show R = (!b1 && nt && mh) from by
        rw [Bool.eq_iff_iff, HR.out, Bool.and_eq_true, Bool.and_eq_true, Bool.not_eq_true']
        constructor
        · intro h
          obtain ⟨h1, h2, h3⟩ := h.2.2.2.2.2.2.2 rfl
          exact ⟨⟨h1, h2⟩, h3⟩
        · exact fun h => ⟨hok.1, hok.2.1, hok.2.2.1, hok.2.2.2.1, hok.2.2.2.2.1, hok.2.2.2.2.2, (fun e => by cases e), fun _ => ⟨h.1.1, h.1.2, h.2⟩⟩)
      clear HR hok g11 g12
      rcases hgood with ⟨rfl, rfl, rfl, rfl, rfl, rfl⟩ | ⟨rfl, rfl, rfl, rfl, rfl, rfl, rfl⟩
      all_goals
        go_wp2_with fail
        refine (HN2.out _).mono ?_
        rintro e w3 ⟨rfl, rfl⟩
        go_wp2_with fail
        refine (HM2.out _ HB2.out).mono ?_
        rintro e w4 ⟨rfl, hb4⟩
        have HB4 := Lib.hid (bt HB2.out hb4)
        clear hb4
        cases b1
        · cases nt
          · go_wp2_with fail
            go_ret
            exact ⟨ret_v (x := .bool false) (by rw [HRe.out]; rfl), HB4.out⟩
          · go_wp2_with fail
            go_ret
            exact ⟨ret_v (x := .bool mh) (by rw [HRe.out]; rfl), HB4.out⟩
        · go_wp2_with fail
          go_ret
          exact ⟨ret_v (x := .bool false) (by rw [HRe.out]; rfl), HB4.out⟩
end Go.Proofs.YtbmdkibmfkmjoaaGreat.Qy

namespace Go.Proofs.YtbmdkibmfkmjoaaGreat.Qy
open Go.RowKit Go.Proofs.YtbmdkibmfkmjoaaGreat.BM Go.Proofs.YtbmdkibmfkmjoaaGreat.LM Go.Proofs.YtbmdkibmfkmjoaaGreat.VaM Go.Proofs.YtbmdkibmfkmjoaaGreat.ExM Go.Proofs.YtbmdkibmfkmjoaaGreat.QyM
open Go.Proofs.YtbmdkibmfkmjoaaGreat.Ex (SlO slO_none slO_len)
open Go.Proofs.YtbmdkibmfkmjoaaGreat.Va (ret_v)

set_option maxRecDepth 100000 in
set_option maxHeartbeats 16000000 in
theorem refMay_any (q : Q) (A : Option Addr) (c : Nat) (w : World) (hS : SlSt w A q.p c) :
    Calls Tryz.prog 19 #[agQ q A c] w fun e w' => e = .returned (.bool (decide (May q))) ∧ Below w.heap.size w w' := by
  have hl := slSt_len hS
  have hmay : May q ↔ (1 ≤ q.p.length ∧ q.p.length ≤ 4) ∧ (0 ≤ q.w ∧ q.w ≤ 1125899906842624) ∧ (0 ≤ q.a ∧ q.a < 4) ∧ (0 ≤ q.i ∧ q.i < (q.p.length : Int)) ∧ (0 ≤ q.f ∧ q.f < 6) ∧ (q.a = 0 → q.f = 0) ∧ StsOk q.p q.p.length := Iff.rfl
  have hok : ∀ j, j < q.p.length → ¬ StOk (q.p.getD j t0) (j = 0) (j + 1 = q.p.length) → ¬ StsOk q.p q.p.length := fun j hj h k => h (k j hj)
  have hsu := fun j => @StsOk.succ q.p j
  have hX := (bxQ_new w q A c).cells
  have ha := (Below.refl w.heap.size w).alloc (Nat.le_refl _) (.cells #[.slice A q.p.length c, .int .i64 q.w, .int .i64 q.a, .int .i64 q.i, .int .i64 q.f] 25)
  obtain ⟨R, hR⟩ : ∃ R, R = decide (May q) := ⟨_, rfl⟩
  unfold agQ
  rw [← hR]
  have hr : R = true ↔ May q := by rw [hR, decide_eq_true_iff]
  rw [hmay] at hr
  obtain ⟨qp, qw, qa, qi, qf⟩ := q
  simp only at hS hl hok hsu hX ha hr ⊢
  obtain ⟨n, hn⟩ : ∃ n, n = qp.length := ⟨_, rfl⟩
  simp only [← hn] at hl hok hsu hX ha hr
  rw [← hn]
  have hfalse : ¬ ((1 ≤ n ∧ n ≤ 4) ∧ (0 ≤ qw ∧ qw ≤ 1125899906842624) ∧ (0 ≤ qa ∧ qa < 4) ∧ (0 ≤ qi ∧ qi < (n : Int)) ∧ (0 ≤ qf ∧ qf < 6) ∧ (qa = 0 → qf = 0) ∧ StsOk qp n) → R = false := fun h => by
    cases R
    · rfl
    · exact absurd (hr.1 rfl) h
  have HFa := Lib.hid hfalse
  have HTr := Lib.hid hr.2
  have HN := Lib.hid hn
  have HS := Lib.hid hS
  have HOk := Lib.hid hok
  have HSu := Lib.hid hsu
  have HB := Lib.hid ha
  obtain ⟨p0, p1, p2, p3, p4⟩ := hX
  clear hfalse hr hn hS hok hsu ha hmay hR
  by_cases h1 : 1 ≤ n
  rotate_left
  · have HR := Lib.hid (HFa.out (by omega))
    have g1_0 : decide (n < 1) = true := by rw [decide_eq_true_iff]; omega
    have g1_1 : decide ((n : Int) < 1) = true := by rw [decide_eq_true_iff]; omega
    go_enter Tryz.func19, Tryz.ntmps19
    go_wp2_with fail
    go_ret
    exact ⟨ret_v (x := .bool false) (by rw [HR.out]), HB.out⟩
  have g1_0 : decide (n < 1) = false := by rw [decide_eq_false_iff_not]; omega
  have g1_1 : decide ((n : Int) < 1) = false := by rw [decide_eq_false_iff_not]; omega
  by_cases h2 : n ≤ 4
  rotate_left
  · have HR := Lib.hid (HFa.out (by omega))
    have g2_0 : decide (4 < n) = true := by rw [decide_eq_true_iff]; omega
    have g2_1 : decide ((4 : Int) < (n : Int)) = true := by rw [decide_eq_true_iff]; omega
    go_enter Tryz.func19, Tryz.ntmps19
    go_wp2_with fail
    go_ret
    exact ⟨ret_v (x := .bool false) (by rw [HR.out]), HB.out⟩
  have g2_0 : decide (4 < n) = false := by rw [decide_eq_false_iff_not]; omega
  have g2_1 : decide ((4 : Int) < (n : Int)) = false := by rw [decide_eq_false_iff_not]; omega
  by_cases h3 : 0 ≤ qw
  rotate_left
  · have HR := Lib.hid (HFa.out (by omega))
    have g3_0 : decide (qw < 0) = true := by rw [decide_eq_true_iff]; omega
    go_enter Tryz.func19, Tryz.ntmps19
    go_wp2_with fail
    go_ret
    exact ⟨ret_v (x := .bool false) (by rw [HR.out]), HB.out⟩
  have g3_0 : decide (qw < 0) = false := by rw [decide_eq_false_iff_not]; omega
  by_cases h4 : qw ≤ 1125899906842624
  rotate_left
  · have HR := Lib.hid (HFa.out (by omega))
    have g4_0 : decide (1125899906842624 < qw) = true := by rw [decide_eq_true_iff]; omega
    go_enter Tryz.func19, Tryz.ntmps19
    go_wp2_with fail
    go_ret
    exact ⟨ret_v (x := .bool false) (by rw [HR.out]), HB.out⟩
  have g4_0 : decide (1125899906842624 < qw) = false := by rw [decide_eq_false_iff_not]; omega
  by_cases h5 : 0 ≤ qa
  rotate_left
  · have HR := Lib.hid (HFa.out (by omega))
    have g5_0 : decide (qa < 0) = true := by rw [decide_eq_true_iff]; omega
    go_enter Tryz.func19, Tryz.ntmps19
    go_wp2_with fail
    go_ret
    exact ⟨ret_v (x := .bool false) (by rw [HR.out]), HB.out⟩
  have g5_0 : decide (qa < 0) = false := by rw [decide_eq_false_iff_not]; omega
  by_cases h6 : qa < 4
  rotate_left
  · have HR := Lib.hid (HFa.out (by omega))
    have g6_0 : decide (4 ≤ qa) = true := by rw [decide_eq_true_iff]; omega
    go_enter Tryz.func19, Tryz.ntmps19
    go_wp2_with fail
    go_ret
    exact ⟨ret_v (x := .bool false) (by rw [HR.out]), HB.out⟩
  have g6_0 : decide (4 ≤ qa) = false := by rw [decide_eq_false_iff_not]; omega
  by_cases h7 : 0 ≤ qi
  rotate_left
  · have HR := Lib.hid (HFa.out (by omega))
    have g7_0 : decide (qi < 0) = true := by rw [decide_eq_true_iff]; omega
    go_enter Tryz.func19, Tryz.ntmps19
    go_wp2_with fail
    go_ret
    exact ⟨ret_v (x := .bool false) (by rw [HR.out]), HB.out⟩
  have g7_0 : decide (qi < 0) = false := by rw [decide_eq_false_iff_not]; omega
  by_cases h8 : qi < (n : Int)
  rotate_left
  · have HR := Lib.hid (HFa.out (by omega))
    have g8_0 : decide ((n : Int) ≤ qi) = true := by rw [decide_eq_true_iff]; omega
    go_enter Tryz.func19, Tryz.ntmps19
    go_wp2_with fail
    go_ret
    exact ⟨ret_v (x := .bool false) (by rw [HR.out]), HB.out⟩
  have g8_0 : decide ((n : Int) ≤ qi) = false := by rw [decide_eq_false_iff_not]; omega
  by_cases h9 : 0 ≤ qf
  rotate_left
  · have HR := Lib.hid (HFa.out (by omega))
    have g9_0 : decide (qf < 0) = true := by rw [decide_eq_true_iff]; omega
    go_enter Tryz.func19, Tryz.ntmps19
    go_wp2_with fail
    go_ret
    exact ⟨ret_v (x := .bool false) (by rw [HR.out]), HB.out⟩
  have g9_0 : decide (qf < 0) = false := by rw [decide_eq_false_iff_not]; omega
  by_cases h10 : qf < 6
  rotate_left
  · have HR := Lib.hid (HFa.out (by omega))
    have g10_0 : decide (6 ≤ qf) = true := by rw [decide_eq_true_iff]; omega
    go_enter Tryz.func19, Tryz.ntmps19
    go_wp2_with fail
    go_ret
    exact ⟨ret_v (x := .bool false) (by rw [HR.out]), HB.out⟩
  have g10_0 : decide (6 ≤ qf) = false := by rw [decide_eq_false_iff_not]; omega
  have hways : (qa ≠ 0 ∨ (qa = 0 ∧ qf = 0)) ∨ (qa = 0 ∧ qf ≠ 0) := by omega
  rcases hways with hgood | ⟨ha0, hf0⟩
  rotate_left
  · have HR := Lib.hid (HFa.out (fun h => hf0 (h.2.2.2.2.2.1 ha0)))
    have g11 : (qa == 0) = true := by simpa using ha0
    have g12 : (qf != 0) = true := by simpa using hf0
    clear ha0 hf0
    go_enter Tryz.func19, Tryz.ntmps19
    go_wp2_with fail
    go_ret
    exact ⟨ret_v (x := .bool false) (by rw [HR.out]), HB.out⟩
  have HTr2 := Lib.hid (fun hs : StsOk qp n => HTr.out ⟨⟨h1, h2⟩, ⟨h3, h4⟩, ⟨h5, h6⟩, ⟨h7, h8⟩, ⟨h9, h10⟩, (fun e => by rcases hgood with h | h; exact absurd e h; exact h.2), hs⟩)
  have HFa2 := Lib.hid (fun hs : ¬ StsOk qp n => HFa.out (fun h => hs h.2.2.2.2.2.2))
  have hsplit : ∃ z1 z2 : Bool, (qa == 0) = z1 ∧ (qf != 0) = z2 ∧ (z1 = false ∨ (z1 = true ∧ z2 = false)) := by
    refine ⟨_, _, rfl, rfl, ?_⟩
    rcases hgood with h | ⟨h, h'⟩
    · exact Or.inl (by simpa using h)
    · exact Or.inr ⟨by simpa using h, by rw [h']; rfl⟩
  obtain ⟨z1, z2, g11, g12, hz⟩ := hsplit
  clear hgood HTr HFa
  rcases hz with rfl | ⟨rfl, rfl⟩
  all_goals
    go_enter Tryz.func19, Tryz.ntmps19
    go_wp2_with fail
    obtain ⟨w1, hw1⟩ : ∃ w1, w1 = w.alloc (.cells #[.slice A n c, .int .i64 qw, .int .i64 qa, .int .i64 qi, .int .i64 qf] 25) := ⟨_, rfl⟩
    rw [← hw1] at p0 HB ⊢
    have hlt1 := World.block_lt_of_cell? w1 _ p0
    have HP := Lib.hid (fun W (h : Below w1.heap.size w1 W) => (h.cell (p := ⟨w.heap.size, 0, none⟩) hlt1).trans p0)
    clear hw1 p0 p1 p2 p3 p4
    go_loopw [4] (fun i wr => ∃ j : Nat, i = .int .i64 j ∧ j ≤ n ∧ StsOk qp j ∧ Below w1.heap.size w1 wr) (fun i _ => n - (intOf i).toNat)
    case atStart => exact ⟨0, rfl, Nat.zero_le _, (fun j hj => absurd hj (Nat.not_lt_zero j)), Below.refl _ _⟩
    case round =>
      obtain ⟨j, rfl, hj, hall, hbel⟩ := hrel
      have HAl := Lib.hid hall
      have HBl := Lib.hid hbel
      have p0 := HP.out wr hbel
      clear hall hbel
      by_cases hjn : j < n
      · obtain ⟨b1, q1, A1, c1, B1, d1, hix, hc, hfz⟩ := HS.out.at j (by rw [← HN.out]; exact hjn)
        obtain ⟨hcell, hA1, hB1⟩ := hc wr (bt HB.out HBl.out)
        have hi := fun W => hix W n c hjn
        obtain ⟨y1, gz1⟩ : ∃ z, ((j : Int) == 0) = z := ⟨_, rfl⟩
        obtain ⟨y2, gz2⟩ : ∃ z, ((j : Int) == (n : Int) - 1) = z := ⟨_, rfl⟩
        have gz1' : (j == 0) = y1 := by rw [← gz1, Bool.eq_iff_iff, beq_iff_eq, beq_iff_eq]; omega
        have e1 : (y1 = true) = (j = 0) := propext (by rw [← gz1, beq_iff_eq]; omega)
        have e2 : (y2 = true) = (j + 1 = n) := propext (by rw [← gz2, beq_iff_eq]; omega)
        have hst := refStep_any (qp.getD j t0) y1 y2 A1 c1 B1 d1 wr hA1 hB1 hfz
        have hdec : decide (StOk (qp.getD j t0) (y1 = true) (y2 = true)) = decide (StOk (qp.getD j t0) (j = 0) (j + 1 = n)) := by
          rw [Bool.eq_iff_iff, decide_eq_true_iff, decide_eq_true_iff, e1, e2]
        rw [hdec] at hst
        obtain ⟨z, hz⟩ : ∃ z, z = decide (StOk (qp.getD j t0) (j = 0) (j + 1 = n)) := ⟨_, rfl⟩
        rw [← hz] at hst
        have HZ := Lib.hid hz
        unfold agSt at hst
        unfold CellSt at hcell
        obtain ⟨x, hx⟩ : ∃ x, x = qp.getD j t0 := ⟨_, rfl⟩
        rw [← hx] at hst hcell
        obtain ⟨x0, x1, x2, x3, x4, x5, x6⟩ := hcell
        obtain ⟨xs, xf, lo, hi', xg, xt, xh⟩ := x
        simp only at hst x0 x1 x2 x3 x4 x5 x6
        obtain ⟨n1, hn1⟩ : ∃ n, n = xf.length := ⟨_, rfl⟩
        obtain ⟨n2, hn2⟩ : ∃ n, n = xh.length := ⟨_, rfl⟩
        rw [← hn1] at hst x1
        rw [← hn2] at hst x6
        have HSt := Lib.hid hst
        clear hc hix hA1 hB1 hfz hst hdec hz hx hn1 hn2 e1 e2
        go_wp2_with fail
        refine HSt.out.mono ?_
        rintro e w3 ⟨rfl, hb3⟩
        have HB3 := Lib.hid (bt HBl.out hb3)
        clear hb3 x0 x1 x2 x3 x4 x5 x6 HSt p0
        cases z
        · have HR := Lib.hid (HFa2.out (HOk.out j hjn (of_decide_eq_false HZ.out.symm)))
          go_wp2_with fail
          go_ret
          exact ⟨ret_v (x := .bool false) (by rw [HR.out]), bt HB.out HB3.out⟩
        · have HSc := Lib.hid (HSu.out j HAl.out (of_decide_eq_true HZ.out.symm))
          go_wp2_with fail
          go_roundw
          case rel => exact ⟨j + 1, by go_num, by omega, HSc.out, HB3.out⟩
          case measure => simp [intOf]; omega
      · obtain rfl : j = n := by omega
        have HR := Lib.hid (HTr2.out HAl.out)
        go_wp2_with fail
        go_ret
        exact ⟨ret_v (x := .bool true) (by rw [HR.out]), bt HB.out HBl.out⟩
end Go.Proofs.YtbmdkibmfkmjoaaGreat.Qy

namespace Go.Proofs.YtbmdkibmfkmjoaaGreat.Qy
open Go.RowKit Go.Proofs.YtbmdkibmfkmjoaaGreat.BM Go.Proofs.YtbmdkibmfkmjoaaGreat.LM Go.Proofs.YtbmdkibmfkmjoaaGreat.LeM Go.Proofs.YtbmdkibmfkmjoaaGreat.VaM Go.Proofs.YtbmdkibmfkmjoaaGreat.ExM Go.Proofs.YtbmdkibmfkmjoaaGreat.QyM
open Go.Proofs.YtbmdkibmfkmjoaaGreat.Ex (SlO slO_none)
open Go.Proofs.YtbmdkibmfkmjoaaGreat.Va (ret_v)

/-- What a query that may be is. -/
theorem may_facts {p : List St} {qw qa qi qf : Int} (h : May ⟨p, qw, qa, qi, qf⟩) : (1 ≤ p.length ∧ p.length ≤ 4) ∧ qi < (p.length : Int) ∧ (∀ j, j < p.length → 1 ≤ (p.getD j t0).lo ∧ (p.getD j t0).lo ≤ (p.getD j t0).hi ∧ (p.getD j t0).hi ≤ 4) ∧ (p.getD 0 t0).g = false ∧ (p.getD (p.length - 1) t0).lo = (p.getD (p.length - 1) t0).hi := by
  obtain ⟨h1, _, _, h4, _, _, h7⟩ := h
  simp only at h1 h4 h7
  refine ⟨h1, h4.2, fun j hj => ?_, ?_, ?_⟩
  · obtain ⟨_, _, g1, g2, g3, _⟩ := h7 j hj
    exact ⟨g1, g2, g3⟩
  · obtain ⟨_, _, _, _, _, _, _, g⟩ := h7 0 (by omega)
    cases hg : (p.getD 0 t0).g with
    | false => rfl
    | true => exact absurd rfl (g hg).1
  · obtain ⟨_, _, _, _, _, g, _⟩ := h7 (p.length - 1) (by omega)
    exact g (by omega)

set_option maxRecDepth 100000 in
set_option maxHeartbeats 16000000 in
theorem made_walk (qw qa qi qf : Int) (a : Option Addr) (n c : Nat) (w : World) (hq' : Op.ArgQ w qw qa qi qf a n c) :
    Calls Tryz.prog 5 #[.agg #[.slice a n c, .int .i64 qw, .int .i64 qa, .int .i64 qi, .int .i64 qf]] w fun e w' => e = .returned (.bool true) ∧ Below w.heap.size w w' := by
  obtain ⟨p, hlen, hT, _⟩ := hq'
  have hnl := slSt_len hT
  have hrng : RngQ ⟨p, qw, qa, qi, qf⟩ := slSt_rng hT rfl
  have hF := fun W (hW : Below w.heap.size w W) => Few_any ⟨p, qw, qa, qi, qf⟩ a c W (hT.kept hW)
  have hP := fun W (hW : Below w.heap.size w W) => Put_any ⟨p, qw, qa, qi, qf⟩ a c W (hT.kept hW) hrng
  have hM := fun W (hW : Below w.heap.size w W) => refMay_any ⟨p, qw, qa, qi, qf⟩ a c W (hT.kept hW)
  have hmy := @may_facts p qw qa qi qf
  unfold Putted agQ at hP
  unfold agQ at hF hM
  rw [hlen] at hmy
  obtain ⟨X, hX⟩ : ∃ q : Q, q = ⟨p, qw, qa, qi, qf⟩ := ⟨_, rfl⟩
  simp only [hlen, ← hX] at hF hP hM hmy
  obtain ⟨L, hL⟩ : ∃ L, L = (QyM.pv X).length := ⟨_, rfl⟩
  simp only [← hL] at hP
  obtain ⟨P, hPd⟩ : ∃ P, P = decide (Few X) := ⟨_, rfl⟩
  obtain ⟨R, hRd⟩ : ∃ P, P = decide (May X) := ⟨_, rfl⟩
  have hmr : R = true → _ := fun h => hmy (of_decide_eq_true (hRd.symm.trans h))
  simp only [← hPd] at hF
  simp only [← hRd] at hP hM
  rw [hlen] at hnl
  have HF := Lib.hid hF
  have HP := Lib.hid hP
  have HM := Lib.hid hM
  have HMy := Lib.hid hmr
  have HT := Lib.hid hT
  have HLn := Lib.hid hlen
  have HX := Lib.hid (bxQ5_new w a n c qw qa qi qf)
  have HB := Lib.hid (below_box w a n c qw qa qi qf)
  clear hF hP hM hmr hmy hT hlen hX hL hPd hRd hrng
  go_enter Tryz.func5, Tryz.ntmps5
  go_wp2_with fail
  refine (awake_any _).mono ?_
  rintro e w1 ⟨rfl, hb⟩
  have HX1 := Lib.hid (HX.out.kept hb)
  have HB1 := Lib.hid (bt HB.out hb)
  clear hb HX HB
  obtain ⟨p0, p1, p2, p3, p4⟩ := bx5 HX1.out
  go_wp2_with fail
  refine (HF.out _ HB1.out).mono ?_
  rintro e w2 ⟨rfl, hb⟩
  have HX2 := Lib.hid (HX1.out.kept hb)
  have HB2 := Lib.hid (bt HB1.out hb)
  clear hb HX1 HB1 p0 p1 p2 p3 p4 HF
  obtain ⟨p0, p1, p2, p3, p4⟩ := bx5 HX2.out
  go_wp2_with fail
  refine (HP.out _ HB2.out).mono ?_
  rintro e w3 ⟨A3, d3, rfl, _, hb⟩
  have HX3 := Lib.hid (HX2.out.kept hb)
  have HB3 := Lib.hid (bt HB2.out hb)
  clear hb HX2 HB2 p0 p1 p2 p3 p4 HP
  obtain ⟨p0, p1, p2, p3, p4⟩ := bx5 HX3.out
  go_wp2_with fail
  refine (HM.out _ HB3.out).mono ?_
  rintro e w4 ⟨rfl, hb⟩
  have HX4 := Lib.hid (HX3.out.kept hb)
  have HB4 := Lib.hid (bt HB3.out hb)
  clear hb HX3 HB3 p0 p1 p2 p3 p4 HM
  obtain ⟨p0, p1, p2, p3, p4⟩ := bx5 HX4.out
  cases P
  · go_wp2_with fail
    go_ret
    exact ⟨ret_bool (by first | rfl | simp), HB4.out⟩
  cases R
  · go_wp2_with fail
    go_ret
    exact ⟨ret_bool (by first | rfl | simp), HB4.out⟩
  obtain ⟨h14, hqi, hall, hg0, hlast⟩ := HMy.out rfl
  have HAll := Lib.hid hall
  have HG0 := Lib.hid hg0
  have HLast := Lib.hid hlast
  have HXk := Lib.hid (fun W (h : Below w4.heap.size w4 W) => bx5 (HX4.out.kept h))
  clear hall hg0 hlast HX4 HMy
  go_wp2_with fail
  clear p0 p1 p2 p3 p4
  go_loopw [9] (fun i wr => ∃ j : Nat, i = .int .i64 (j : Int) ∧ j ≤ n ∧ Below w4.heap.size w4 wr) (fun i _ => n - (intOf i).toNat)
  case atStart => exact ⟨0, rfl, Nat.zero_le _, Below.refl _ _⟩
  case round =>
    obtain ⟨j, rfl, hj, hbel⟩ := hrel
    have HBl := Lib.hid hbel
    obtain ⟨p0, p1, p2, p3, p4⟩ := HXk.out wr hbel
    clear hbel
    by_cases hjn : j < n
    · obtain ⟨g1, g2, g3⟩ := HAll.out j hjn
      obtain ⟨b1, q1, A1, c1, C1, d1, hix, hc, _⟩ := HT.out.at j (by rw [HLn.out]; exact hjn)
      have hi := fun W => hix W n c hjn
      obtain ⟨_, _, x2, x3, _⟩ := (hc wr (bt HB4.out HBl.out)).1
      obtain ⟨lo, hlo⟩ : ∃ x, x = (p.getD j t0).lo := ⟨_, rfl⟩
      obtain ⟨hi', hhi⟩ : ∃ x, x = (p.getD j t0).hi := ⟨_, rfl⟩
      rw [← hlo] at g1 g2 x2
      rw [← hhi] at g2 g3 x3
      have k1 : decide (lo < 1) = false := by rw [decide_eq_false_iff_not]; omega
      have k2 : decide (hi' < lo) = false := by rw [decide_eq_false_iff_not]; omega
      have k3 : decide (4 < hi') = false := by rw [decide_eq_false_iff_not]; omega
      clear hc hix hlo hhi g1 g2 g3
      go_wp2_with fail
      go_quiet (fail)
      go_wp2_with fail
      go_roundw
      case rel => exact ⟨j + 1, by go_num, by omega, below_drewN HBl.out _⟩
      case measure => simp [intOf]; omega
    · obtain rfl : j = n := by omega
      have k1 : decide ((1 : Int) ≤ (j : Int)) = true := by rw [decide_eq_true_iff]; omega
      have k2 : decide ((j : Int) ≤ 4) = true := by rw [decide_eq_true_iff]; omega
      have k1' : decide (1 ≤ j) = true := by rw [decide_eq_true_iff]; omega
      have k2' : decide (j ≤ 4) = true := by rw [decide_eq_true_iff]; omega
      have k3 : decide (qi < (j : Int)) = true := by rw [decide_eq_true_iff]; omega
      obtain ⟨b1, q1, A1, c1, C1, d1, hix, hc, _⟩ := HT.out.at 0 (by rw [HLn.out]; omega)
      have hi : ∀ W, (Instr.indexAt 23 (.slice a j c) (.int .i64 0)).run Tryz.prog W = .ok (.pointer (some ⟨b1, q1, none⟩)) W := fun W => hix W j c (by omega)
      obtain ⟨_, _, _, _, x4, _⟩ := (hc wr (bt HB4.out HBl.out)).1
      rw [HG0.out] at x4
      obtain ⟨b2, q2, A2, c2, C2, d2, hix2, hc2, _⟩ := HT.out.at (j - 1) (by rw [HLn.out]; omega)
      have hi2 : ∀ W, (Instr.indexAt 23 (.slice a j c) (.int .i64 ((j : Int) - 1))).run Tryz.prog W = .ok (.pointer (some ⟨b2, q2, none⟩)) W := fun W => by
        have h := hix2 W j c (by omega)
        rw [show ((j - 1 : Nat) : Int) = (j : Int) - 1 from by omega] at h
        exact h
      obtain ⟨_, _, y2, y3, _⟩ := (hc2 wr (bt HB4.out HBl.out)).1
      rw [HLast.out] at y2
      obtain ⟨lo, hlo⟩ : ∃ x, x = (p.getD (j - 1) t0).hi := ⟨_, rfl⟩
      rw [← hlo] at y2 y3
      have k4 : (lo == lo) = true := by simp
      clear hc hix hc2 hix2 hlo
      go_wp2_with fail
      go_quiet (fail)
      go_wp2_with fail
      go_ret
      exact ⟨ret_bool (by first | rfl | simp), below_drewN (bt HB4.out HBl.out) _⟩
end Go.Proofs.YtbmdkibmfkmjoaaGreat.Qy

namespace Go.Proofs.YtbmdkibmfkmjoaaGreat.queryMade
open Go.ChangeShapes Go.WideShapes Go.ChangeAt Go.RowKit

theorem own : ownKnob Tryz.prog.godebug = none := by kernel_rfl
theorem laidOut : laidOutB Tryz.prog = true := by kernel_rfl

set_option maxRecDepth 100000 in
theorem lifted (os : Os) (started : os.Started) (H : Type) (enc : TypeId × Value → H) :
    ReturnsInHanded {} Tryz.checked os 5 .any (Rows.queryMadeSpec.pre6 enc Tryz.prog Tryz.f5 Rows.queryMadeRow.domain false) (Rows.queryMadeSpec.post enc Tryz.prog Tryz.f5 false true false false) := by
  refine returnsInHanded_of_change (C := Tryz.checked) own started (by kernel_rfl) Tryz.func5
    (ChangeSpec.witness6 (enc := enc) (C := Tryz.checked) false ⟨#[], #[.agg #[.slice none 0 0, .int .i64 0, .int .i64 0, .int .i64 0, .int .i64 0]], []⟩ 8 (by kernel_rfl) (by kernel_rfl) (by kernel_rfl) (by kernel_rfl)) ?_
  intro W base args ds gs before hval0 hW hcnd _
  have hval : ∀ (j : Nat) t v, Tryz.f5.params[j]? = some t → args[j]? = some v → Value.okWide Tryz.prog W .any base t v := hval0
  have hW' := hW
  obtain ⟨p, q, hA0, hV, rfl, hfz, hnd⟩ := hW
  have hA : DataW.TrodAll enc Tryz.prog W 0 (fun _ => true) true Tryz.f5.params.toList args.toList ds p := hA0
  rw [Tryz.params5] at hA hval
  obtain ⟨v0, vs0, d0, ds0, p0, q0, hargs, rfl, rfl, h0, r0⟩ := trodAll_cons hA
  obtain ⟨rfl, rfl, rfl⟩ := trodAll_nil r0
  obtain rfl : args = #[v0] := by cases args; simp_all
  obtain ⟨rfl, rfl⟩ := trodVars_none hV
  have k0 := h0
  have lt0 : ∀ x ∈ p0, x.block < W.heap.size := by obtain ⟨m, hm⟩ := k0; exact DataW.trod_lt m _ _ _ hm
  obtain ⟨qw0, qa0, qi0, qf0, a0, len0, cap0, rfl, w0⟩ := Op.open_query (hval 0 25 v0 rfl rfl) h0
  clear hA0 hval0
  refine (Go.Proofs.YtbmdkibmfkmjoaaGreat.Qy.made_walk qw0 qa0 qi0 qf0 a0 len0 cap0 W w0).mono fun e W' ⟨he, bel⟩ => ?_
  subst he
  exact ⟨_, rfl, _, _, _, [], _, [], hW', trodAll_mk1 (shut_bool Tryz.underlying4 _), (trodAll_cons_mk (Below.trod laidOut (by kernel_rfl) (of_decide_eq_true (by kernel_rfl)) k0 bel lt0) trodAll_mk0), rfl, bel.frame _, fun h => by cases h⟩

theorem over : Rows.queryMadeRow.holds Tryz.pinned (OpenSpec.ofChange Rows.queryMadeSpec) :=
  OpenClaim.holds_of_wide 5 Tryz.f5 rfl rfl rfl rfl rfl rfl rfl ⟨rfl, rfl, rfl, rfl, rfl⟩ rfl rfl rfl rfl rfl (by kernel_rfl) Tryz.func5 (by kernel_rfl)
    (of_decide_eq_true (by kernel_rfl)) (by unfold Func.isWrapper; first | (rw [if_pos (by decide +kernel)]; kernel_rfl) | (rw [if_neg (by decide +kernel)]; exact ⟨rfl, rfl⟩))
    (fun os started H enc _ => lifted os started H enc)

theorem proved : Rows.QueryMadeSaid := over
#print axioms proved
end Go.Proofs.YtbmdkibmfkmjoaaGreat.queryMade
