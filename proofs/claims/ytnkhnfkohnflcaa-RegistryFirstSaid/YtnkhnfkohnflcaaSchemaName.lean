/- Names: letter, behindLetter, Name, and Name of the document's answers: what they answer of any text; nothing is asked but that its size is an int. -/
import Derived.Test.YtnkhnfkohnflcaaSchemaMath
import Derived.Test.YtnkhnfkohnflcaaStrCore
import Derived.Laws.RangeAny
namespace Go.Proofs.Ytnkhnfkohnflcaa.Sc
open Go.RowKit Go.Proofs.Ytnkhnfkohnflcaa.BM Go.Proofs.Ytnkhnfkohnflcaa.VaM Go.Proofs.Ytnkhnfkohnflcaa.Va Go.Proofs.Ytnkhnfkohnflcaa.ScM

theorem letter_any (c : Int) (w : World) : Calls Try.prog 40 #[.int .i32 c] w fun e w' => e = .returned (.bool (smallB c)) ∧ w = w' := by
  by_cases h1 : 97 ≤ c <;> by_cases h2 : c ≤ 122
  all_goals
    go_enter Try.func40, Try.ntmps40
    go_wp2_with fail
    go_ret
    exact ⟨ret_v (by simp [smallB, h1, h2]), rfl⟩

theorem beh_any (c : Int) (w : World) : Calls Try.prog 41 #[.int .i32 c] w fun e w' => e = .returned (.bool (behB c)) ∧ w = w' := by
  by_cases h0 : c = 95
  · subst h0
    go_enter Try.func41, Try.ntmps41
    go_wp2_with fail
    go_ret
    exact ⟨ret_v (by simp [behB]), rfl⟩
  · have hb : (c == 95) = false := by simpa using h0
    by_cases h1 : 48 ≤ c <;> by_cases h2 : c ≤ 57
    all_goals
      go_enter Try.func41, Try.ntmps41
      go_wp2_with fail
      go_ret
      exact ⟨ret_v (by simp [behB, h0, h1, h2]), rfl⟩

/-- A sign of more bytes than one. -/
theorem high_no {x : Int} (h : 128 ≤ x) : smallB x = false ∧ behB x = false := by
  have h1 : ¬ x ≤ 122 := by omega
  have h2 : ¬ x ≤ 57 := by omega
  have h3 : ¬ x = 95 := by omega
  simp [smallB, behB, h1, h2, h3]

theorem byte_at (s : ByteArray) (pos : Nat) (h : pos < s.size) : (bl s).getD pos 0 = ((s[pos]'h).toNat : Int) := by
  have hl : pos < (bl s).length := by rw [bl_len]; exact h
  rw [List.getD_eq_getElem?_getD, List.getElem?_eq_getElem hl, Option.getD_some]
  simp only [bl, List.getElem_map, Array.getElem_toList]
  rfl

set_option maxRecDepth 100000 in
theorem Name_any (s : ByteArray) (w : World) (hs : s.size ≤ maxLen) : Calls Try.prog 31 #[.string s] w fun e w' => e = .returned (.bool (decide (Nm s))) ∧ Below w.heap.size w w' := by
  unfold maxLen at hs
  by_cases h12 : s.size ≤ 12
  · go_enter Try.func31, Try.ntmps31
    go_wp2_with fail
    go_loopw [10] (fun _ wr => ∃ pos : Nat, wr = w.iter s pos ∧ pos ≤ s.size ∧ okPre (bl s) pos) (fun _ wr => s.size - wr.iterPos w.heap.size)
    case atStart => exact ⟨0, rfl, Nat.zero_le _, fun j hj => absurd hj (Nat.not_lt_zero j)⟩
    case round =>
      obtain ⟨pos, rfl, hpos, hpre⟩ := hrel
      have HPre := Lib.hid hpre
      clear hpre
      by_cases hp : pos < s.size
      · obtain ⟨x, hx⟩ : ∃ x, x = (bl s).getD pos 0 := ⟨_, rfl⟩
        have hxb := byte_at s pos hp
        rw [← hx] at hxb
        have no : smallB x = false → (pos = 0 ∨ behB x = false) → ¬ Nm s := fun h1 h2 hn => by
          have h := hn.2.2 pos (by rw [bl_len]; exact hp)
          unfold okAt at h
          rw [← hx, h1] at h
          rcases h with h | ⟨h3, h4⟩
          · cases h
          · rcases h2 with h2 | h2
            · exact h3 h2
            · rw [h2] at h4
              cases h4
        have yes : (smallB x = true ∨ (pos ≠ 0 ∧ behB x = true)) → okPre (bl s) (pos + 1) := fun h => okPre_succ HPre.out (by unfold okAt; rw [← hx]; exact h)
        have HNo := Lib.hid no
        have HYes := Lib.hid yes
        clear no yes
        by_cases ha : (s[pos]'hp).toNat < 128
        · have hnx : ∀ ty, (Instr.next (.pointer (some ⟨w.heap.size, 0, none⟩)) true ty).run Try.prog (w.iter s pos) = .ok (.tuple #[.bool true, .int .i64 pos, .int .i32 x]) (w.iter s (pos + 1)) := fun ty => by
            rw [hxb]
            exact run_next_ascii w s pos ty hp ha
          have HL := Lib.hid (fun W => letter_any x W)
          have HBh := Lib.hid (fun W => beh_any x W)
          obtain ⟨S, hS⟩ : ∃ S, S = smallB x := ⟨_, rfl⟩
          obtain ⟨T, hT⟩ : ∃ T, T = behB x := ⟨_, rfl⟩
          rw [← hS] at HL HNo HYes
          rw [← hT] at HBh HNo HYes
          clear hx hxb hS hT ha
          go_wp2_with fail
          refine (HL.out _).mono ?_
          rintro e w1 ⟨rfl, rfl⟩
          cases S
          · by_cases h0 : pos = 0
            · subst h0
              go_wp2_with fail
              go_ret
              exact ⟨ret_v (x := .bool false) (by rw [decide_eq_false (HNo.out (by trivial) (Or.inl (by trivial)))]), (Below.refl _ _).alloc (Nat.le_refl _) _⟩
            · have hz : ((pos : Int) == 0) = false := by rw [beq_eq_false_iff_ne]; omega
              go_wp2_with fail
              refine (HBh.out _).mono ?_
              rintro e w1 ⟨rfl, rfl⟩
              cases T
              · go_wp2_with fail
                go_ret
                exact ⟨ret_v (x := .bool false) (by rw [decide_eq_false (HNo.out (by trivial) (Or.inr (by trivial)))]), (Below.refl _ _).alloc (Nat.le_refl _) _⟩
              · go_wp2_with fail
                go_roundw
                case rel => exact ⟨pos + 1, rfl, by omega, HYes.out (Or.inr ⟨h0, by trivial⟩)⟩
                case measure => simp; omega
          · go_wp2_with fail
            go_roundw
            case rel => exact ⟨pos + 1, rfl, by omega, HYes.out (Or.inl (by trivial))⟩
            case measure => simp; omega
        · have hdh := decode_high s pos hp (by omega)
          have hxh := high_no (x := x) (by omega)
          have hnx : ∀ ty, (Instr.next (.pointer (some ⟨w.heap.size, 0, none⟩)) true ty).run Try.prog (w.iter s pos) = _ := fun ty => run_next_any w s pos ty hp
          obtain ⟨d, hd⟩ : ∃ d, d = (Utf8.decode s pos).1 := ⟨_, rfl⟩
          obtain ⟨e, he⟩ : ∃ e, e = (Utf8.decode s pos).2 := ⟨_, rfl⟩
          simp only [← hd, ← he] at hnx hdh
          have hdn := high_no (x := (d : Int)) (by omega)
          have HL := Lib.hid (fun W => letter_any (d : Int) W)
          have HBh := Lib.hid (fun W => beh_any (d : Int) W)
          rw [hdn.1] at HL
          rw [hdn.2] at HBh
          have HX := Lib.hid hxh
          clear hx hxb ha hdh hxh hdn hd he
          go_wp2_with fail
          refine (HL.out _).mono ?_
          rintro e w1 ⟨rfl, rfl⟩
          by_cases h0 : pos = 0
          · subst h0
            go_wp2_with fail
            go_ret
            exact ⟨ret_v (x := .bool false) (by rw [decide_eq_false (HNo.out HX.out.1 (Or.inl (by trivial)))]), (Below.refl _ _).alloc (Nat.le_refl _) _⟩
          · have hz : ((pos : Int) == 0) = false := by rw [beq_eq_false_iff_ne]; omega
            go_wp2_with fail
            refine (HBh.out _).mono ?_
            rintro e w1 ⟨rfl, rfl⟩
            go_wp2_with fail
            go_ret
            exact ⟨ret_v (x := .bool false) (by rw [decide_eq_false (HNo.out HX.out.1 (Or.inr HX.out.2))]), (Below.refl _ _).alloc (Nat.le_refl _) _⟩
      · obtain rfl : pos = s.size := by omega
        have hnx : ∀ ty, (Instr.next (.pointer (some ⟨w.heap.size, 0, none⟩)) true ty).run Try.prog (w.iter s s.size) = _ := fun ty => run_next_end w s s.size ty hp
        by_cases h0 : s.size = 0
        · rw [h0] at hnx
          obtain rfl : s = ⟨#[]⟩ := size_e0.1 h0
          have he : (ByteArray.mk #[]).toList.isEmpty = true := by rw [ByteArray.toList_eq]; rfl
          go_wp2_with fail
          go_ret
          exact ⟨ret_v (x := .bool false) (by rw [decide_eq_false (fun h => by have := (nm_size h).1; omega)]), (Below.refl _ _).alloc (Nat.le_refl _) _⟩
        · have hse := str_e0 h0
          have HN := Lib.hid (show Nm s from ⟨by rw [bl_len]; omega, by rw [bl_len]; omega, by rw [bl_len]; exact HPre.out⟩)
          go_wp2_with fail
          go_ret
          exact ⟨ret_v (x := .bool true) (by rw [decide_eq_true HN.out]), (Below.refl _ _).alloc (Nat.le_refl _) _⟩
  · have HN := Lib.hid (show ¬ Nm s from fun h => by have := (nm_size h).2; omega)
    go_enter Try.func31, Try.ntmps31
    go_wp2_with fail
    go_ret
    exact ⟨ret_v (x := .bool false) (by rw [decide_eq_false HN.out]), Below.refl _ _⟩

/-- The order of the document's answers: byte by byte. -/
theorem refOk {x : Int} : (smallB x = true ↔ 97 ≤ x ∧ x ≤ 122) ∧ (behB x = true ↔ x = 95 ∨ (48 ≤ x ∧ x ≤ 57)) := by
  simp [smallB, behB]

set_option maxRecDepth 100000 in
theorem refName_any (s : ByteArray) (w : World) (hs : s.size ≤ maxLen) : Calls Try.prog 38 #[.string s] w fun e w' => e = .returned (.bool (decide (Nm s))) ∧ w = w' := by
  unfold maxLen at hs
  go_enter Try.func38, Try.ntmps38
  go_wp2_with fail
  go_loop [3] (fun i => ∃ pos : Nat, i = .int .i64 pos ∧ pos ≤ s.size ∧ okPre (bl s) pos) (fun i => s.size - (intOf i).toNat)
  case atStart => exact ⟨0, rfl, Nat.zero_le _, fun j hj => absurd hj (Nat.not_lt_zero j)⟩
  case round =>
    obtain ⟨pos, rfl, hpos, hpre⟩ := hrel
    have HPre := Lib.hid hpre
    clear hpre
    by_cases hp : pos < s.size
    · have hix := fun W => index_s s pos hp W
      obtain ⟨x, hx⟩ : ∃ x, x = (bl s).getD pos 0 := ⟨_, rfl⟩
      rw [← hx] at hix
      have no : ¬ (97 ≤ x ∧ x ≤ 122) → (pos = 0 ∨ ¬ (x = 95 ∨ (48 ≤ x ∧ x ≤ 57))) → ¬ Nm s := fun h1 h2 hn => by
        have h := hn.2.2 pos (by rw [bl_len]; exact hp)
        unfold okAt at h
        rw [← hx, refOk.1, refOk.2] at h
        rcases h with h | ⟨h3, h4⟩
        · exact h1 h
        · rcases h2 with h2 | h2
          · exact h3 h2
          · exact h2 h4
      have yes : ((97 ≤ x ∧ x ≤ 122) ∨ (pos ≠ 0 ∧ (x = 95 ∨ (48 ≤ x ∧ x ≤ 57)))) → okPre (bl s) (pos + 1) := fun h => okPre_succ HPre.out (by unfold okAt; rw [← hx, refOk.1, refOk.2]; exact h)
      have HNo := Lib.hid no
      have HYes := Lib.hid yes
      clear no yes hx
      have hways : (97 ≤ x ∧ x ≤ 122) ∨ (x < 97 ∧ pos = 0) ∨ (122 < x ∧ pos = 0) ∨ (122 < x ∧ pos ≠ 0) ∨ (x = 95 ∧ pos ≠ 0) ∨ (x < 48 ∧ pos ≠ 0) ∨ (57 < x ∧ x < 97 ∧ x ≠ 95 ∧ pos ≠ 0) ∨ (48 ≤ x ∧ x ≤ 57 ∧ pos ≠ 0) := by omega
      rcases hways with ⟨h1, h2⟩ | ⟨h1, h2⟩ | ⟨h1, h2⟩ | ⟨h1, h2⟩ | ⟨rfl, h2⟩ | ⟨h1, h2⟩ | ⟨h1, h2, h3, h4⟩ | ⟨h1, h2, h3⟩
      · go_wp2_with fail
        go_round
        case rel => exact ⟨pos + 1, by go_num, by omega, HYes.out (Or.inl ⟨h1, h2⟩)⟩
        case measure => simp [intOf]; omega
      · have hz : ((pos : Int) == 0) = true := by rw [beq_iff_eq]; omega
        have H2 := Lib.hid h2
        clear h2
        go_wp2_with fail
        go_ret
        exact ⟨ret_v (x := .bool false) (by rw [decide_eq_false (HNo.out (by omega) (Or.inl H2.out))]), rfl⟩
      · have hz : ((pos : Int) == 0) = true := by rw [beq_iff_eq]; omega
        have h97 : 97 ≤ x := by omega
        have hd : decide (x ≤ 122) = false := by rw [decide_eq_false_iff_not]; omega
        have H2 := Lib.hid h2
        clear h2
        go_wp2_with fail
        go_ret
        exact ⟨ret_v (x := .bool false) (by rw [decide_eq_false (HNo.out (by omega) (Or.inl H2.out))]), rfl⟩
      · have hz : ((pos : Int) == 0) = false := by rw [beq_eq_false_iff_ne]; omega
        have hn : (x != 95) = true := by rw [bne_iff_ne]; omega
        have h3 : 97 ≤ x := by omega
        have h4 : 57 < x := by omega
        have h5 : 48 ≤ x := by omega
        have hd : decide (x ≤ 122) = false := by rw [decide_eq_false_iff_not]; omega
        go_wp2_with fail
        go_ret
        exact ⟨ret_v (x := .bool false) (by rw [decide_eq_false (HNo.out (by omega) (Or.inr (by omega)))]), rfl⟩
      · have hz : ((pos : Int) == 0) = false := by rw [beq_eq_false_iff_ne]; omega
        go_wp2_with fail
        go_round
        case rel => exact ⟨pos + 1, by go_num, by omega, HYes.out (Or.inr ⟨h2, Or.inl rfl⟩)⟩
        case measure => simp [intOf]; omega
      · have hz : ((pos : Int) == 0) = false := by rw [beq_eq_false_iff_ne]; omega
        have hn : (x != 95) = true := by rw [bne_iff_ne]; omega
        go_wp2_with fail
        go_ret
        exact ⟨ret_v (x := .bool false) (by rw [decide_eq_false (HNo.out (by omega) (Or.inr (by omega)))]), rfl⟩
      · have hz : ((pos : Int) == 0) = false := by rw [beq_eq_false_iff_ne]; omega
        have hn : (x != 95) = true := by rw [bne_iff_ne]; omega
        go_wp2_with fail
        go_ret
        exact ⟨ret_v (x := .bool false) (by rw [decide_eq_false (HNo.out (by omega) (Or.inr (by omega)))]), rfl⟩
      · have hz : ((pos : Int) == 0) = false := by rw [beq_eq_false_iff_ne]; omega
        have hn : (x != 95) = true := by rw [bne_iff_ne]; omega
        go_wp2_with fail
        go_round
        case rel => exact ⟨pos + 1, by go_num, by omega, HYes.out (Or.inr ⟨h3, Or.inr ⟨h1, h2⟩⟩)⟩
        case measure => simp [intOf]; omega
    · obtain rfl : pos = s.size := by omega
      by_cases h0 : s.size = 0
      · obtain rfl := size_e0.1 h0
        go_wp2_with fail
        go_ret
        exact ⟨ret_v (x := .bool false) (by rw [decide_eq_false (fun h => by have := (nm_size h).1; rw [e0_size] at this; omega)]), rfl⟩
      · have hd : decide (Nm s) = decide ((s.size : Int) ≤ 12) := by
          rw [decide_eq_decide]
          exact ⟨fun h => by have := (nm_size h).2; omega, fun h => ⟨by rw [bl_len]; omega, by rw [bl_len]; omega, by rw [bl_len]; exact HPre.out⟩⟩
        have HD := Lib.hid hd
        clear hd
        go_wp2_with fail
        go_ret
        exact ⟨ret_v (x := .bool (decide ((s.size : Int) ≤ 12))) (by rw [HD.out]), rfl⟩
end Go.Proofs.Ytnkhnfkohnflcaa.Sc
