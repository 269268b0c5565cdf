/- RegistryFirst: the walk; asked: what comes in, opened. -/
import Derived.Test.YtnkhnfkohnflcaaRegAwake
import Derived.Test.YtnkhnfkohnflcaaRegFew
import Derived.Test.YtnkhnfkohnflcaaOpenRoom
import Derived.Test.YtnkhnfkohnflcaaSchemaMay
namespace Go.Proofs.Ytnkhnfkohnflcaa.Rg
open Go.RowKit Go.Proofs.Ytnkhnfkohnflcaa.BM Go.Proofs.Ytnkhnfkohnflcaa.LM Go.Proofs.Ytnkhnfkohnflcaa.VaM Go.Proofs.Ytnkhnfkohnflcaa.Va Go.Proofs.Ytnkhnfkohnflcaa.Sc Go.Proofs.Ytnkhnfkohnflcaa.RgM
open Go.Proofs.Ytnkhnfkohnflcaa.ScM (Sc Fit)

set_option maxRecDepth 100000 in
set_option maxHeartbeats 4000000 in
theorem first_walk (a0 : Option Addr) (len0 cap0 : Nat) (nm : ByteArray) (v : Int) (B : Option Addr) (len1 d : Nat) (W : World) (h0 : Op.ArgR W a0 len0 cap0) (h1 : Op.ArgS W nm v B len1 d) :
    Calls Try.prog 6 #[.slice a0 len0 cap0, .agg #[.string nm, .int .i64 v, .slice B len1 d]] W fun e w' => e = .returned (.bool true) ∧ Below W.heap.size W w' := by
  obtain ⟨l, hn, hS, hrm⟩ := h0
  obtain ⟨f, hk, hF, hz⟩ := h1
  subst hn
  subst hk
  have hfew := fun w (h : Below W.heap.size W w) => Few_any l a0 cap0 w (hS.kept h)
  have hfew5 := fun w (h : Below W.heap.size W w) => Sc.Few_any ⟨nm, v, f⟩ B d w (hF.kept h) hz.1
  have hmay := fun w (h : Below W.heap.size W w) => May_any l a0 cap0 w (hS.kept h)
  have hmay5 := fun w (h : Below W.heap.size W w) => Sc.May_any ⟨nm, v, f⟩ B d w (hF.kept h) hz
  have hfind := fun w (h : Below W.heap.size W w) => Find_any l nm a0 cap0 w (hS.kept h) hrm
  have hadd := fun w (h : Below W.heap.size W w) => Add_any l ⟨nm, v, f⟩ a0 cap0 B d w (hS.kept h) (hF.kept h) hz
  have hl := slS_len hS
  have haddn := @add_none l ⟨nm, v, f⟩
  have hlen : ∀ x : List Sc, x = l ++ [⟨nm, v, f⟩] → x.length = l.length + 1 := fun x h => by rw [h, List.length_append]; rfl
  have h8 : May l → l.length ≤ 8 := fun h => h.2
  unfold Added at hadd
  unfold Found at hfind
  simp only at hfew5 hmay5 haddn hadd
  obtain ⟨n, hn⟩ : ∃ n, n = l.length := ⟨_, rfl⟩
  obtain ⟨k, hk⟩ : ∃ k, k = f.length := ⟨_, rfl⟩
  simp only [← hn] at hfew hmay hfind hlen h8
  simp only [← hk] at hfew5 hmay5
  rw [← hn] at hl haddn ⊢
  simp only [← hn, ← hk] at hadd
  rw [← hk]
  have HFew := Lib.hid hfew
  have HFew5 := Lib.hid hfew5
  have HMay := Lib.hid hmay
  have HMay5 := Lib.hid hmay5
  have HFind := Lib.hid hfind
  have HAdd := Lib.hid hadd
  have HAn := Lib.hid haddn
  have HL := Lib.hid hlen
  have H8 := Lib.hid h8
  have HX1 := Lib.hid (bx_new_t W 25 (.string nm) (.int .i64 v) (.slice B k d))
  have HB1 := Lib.hid ((Below.refl W.heap.size W).alloc (Nat.le_refl _) (.cells #[.string nm, .int .i64 v, .slice B k d] 25))
  clear hn hk hS hF hz hfew hfew5 hmay hmay5 hfind hadd haddn hlen h8
  go_enter Try.func6, Try.ntmps6
  go_wp2_with fail
  obtain ⟨w1, hw1⟩ : ∃ w1, w1 = W.alloc (.cells #[.string nm, .int .i64 v, .slice B k d] 25) := ⟨_, rfl⟩
  rw [← hw1] at HX1 HB1 ⊢
  clear hw1
  refine (awake_any w1).mono ?_
  rintro e w2 ⟨rfl, hb2⟩
  have HB2 := Lib.hid (bt HB1.out hb2)
  have HX2 := Lib.hid (HX1.out.kept hb2)
  clear hb2 HB1 HX1
  obtain ⟨e1, he1⟩ : ∃ e1, e1 = decide (Few l) := ⟨_, rfl⟩
  have HFl := Lib.hid (HFew.out w2 HB2.out)
  rw [← he1] at HFl
  clear he1
  go_wp2_with fail
  refine HFl.out.mono ?_
  rintro e w3 ⟨rfl, hb3⟩
  have HB3 := Lib.hid (bt HB2.out hb3)
  have HX3 := Lib.hid (HX2.out.kept hb3)
  clear hb3 HB2 HX2 HFl
  obtain ⟨⟨p0, p1, p2⟩, _⟩ := HX3.out
  obtain ⟨e2, he2⟩ : ∃ e2, e2 = decide (Sc.Few ⟨nm, v, f⟩) := ⟨_, rfl⟩
  have HFl := Lib.hid (HFew5.out w3 HB3.out)
  rw [← he2] at HFl
  clear he2
  go_wp2_with fail
  refine HFl.out.mono ?_
  rintro e w4 ⟨rfl, hb4⟩
  have HB4 := Lib.hid (bt HB3.out hb4)
  have HX4 := Lib.hid (HX3.out.kept hb4)
  clear hb4 HB3 HX3 HFl p0 p1 p2
  obtain ⟨⟨p0, p1, p2⟩, _⟩ := HX4.out
  have HFi := Lib.hid (HFind.out w4 HB4.out)
  obtain ⟨t, ht⟩ : ∃ t, t = (find l nm).1 := ⟨_, rfl⟩
  obtain ⟨is, his⟩ : ∃ is, is = (find l nm).2 := ⟨_, rfl⟩
  rw [← ht, ← his] at HFi
  have HIs := Lib.hid his
  clear ht his
  obtain ⟨tn, tv, tf⟩ := t
  simp only at HFi
  obtain ⟨m, hm⟩ : ∃ m, m = tf.length := ⟨_, rfl⟩
  simp only [← hm] at HFi
  clear hm
  go_wp2_with fail
  refine HFi.out.mono ?_
  rintro e w5 ⟨A5, c5, rfl, hf5, hz5, hb5⟩
  have ha5 := (Below.refl w5.heap.size w5).alloc (Nat.le_refl _) (.cells #[.string tn, .int .i64 tv, .slice A5 m c5] 25)
  have HB6 := Lib.hid (bt HB4.out (bt hb5 ha5))
  have HX6 := Lib.hid (HX4.out.kept (bt hb5 ha5))
  clear hb5 ha5 hf5 hz5 HB4 HX4 HFi p0 p1 p2
  obtain ⟨w6, hw6⟩ : ∃ w6, w6 = w5.alloc (.cells #[.string tn, .int .i64 tv, .slice A5 m c5] 25) := ⟨_, rfl⟩
  rw [← hw6] at HB6 HX6
  have hways : e1 = false ∨ (e1 = true ∧ e2 = false) ∨ (e1 = true ∧ e2 = true ∧ is = true) ∨ (e1 = true ∧ e2 = true ∧ is = false) := by cases e1 <;> cases e2 <;> cases is <;> simp
  obtain ⟨⟨p0, p1, p2⟩, _⟩ := HX6.out
  rcases hways with rfl | ⟨rfl, rfl⟩ | ⟨rfl, rfl, rfl⟩ | ⟨rfl, rfl, rfl⟩
  · go_wp2_with fail
    rw [← hw6]
    go_ret
    exact ⟨ret_v (x := .bool true) rfl, HB6.out⟩
  · go_wp2_with fail
    rw [← hw6]
    go_ret
    exact ⟨ret_v (x := .bool true) rfl, HB6.out⟩
  · go_wp2_with fail
    rw [← hw6]
    go_ret
    exact ⟨ret_v (x := .bool true) rfl, HB6.out⟩
  · have hat : At l nm = none := by
      have h := HIs.out
      unfold find at h
      cases hat : At l nm with
      | none => rfl
      | some i =>
        rw [hat] at h
        cases h
    have HAt := Lib.hid hat
    clear hat HIs
    go_wp2_with fail
    rw [← hw6]
    clear hw6
    refine (HMay.out w6 HB6.out).mono ?_
    rintro e w7 ⟨rfl, hb7⟩
    have HB7 := Lib.hid (bt HB6.out hb7)
    have HX7 := Lib.hid (HX6.out.kept hb7)
    clear hb7 HB6 HX6 p0 p1 p2
    obtain ⟨⟨p0, p1, p2⟩, _⟩ := HX7.out
    by_cases hmay : May l
    · rw [decide_eq_true hmay]
      have HMy := Lib.hid hmay
      clear hmay
      go_wp2_with fail
      refine (HMay5.out w7 HB7.out).mono ?_
      rintro e w8 ⟨rfl, hb8⟩
      have HB8 := Lib.hid (bt HB7.out hb8)
      have HX8 := Lib.hid (HX7.out.kept hb8)
      clear hb8 HB7 HX7 p0 p1 p2
      obtain ⟨⟨p0, p1, p2⟩, _⟩ := HX8.out
      by_cases hm5 : ScM.May ⟨nm, v, f⟩
      · rw [decide_eq_true hm5]
        have hn8 := H8.out HMy.out
        have HA := Lib.hid (HAn.out ⟨HMy.out, hm5⟩ HAt.out)
        have HAd := Lib.hid (HAdd.out w8 HB8.out)
        clear hm5
        obtain ⟨X, hX⟩ : ∃ X, X = (add l ⟨nm, v, f⟩).1.length := ⟨_, rfl⟩
        obtain ⟨E, hE⟩ : ∃ E, E = (add l ⟨nm, v, f⟩).2 := ⟨_, rfl⟩
        rw [← hX, ← hE] at HAd
        have HXe := Lib.hid hX
        have HEe := Lib.hid hE
        clear hX hE
        go_wp2_with fail
        refine HAd.out.mono ?_
        rintro e w9 ⟨A9, c9, rfl, _, hb9⟩
        have HB9 := Lib.hid (bt HB8.out hb9)
        have HX9 := Lib.hid (HX8.out.kept hb9)
        clear hb9 HB8 HX8 p0 p1 p2
        obtain ⟨⟨p0, p1, p2⟩, _⟩ := HX9.out
        by_cases hv : v = 1
        · subst hv
          have hA2 := HA.out
          rw [if_neg (fun h => h rfl)] at hA2
          by_cases g8 : 8 ≤ n
          · obtain rfl : n = 8 := by omega
            rw [if_pos (Nat.le_refl _)] at hA2
            obtain rfl : E = 7 := by rw [HEe.out, hA2]
            clear hA2 g8 hn8 HA
            go_wp2_with fail
            go_ret
            exact ⟨ret_v (x := .bool true) rfl, HB9.out⟩
          · rw [if_neg g8] at hA2
            obtain rfl : E = 0 := by rw [HEe.out, hA2]
            have hq : ((X : Int) == (n : Int) + 1) = true := by
              have : X = n + 1 := by rw [HXe.out, hA2]; exact HL.out _ rfl
              rw [beq_iff_eq]
              omega
            have hd8 : decide ((n : Int) < 8) = true := by rw [decide_eq_true_iff]; omega
            clear hA2 g8 HA
            go_wp2_with fail
            go_ret
            exact ⟨ret_v (x := .bool true) rfl, HB9.out⟩
        · have hd : (v != 1) = true := by rw [bne_iff_ne]; exact hv
          obtain rfl : E = 5 := by rw [HEe.out, HA.out, if_pos hv]
          clear hv HA
          go_wp2_with fail
          go_ret
          exact ⟨ret_v (x := .bool true) rfl, HB9.out⟩
      · rw [decide_eq_false hm5]
        clear hm5
        go_wp2_with fail
        go_ret
        exact ⟨ret_v (x := .bool true) rfl, HB8.out⟩
    · rw [decide_eq_false hmay]
      clear hmay
      go_wp2_with fail
      go_ret
      exact ⟨ret_v (x := .bool true) rfl, HB7.out⟩
end Go.Proofs.Ytnkhnfkohnflcaa.Rg
