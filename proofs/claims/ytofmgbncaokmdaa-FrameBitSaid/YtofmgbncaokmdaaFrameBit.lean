/- The walk of FrameBit: with one byte changed what is packed is not that frame any more; no condition. -/
import Derived.Test.YtofmgbncaokmdaaFrameAwake
namespace Go.Proofs.Ytofmgbncaokmdaa.Fr
open Go.RowKit Go.Proofs.Ytofmgbncaokmdaa.BM Go.Proofs.Ytofmgbncaokmdaa.LM Go.Proofs.Ytofmgbncaokmdaa.Std Go.Proofs.Ytofmgbncaokmdaa.FrM

set_option maxRecDepth 100000 in
set_option maxHeartbeats 1000000 in
theorem bit_walk (a : Option Addr) (len cap : Nat) (zs : List Int) (t : Int) (x : Int) (w : World) (w0 : RowU8 w a len cap zs) (w1 : (Lit.int .i64 t).wf = true) (w2 : (Lit.int .u8 x).wf = true) :
    Calls Try.prog 7 #[.slice a len cap, .int .i64 t, .int .u8 x] w fun e w' => e = .returned (.bool true) ∧ Below w.heap.size w w' := by
  obtain ⟨t0, t1⟩ := bounds_i64 w1
  obtain ⟨x0, x1⟩ := bounds_u8 w2
  obtain ⟨xs, hxl, hS⟩ := row_slB w0
  have hcap := hS.2.1
  have hcm := hS.2.2.2
  unfold maxLen at hcm
  rw [hxl] at hcap
  clear w0 w1 w2
  have Haw := Lib.hid (awake_any w)
  by_cases h400 : 400 < len
  · clear hxl
    go_enter Try.func7, Try.ntmps7
    go_wp2_with fail
    refine Haw.out.mono ?_
    rintro e w1 ⟨rfl, hb1⟩
    go_wp2_with fail
    go_ret
    exact ⟨rfl, hb1⟩
  by_cases h4 : t < 4
  · clear hxl
    go_enter Try.func7, Try.ntmps7
    go_wp2_with fail
    refine Haw.out.mono ?_
    rintro e w1 ⟨rfl, hb1⟩
    go_wp2_with fail
    go_ret
    exact ⟨rfl, hb1⟩
  by_cases h8 : (len : Int) + 8 ≤ t
  · clear hxl
    go_enter Try.func7, Try.ntmps7
    go_wp2_with fail
    refine Haw.out.mono ?_
    rintro e w1 ⟨rfl, hb1⟩
    go_wp2_with fail
    go_ret
    exact ⟨rfl, hb1⟩
  obtain ⟨i, rfl⟩ := Int.eq_ofNat_of_zero_le (show 0 ≤ t by omega)
  have hp := fun W (hW : Below w.heap.size w W) => Pack_yes a xs cap W (hS.kept hW) (by omega)
  rw [hxl] at hp
  obtain ⟨P, hP⟩ : ∃ P, P = pk xs := ⟨_, rfl⟩
  have hPl : P.length = len + 8 := by rw [hP, pk_len, hxl]
  rw [← hP, hPl] at hp
  have hPb : CrcM.Bytes P := by rw [hP]; exact pk_bytes hS.1.1 (by omega)
  obtain ⟨v, hv⟩ : ∃ v, v = P.getD i 0 := ⟨_, rfl⟩
  have hvb := getD_byte hPb i
  rw [← hv] at hvb
  obtain ⟨v0, v1⟩ := hvb
  have Hp := Lib.hid hp
  have HP := Lib.hid hP
  have HPl := Lib.hid hPl
  have HPb := Lib.hid hPb
  have HV := Lib.hid hv
  have HS := Lib.hid hS
  have HX := Lib.hid hxl
  clear hp hP hPl hPb hv hS hxl
  by_cases he : v = x
  · subst he
    go_enter Try.func7, Try.ntmps7
    go_wp2_with fail
    refine Haw.out.mono ?_
    rintro e w1 ⟨rfl, hb1⟩
    go_wp2_with fail
    refine (Hp.out _ hb1).mono ?_
    rintro e w2 ⟨A2, c2, rfl, h2, _, hB2⟩
    obtain ⟨b, o, rfl, hc⟩ := h2.1.2 (by have := HPl.out; omega)
    have hci := hc i (by have := HPl.out; omega)
    rw [← HV.out] at hci
    have hB := bt hb1 hB2
    clear hc h2 hB2 hb1
    go_wp2_with fail
    go_ret
    exact ⟨ret_bool (by simp), hB⟩
  · have hd : (v == x) = false := by simpa using he
    have HE := Lib.hid he
    clear he
    go_enter Try.func7, Try.ntmps7
    go_wp2_with fail
    refine Haw.out.mono ?_
    rintro e w1 ⟨rfl, hb1⟩
    go_wp2_with fail
    refine (Hp.out _ hb1).mono ?_
    rintro e w2 ⟨A2, c2, rfl, h2, _, hB2⟩
    obtain ⟨b, o, rfl, hc⟩ := h2.1.2 (by have := HPl.out; omega)
    have hci := hc i (by have := HPl.out; omega)
    rw [← HV.out] at hci
    have HB := Lib.hid (bt hb1 hB2)
    have H2 := Lib.hid h2
    clear hc h2 hB2 hb1
    go_wp2_with (at_builtin; refine wp_append_b rfl (.const (.slice none 0 0)) (.tmp 58) rfl w2.heap.size (.slice none 0 0) 0 [] rfl (World.ownsRow_nil _ _ _ _) (some ⟨b, o, none⟩) (len + 8) c2 P rfl HPl.out H2.out.1 (fun h => by cases h) (by omega) (Nat.le_refl _) ?_; intro v3 w3 hown3 hgrow3; refine pause ?_)
    have h23 : Below w2.heap.size w2 w3 := (Below.refl _ _).grown hgrow3 (Nat.le_refl _) (fun _ h => by cases h)
    rw [List.nil_append, Nat.zero_add] at hown3
    obtain ⟨g, c3, rfl, hl3, hg3, hgl3, hcap3, _⟩ := own_form hown3 HPb.out (by omega)
    have hcg := own_cell hown3 i (by omega)
    have hfg := hown3.frozenAt i
    have hset := set_own hown3 i x
    have hPs : CrcM.Bytes (P.set i x) := fun y hy => by
      rcases List.mem_or_eq_of_mem_set hy with h | rfl
      · exact HPb.out y h
      · omega
    have hm3 : c3 ≤ maxLen := (own_slB hown3 HPb.out).choose_spec.choose_spec.2.2.1.2.2.2 |> fun h => by
      obtain ⟨A', c', e', _, hs', _⟩ := own_slB hown3 HPb.out
      injection e' with _ _ e3
      rw [e3]
      exact hs'.2.2.2
    have hSs : SlB (w3.setCell ⟨g, i, none⟩ (.int .u8 x)) (some ⟨g, 0, none⟩) (P.set i x) c3 := ⟨own_isB hset hPs, by rw [List.length_set, hl3]; exact hcap3, (fun h => by cases h), hm3⟩
    have hfeed : feed' false [] (P.set i x) = ⟨true, [], []⟩ := by
      rw [feed'_live, List.nil_append, HP.out]
      exact feed_bit xs i x HS.out.1.1 (by have := HX.out; omega) (by omega) (by have := HX.out; omega) (by omega) (by rw [← HP.out, ← HV.out]; exact HE.out)
    have HF := Lib.hid (Feed_later false none _ [] (P.set i x) 0 (len + 8) 0 c3 _ (slB_none _) hSs rfl (by rw [List.length_set, hl3]) (by omega) ⟨true, [], []⟩ hfeed _ (Below.refl _ _))
    have HB3 := Lib.hid ((HB.out.trans (h23.mono HB.out.size)).setCell (p := ⟨g, i, none⟩) (show w.heap.size ≤ g by have := HB.out.size; omega) (.int .u8 x))
    clear h23 hown3 hgrow3 hset hPs hm3 hSs hfeed hl3
    unfold Pause
    go_wp2_with fail
    refine HF.out.mono ?_
    rintro e w5 ⟨A5, c5, V5, k5, rfl, h5, hl5, hB5⟩
    simp only [frm, List.length_nil]
    have HBe := Lib.hid (bt (bt HB3.out hB5) ((Below.refl w5.heap.size w5).alloc (Nat.le_refl _) (.cells #[.slice A5 0 c5, .bool true] 24)))
    clear h5 hl5 hB5 hcg hfg hci
    go_wp2_with fail
    go_ret
    exact ⟨ret_bool (by simp), HBe.out⟩
end Go.Proofs.Ytofmgbncaokmdaa.Fr
