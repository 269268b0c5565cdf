/- behindKind of package value: the bytes behind the kind; its number is an int. -/
import Derived.Test.YtbmdkibmfkmjoaaGreatLeZig
import Derived.Test.YtbmdkibmfkmjoaaGreatValueHeld
namespace Go.Proofs.YtbmdkibmfkmjoaaGreat.Va
open Go.RowKit Go.Proofs.YtbmdkibmfkmjoaaGreat.BM Go.Proofs.YtbmdkibmfkmjoaaGreat.LM Go.Proofs.YtbmdkibmfkmjoaaGreat.LeM Go.Proofs.YtbmdkibmfkmjoaaGreat.LeZ Go.Proofs.YtbmdkibmfkmjoaaGreat.VaM

/- Which type an interface value has. -/
theorem is_number (v : Value) (w : World) : (Instr.typeAssert (.iface 160 v) 20 160 true).run Tryz.prog w = .ok (.tuple #[v, .bool true]) w := by kernel_rfl
theorem nil_number (w : World) : (Instr.typeAssert .nilIface 20 160 true).run Tryz.prog w = .ok (.tuple #[.int .i64 0, .bool false]) w := by kernel_rfl
theorem is_truth (v : Value) (w : World) : (Instr.typeAssert (.iface 161 v) 20 161 true).run Tryz.prog w = .ok (.tuple #[v, .bool true]) w := by kernel_rfl
theorem nil_truth (w : World) : (Instr.typeAssert .nilIface 20 161 true).run Tryz.prog w = .ok (.tuple #[.int .i64 0, .bool false]) w := by kernel_rfl
theorem truth_no_number (v : Value) (w : World) : (Instr.typeAssert (.iface 161 v) 20 160 true).run Tryz.prog w = .ok (.tuple #[.int .i64 0, .bool false]) w := by kernel_rfl
theorem is_text (v : Value) (w : World) : (Instr.typeAssert (.iface 162 v) 20 162 true).run Tryz.prog w = .ok (.tuple #[v, .bool true]) w := by kernel_rfl
theorem nil_text (w : World) : (Instr.typeAssert .nilIface 20 162 true).run Tryz.prog w = .ok (.tuple #[.string ⟨#[]⟩, .bool false]) w := by kernel_rfl
theorem text_no_number (v : Value) (w : World) : (Instr.typeAssert (.iface 162 v) 20 160 true).run Tryz.prog w = .ok (.tuple #[.int .i64 0, .bool false]) w := by kernel_rfl
theorem text_no_truth (v : Value) (w : World) : (Instr.typeAssert (.iface 162 v) 20 161 true).run Tryz.prog w = .ok (.tuple #[.int .i64 0, .bool false]) w := by kernel_rfl
theorem is_moment (v : Value) (w : World) : (Instr.typeAssert (.iface 163 v) 20 163 true).run Tryz.prog w = .ok (.tuple #[v, .bool true]) w := by kernel_rfl
theorem nil_moment (w : World) : (Instr.typeAssert .nilIface 20 163 true).run Tryz.prog w = .ok (.tuple #[.int .i64 0, .bool false]) w := by kernel_rfl
theorem moment_no_number (v : Value) (w : World) : (Instr.typeAssert (.iface 163 v) 20 160 true).run Tryz.prog w = .ok (.tuple #[.int .i64 0, .bool false]) w := by kernel_rfl
theorem moment_no_truth (v : Value) (w : World) : (Instr.typeAssert (.iface 163 v) 20 161 true).run Tryz.prog w = .ok (.tuple #[.int .i64 0, .bool false]) w := by kernel_rfl
theorem moment_no_text (v : Value) (w : World) : (Instr.typeAssert (.iface 163 v) 20 162 true).run Tryz.prog w = .ok (.tuple #[.string ⟨#[]⟩, .bool false]) w := by kernel_rfl

/-- The bytes behind the kind. -/
def tl (v : V) : List Int := if May v then putL (num v) ++ bl v.s else []

def Tails (v : V) (w : World) : Ending → World → Prop := fun e w' => ∃ A c, e = .returned (.tuple #[.slice A (tl v).length c, .bool (decide (May v))]) ∧ SlB w' A (tl v) c ∧ Below w.heap.size w w'

theorem tails_v {v : V} {ys : List Int} (hm : May v) (ht : tl v = ys) (A : Option Addr) (c : Nat) : Value.tuple #[.slice A (tl v).length c, .bool (decide (May v))] = .tuple #[.slice A ys.length c, .bool true] := by rw [ht, decide_eq_true hm]

theorem tails_n {v : V} (hm : ¬ May v) : Value.tuple #[.slice none (tl v).length 0, .bool (decide (May v))] = .tuple #[.slice none 0 0, .bool false] := by rw [decide_eq_false hm, tl, if_neg hm]; rfl

set_option maxRecDepth 100000 in
theorem tail_no (w : World) (v : V) (hm : ¬ May v) : Calls Tryz.prog 121 #[.nilIface] w (Tails v w) := by
  have ht : tl v = [] := by rw [tl, if_neg hm]
  have HT := Lib.hid ht
  have HM := Lib.hid hm
  clear hm ht
  have y0 := nil_number
  have y1 := nil_truth
  have y2 := nil_text
  have y3 := nil_moment
  go_enter Tryz.func121, Tryz.ntmps121
  go_wp2_with fail
  go_ret2
  exact ⟨none, 0, ret_v (tails_n HM.out), by rw [HT.out]; exact slB_none _, Below.refl _ _⟩

set_option maxRecDepth 100000 in
theorem tail_number (w : World) (n : Int) (m : Nat) (h0 : -9223372036854775808 ≤ n) (h1 : n ≤ 9223372036854775807) (hz : zig n = m) (v : V) (hv : May v) (ht : tl v = putL m) :
    Calls Tryz.prog 121 #[.iface 160 (.int .i64 n)] w (Tails v w) := by
  have hr := zig_rng h0 h1
  have HP := Lib.hid (fun W => Put_sl m W (by omega))
  have HZ := Zig_any n w h0 h1
  rw [hz] at HZ
  have HZg := Lib.hid HZ
  have HV := Lib.hid hv
  have HT := Lib.hid ht
  clear HZ hr hz hv ht
  have y0 := is_number
  go_enter Tryz.func121, Tryz.ntmps121
  go_wp2_with fail
  refine HZg.out.mono ?_
  rintro e w1 ⟨rfl, rfl⟩
  go_wp2_with fail
  refine (HP.out _).mono ?_
  rintro e w1 ⟨A, c, rfl, hs, _, hb⟩
  have HS := Lib.hid hs
  have HB := Lib.hid hb
  clear hs hb
  go_wp2_with fail
  go_ret2
  exact ⟨A, c, ret_v (tails_v HV.out HT.out A c), by rw [HT.out]; exact HS.out, HB.out⟩

set_option maxRecDepth 100000 in
theorem tail_truth (w : World) (m : Nat) (hm : m ≤ 1) (v : V) (hv : May v) (ht : tl v = putL m) :
    Calls Tryz.prog 121 #[.iface 161 (.int .i64 m)] w (Tails v w) := by
  have HP := Lib.hid (fun W => Put_sl m W (by omega))
  have HV := Lib.hid hv
  have HT := Lib.hid ht
  clear hv ht
  have y0 := is_truth
  have y1 := truth_no_number
  go_enter Tryz.func121, Tryz.ntmps121
  go_wp2_with fail
  refine (HP.out _).mono ?_
  rintro e w1 ⟨A, c, rfl, hs, _, hb⟩
  have HS := Lib.hid hs
  have HB := Lib.hid hb
  clear hs hb
  go_wp2_with fail
  go_ret2
  exact ⟨A, c, ret_v (tails_v HV.out HT.out A c), by rw [HT.out]; exact HS.out, HB.out⟩

set_option maxRecDepth 100000 in
theorem tail_moment (w : World) (m : Nat) (hm : m ≤ 1125899906842624) (v : V) (hv : May v) (ht : tl v = putL m) :
    Calls Tryz.prog 121 #[.iface 163 (.int .i64 m)] w (Tails v w) := by
  have HP := Lib.hid (fun W => Put_sl m W (by omega))
  have HV := Lib.hid hv
  have HT := Lib.hid ht
  clear hv ht
  have y0 := is_moment
  have y1 := moment_no_number
  have y2 := moment_no_truth
  have y3 := moment_no_text
  go_enter Tryz.func121, Tryz.ntmps121
  go_wp2_with fail
  refine (HP.out _).mono ?_
  rintro e w1 ⟨A, c, rfl, hs, _, hb⟩
  have HS := Lib.hid hs
  have HB := Lib.hid hb
  clear hs hb
  go_wp2_with fail
  go_ret2
  exact ⟨A, c, ret_v (tails_v HV.out HT.out A c), by rw [HT.out]; exact HS.out, HB.out⟩

set_option maxRecDepth 100000 in
theorem tail_text (w : World) (s : ByteArray) (hs : s.size ≤ 40) (v : V) (hv : May v) (ht : tl v = putL s.size ++ bl s) :
    Calls Tryz.prog 121 #[.iface 162 (.string s)] w (Tails v w) := by
  have hl := putL_len64 (n := s.size) (by omega)
  have HP := Lib.hid (fun W => Put_sl s.size W (by omega))
  have HV := Lib.hid hv
  have HT := Lib.hid ht
  clear hv ht
  have y0 := is_text
  have y1 := text_no_number
  have y2 := text_no_truth
  go_enter Tryz.func121, Tryz.ntmps121
  go_wp2_with fail
  refine (HP.out _).mono ?_
  rintro e w1 ⟨A, c, rfl, _, hown, hb⟩
  have HO := Lib.hid hown
  have HB := Lib.hid hb
  have hz := hb.size
  clear hown hb
  go_wp2_with (at_builtin; refine wp_append_s rfl (.tmp 27) (.tmp 28) 162 (by kernel_rfl) rfl w.heap.size _ (putL s.size).length (putL s.size) rfl HO.out s rfl (by omega) (by omega) ?_; intro v1 w2 hown2 hgrow2; refine pause ?_)
  have hB2 : Below w.heap.size w w2 := HB.out.grown hgrow2 (by omega) (fun q hq => (HO.out.lt q hq).1)
  obtain ⟨A2, c2, rfl, hl2, h2, _⟩ := own_slB hown2 (fun x hx => by
    rcases List.mem_append.1 hx with h | h
    · exact putL_bytes _ x h
    · exact bl_bytes _ x h)
  have HS := Lib.hid h2
  have HB2 := Lib.hid hB2
  clear h2 hB2 hown2 hgrow2 hl2
  unfold Pause
  go_wp2_with fail
  go_ret2
  exact ⟨A2, c2, ret_v (tails_v HV.out HT.out A2 c2), by rw [HT.out]; exact HS.out, HB2.out⟩

theorem tail_any (v : V) (w : World) (hr : Rng v) : Calls Tryz.prog 121 #[heldV v] w (Tails v w) := by
  by_cases hm : May v
  · have ht : tl v = putL (num v) ++ bl v.s := by rw [tl, if_pos hm]
    have hm' := hm
    rcases hm' with ⟨h1, h2, h3⟩ | ⟨h0, h⟩
    · rw [heldV_text hm h1]
      refine tail_text w v.s h3 v hm ?_
      rw [ht, num, if_neg (by omega), if_pos h1]
    · have he : bl v.s = [] := by rw [size_e0.1 h0, bl_e0]
      rw [he, List.append_nil] at ht
      rcases h with h | ⟨h, hn⟩ | ⟨h, hn, hx⟩
      · rw [heldV_number hm h]
        have hz := zig_rng hr.1 hr.2
        exact tail_number w v.n (num v) hr.1 hr.2 (by rw [num, if_pos h]; omega) v hm ht
      · rw [heldV_truth hm h, show v.n = ((num v : Nat) : Int) from by rw [num, if_neg (by omega), if_neg (by omega)]; omega]
        exact tail_truth w (num v) (by rw [num, if_neg (by omega), if_neg (by omega)]; omega) v hm ht
      · rw [heldV_moment hm h, show v.n = ((num v : Nat) : Int) from by rw [num, if_neg (by omega), if_neg (by omega)]; omega]
        exact tail_moment w (num v) (by rw [num, if_neg (by omega), if_neg (by omega)]; omega) v hm ht
  · rw [heldV_no hm]
    exact tail_no w v hm
end Go.Proofs.YtbmdkibmfkmjoaaGreat.Va
