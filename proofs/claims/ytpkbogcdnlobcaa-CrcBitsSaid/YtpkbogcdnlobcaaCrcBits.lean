/- The walk of CrcBits: the bits that an odd number of three lists has; no condition. -/
import Derived.Test.YtpkbogcdnlobcaaCrcNextLaw
import Derived.StillTailTactics
namespace Go.Proofs.Ytpkbogcdnlobcaa.Crc
open Go.RowKit Go.Proofs.Ytpkbogcdnlobcaa.CrcM Go.Proofs.Ytpkbogcdnlobcaa.BM

theorem odd3_len : ∀ (a b c : List Int), b.length = a.length → c.length = a.length → (odd3 a b c).length = a.length
  | [], [], [], _, _ => rfl
  | x :: a, y :: b, z :: c, h1, h2 => by
    simp only [odd3, List.length_cons]
    rw [odd3_len a b c (by simpa using h1) (by simpa using h2)]
  | [], _ :: _, _, h1, _ => by simp at h1
  | _ :: _, [], _, h1, _ => by simp at h1
  | [], _, _ :: _, _, h2 => by simp at h2
  | _ :: _, _, [], _, h2 => by simp at h2

theorem odd3_at : ∀ (a b c : List Int) (k : Nat), b.length = a.length → c.length = a.length → k < a.length → (odd3 a b c).getD k 0 = (((a.getD k 0).toNat ^^^ (b.getD k 0).toNat ^^^ (c.getD k 0).toNat : Nat) : Int)
  | x :: a, y :: b, z :: c, 0, _, _, _ => rfl
  | x :: a, y :: b, z :: c, k + 1, h1, h2, h3 => odd3_at a b c k (by simpa using h1) (by simpa using h2) (by simpa using h3)
  | [], _, _, _, _, _, h3 => by simp at h3
  | _ :: _, [], _, _, h1, _, _ => by simp at h1
  | _ :: _, _, [], _, _, h2, _ => by simp at h2

theorem odd3_bytes (a b c : List Int) (hb : b.length = a.length) (hc : c.length = a.length) (ba : Bytes a) (bb : Bytes b) (bc : Bytes c) : Bytes (odd3 a b c) := by
  intro x hx
  obtain ⟨k, hk, rfl⟩ := List.getElem_of_mem hx
  have hl := odd3_len a b c hb hc
  have h := odd3_at a b c k hb hc (by omega)
  rw [List.getD_eq_getElem?_getD, List.getElem?_eq_getElem hk] at h
  simp only [Option.getD_some] at h
  rw [h]
  have m : ∀ (l : List Int), Bytes l → (l.getD k 0).toNat < 256 := by
    intro l hl
    rw [List.getD_eq_getElem?_getD]
    rcases Nat.lt_or_ge k l.length with h | h
    · rw [List.getElem?_eq_getElem h]
      have := hl _ (List.getElem_mem h)
      simp only [Option.getD_some]
      omega
    · rw [List.getElem?_eq_none h]
      decide
  have h1 : (a.getD k 0).toNat ^^^ (b.getD k 0).toNat ^^^ (c.getD k 0).toNat < 256 := Nat.xor_lt_two_pow (n := 8) (Nat.xor_lt_two_pow (n := 8) (m a ba) (m b bb)) (m c bc)
  omega

/-- Some places are turned, the others are xs they were. -/
def mix (a d : List Int) (k : Nat) : List Int := d.take k ++ a.drop k
theorem mix_zero (a d : List Int) : mix a d 0 = a := by simp [mix]
theorem mix_all (a d : List Int) (h : d.length = a.length) : mix a d a.length = d := by rw [mix, ← h, List.take_length, h, List.drop_length, List.append_nil]
theorem mix_len (a d : List Int) (k : Nat) (h : d.length = a.length) (hk : k ≤ a.length) : (mix a d k).length = a.length := by simp [mix]; omega
theorem mix_step (a d : List Int) (k : Nat) (h : d.length = a.length) (hk : k < a.length) : (mix a d k).set k (d.getD k 0) = mix a d (k + 1) := by
  unfold mix
  rw [List.set_append_right _ _ (by rw [List.length_take]; omega), List.length_take, Nat.min_eq_left (by omega), Nat.sub_self, drop_consB a k hk, List.set_cons_zero, take_snocB d k (by omega), List.append_assoc]
  rfl

theorem xor3 (x y z : Int) (hx : 0 ≤ x ∧ x < 256) (hy : 0 ≤ y ∧ y < 256) (hz : 0 ≤ z ∧ z < 256) : bits .xor .u8 (bits .xor .u8 x y) z = ((x.toNat ^^^ y.toNat ^^^ z.toNat : Nat) : Int) := by
  have h1 := u8_xor x y hx.1 hx.2 hy.1 hy.2
  have hl : x.toNat ^^^ y.toNat < 256 := Nat.xor_lt_two_pow (n := 8) (by omega) (by omega)
  rw [h1]
  have h2 := u8_xor_nat (x.toNat ^^^ y.toNat) z.toNat hl (by omega)
  rw [Int.toNat_of_nonneg hz.1] at h2
  exact h2

theorem getD_byte (l : List Int) (k : Nat) (hl : Bytes l) : 0 ≤ l.getD k 0 ∧ l.getD k 0 < 256 := by
  rw [List.getD_eq_getElem?_getD]
  rcases Nat.lt_or_ge k l.length with h | h
  · rw [List.getElem?_eq_getElem h]
    exact hl _ (List.getElem_mem h)
  · rw [List.getElem?_eq_none h]
    decide

theorem below_drewB {B : Nat} {a w : World} (h : Below B a w) : Below B a w.drew := h.drew

set_option maxRecDepth 100000 in
set_option maxHeartbeats 2000000 in
theorem bits_some (b1 o1 b2 o2 b3 o3 len cap1 cap2 cap3 : Nat) (xs ys us : List Int) (w : World) (hl1 : xs.length = len) (hl2 : ys.length = len) (hl3 : us.length = len) (hpos : 0 < len) (h100 : len ≤ 100)
    (hc1 : len ≤ cap1)
    (hB1 : IsB w (some ⟨b1, o1, none⟩) xs) (hB2 : IsB w (some ⟨b2, o2, none⟩) ys) (hB3 : IsB w (some ⟨b3, o3, none⟩) us) :
    Calls Try.prog 6 #[.slice (some ⟨b1, o1, none⟩) len cap1, .slice (some ⟨b2, o2, none⟩) len cap2, .slice (some ⟨b3, o3, none⟩) len cap3] w fun e w' => e = .returned (.bool true) ∧ Below w.heap.size w w' := by
  have Haw := Lib.hid (awake_any w)
  have hO1 := Of_later (some ⟨b1, o1, none⟩) xs len cap1 w hl1 (by omega) hB1
  have hO2 := Of_later (some ⟨b2, o2, none⟩) ys len cap2 w hl2 (by omega) hB2
  have hO3 := Of_later (some ⟨b3, o3, none⟩) us len cap3 w hl3 (by omega) hB3
  have hdl := odd3_len xs ys us (by omega) (by omega)
  have hda := fun k => odd3_at xs ys us k (by omega) (by omega)
  have hdb := odd3_bytes xs ys us (by omega) (by omega) hB1.1 hB2.1 hB3.1
  have hn3 := next3 (a := xs) (b := ys) (c := us) (by omega) (by omega) hB1.1 hB2.1 hB3.1
  obtain ⟨od, hod⟩ : ∃ od, od = odd3 xs ys us := ⟨_, rfl⟩
  rw [← hod] at hdl hda hdb hn3
  have hT := fun (g cp : Nat) (W0 W : World) (hd : Below W0.heap.size W0 W) (h : IsB W0 (some ⟨g, 0, none⟩) od) => Of_later (some ⟨g, 0, none⟩) od len cp W0 (by omega) (by omega) h W hd
  have hp1 := next_lt 0 xs
  have hp2 := next_lt 0 ys
  have hp3 := next_lt 0 us
  obtain ⟨p1, e1⟩ : ∃ p, p = next 0 xs := ⟨_, rfl⟩
  obtain ⟨p2, e2⟩ : ∃ p, p = next 0 ys := ⟨_, rfl⟩
  obtain ⟨p3, e3⟩ : ∃ p, p = next 0 us := ⟨_, rfl⟩
  obtain ⟨p4, e4⟩ : ∃ p, p = next 0 od := ⟨_, rfl⟩
  rw [← e1, ← e2, ← e3, ← e4] at hn3
  rw [← e1] at hO1 hp1
  rw [← e2] at hO2 hp2
  rw [← e3] at hO3 hp3
  rw [← e4] at hT
  have HX := Lib.hid (show bits .xor .u32 (bits .xor .u32 (p1 : Int) (p2 : Int)) (p3 : Int) = (p4 : Int) from by
    rw [hn3, u32_xor_nat p1 p2 hp1 hp2, u32_xor_nat _ p3 (xor_lt hp1 hp2) hp3])
  have HO1 := Lib.hid hO1
  have HO2 := Lib.hid hO2
  have HO3 := Lib.hid hO3
  have HT := Lib.hid hT
  have HL1 := Lib.hid hl1
  have HL2 := Lib.hid hl2
  have HL3 := Lib.hid hl3
  have HDL := Lib.hid hdl
  have HDA := Lib.hid hda
  have HDB := Lib.hid hdb
  clear hod hO1 hO2 hO3 hT hn3 hp1 hp2 hp3 e1 e2 e3 e4 hl1 hl2 hl3 hdl hda hdb
  go_enter Try.func6, Try.ntmps6
  go_wp2_with fail
  refine Haw.out.mono ?_
  rintro e w1 ⟨rfl, hb1⟩
  have hK1 := isB_kept hB1 hb1
  go_wp2_with (at_builtin; refine wp_append_b rfl (.const (.slice none 0 0)) (.tmp 33) rfl w1.heap.size _ 0 [] rfl (World.ownsRow_nil _ _ _ _) (some ⟨b1, o1, none⟩) len cap1 xs rfl HL1.out hK1 (by simp) (by omega) (Nat.le_refl _) ?_; intro v1 w2 hown1 hgrow1; refine pause ?_)
  simp only [Nat.zero_add, List.nil_append] at hown1
  have hb2 : Below w1.heap.size w1 w2 := (Below.refl _ _).grown hgrow1 (Nat.le_refl _) (fun _ h => by cases h)
  obtain ⟨g, cap4, rfl, _, hg1, hg2, hcap4, _⟩ := own_form hown1 hB1.1 hpos
  have hbw := bt hb1 hb2
  have hgw : w.heap.size ≤ g := Nat.le_trans hb1.size hg1
  have hown : w2.ownsRow w1.heap.size 5 1 (.slice (some ⟨g, 0, none⟩) len cap4) len (cs (mix xs od 0)) := by rw [mix_zero]; exact hown1
  clear hK1 hown1 hgrow1 Haw
  unfold Pause
  go_wp2_with fail
  go_loopw [9] (fun i wr => ∃ k : Nat, k ≤ len ∧ i = .int .i64 k ∧ wr.ownsRow w1.heap.size 5 1 (.slice (some ⟨g, 0, none⟩) len cap4) len (cs (mix xs od k)) ∧ Below w.heap.size w wr) (fun i _ => len - (intOf i).toNat)
  case atStart => exact ⟨0, by omega, rfl, hown, hbw⟩
  case round =>
    obtain ⟨k, hk, rfl, hownk, hbk⟩ := hrel
    clear hown hb2 hbw hg2
    by_cases hlt : k < len
    · have hx1 := isB_cell (isB_kept hB1 hbk) k (by have := HL1.out; omega)
      have hx2 := isB_cell (isB_kept hB2 hbk) k (by have := HL2.out; omega)
      have hx3 := isB_cell (isB_kept hB3 hbk) k (by have := HL3.out; omega)
      have hownd : wr.drew.ownsRow w1.heap.size 5 1 (.slice (some ⟨g, 0, none⟩) len cap4) len (cs (mix xs od k)) := hownk
      have hx4 := own_cell hownd k hlt
      have hfr := hownd.frozenAt k
      have HS := Lib.hid (set_own hownd k (od.getD k 0))
      have HBD := Lib.hid (show Below w.heap.size w (wr.drew.setCell ⟨g, k, none⟩ (.int .u8 (od.getD k 0))) from hbk.drew.setCell hgw _)
      rw [mix_step xs od k (by have := HDL.out; have := HL1.out; omega) (by have := HL1.out; omega)] at HS
      have HY := Lib.hid (xor3 _ _ _ (getD_byte xs k hB1.1) (getD_byte ys k hB2.1) (getD_byte us k hB3.1))
      rw [← HDA.out k (by have := HL1.out; omega)] at HY
      obtain ⟨y1, hy1⟩ : ∃ y, y = xs.getD k 0 := ⟨_, rfl⟩
      obtain ⟨y2, hy2⟩ : ∃ y, y = ys.getD k 0 := ⟨_, rfl⟩
      obtain ⟨y3, hy3⟩ : ∃ y, y = us.getD k 0 := ⟨_, rfl⟩
      obtain ⟨y4, hy4⟩ : ∃ y, y = od.getD k 0 := ⟨_, rfl⟩
      rw [← hy1] at hx1 HY
      rw [← hy2] at hx2 HY
      rw [← hy3] at hx3 HY
      rw [← hy4] at HY HS HBD
      clear hy1 hy2 hy3 hy4
      go_wp2_with fail
      go_still_tail 16, (by kernel_rfl)
      change wpList _ _ _ _ _ wr.drew
      have HW3 := Lib.hid (show wr.drew.heap = wr.heap from rfl)
      clear hownd
      generalize wr.drew = w3 at HS HBD hx4 hfr HW3 ⊢
      go_wp2_with fail
      go_roundw
      case rel =>
        rw [HY.out]
        exact ⟨k + 1, by omega, by go_num, HS.out, HBD.out⟩
      case measure => simp [intOf]; omega
    · obtain rfl : k = len := by omega
      have hownd := hownk
      rw [show mix xs od k = od from by rw [← HL1.out]; exact mix_all xs od HDL.out] at hownd
      have HBS := Lib.hid (own_isB hownd HDB.out)
      clear hownk hownd hlt
      go_wp2_with fail
      refine (HT.out g cap4 wr wr (Below.refl _ _) HBS.out).mono ?_
      rintro e v0 ⟨rfl, hv0⟩
      have hw0 := bt hbk hv0
      go_wp2_with fail
      refine (HO1.out _ hw0).mono ?_
      rintro e v1 ⟨rfl, hv1⟩
      have hw1 := bt hw0 hv1
      go_wp2_with fail
      refine (HO2.out _ hw1).mono ?_
      rintro e v2 ⟨rfl, hv2⟩
      have hw2 := bt hw1 hv2
      go_wp2_with fail
      refine (HO3.out _ hw2).mono ?_
      rintro e v3 ⟨rfl, hv3⟩
      have hw3 := bt hw2 hv3
      go_wp2_with fail
      go_ret
      exact ⟨ret_bool (by rw [HX.out]; simp), hw3⟩

set_option maxRecDepth 100000 in
set_option maxHeartbeats 1000000 in
theorem bits_none (a b c : Option Addr) (cap1 cap2 cap3 : Nat) (w : World) (hn : a = none → cap1 = 0) :
    Calls Try.prog 6 #[.slice a 0 cap1, .slice b 0 cap2, .slice c 0 cap3] w fun e w' => e = .returned (.bool true) ∧ Below w.heap.size w w' := by
  have Haw := Lib.hid (awake_any w)
  have hB : ∀ (A : Option Addr) (W : World), IsB W A [] := fun A W => ⟨by simp, fun h => by simp at h⟩
  have HO := Lib.hid (fun (A : Option Addr) (cap : Nat) (W : World) => Of_any A [] cap W (by decide) (hB A W))
  rw [next_nil (by decide)] at HO
  have HX := Lib.hid (show bits .xor .u32 (bits .xor .u32 ((0 : Nat) : Int) ((0 : Nat) : Int)) ((0 : Nat) : Int) = ((0 : Nat) : Int) from by decide)
  have HB := Lib.hid hB
  have HN := Lib.hid hn
  clear hB hn
  go_enter Try.func6, Try.ntmps6
  go_wp2_with fail
  refine Haw.out.mono ?_
  rintro e w1 ⟨rfl, hb1⟩
  go_wp2_with (at_builtin; refine wp_append_b rfl (.const (.slice none 0 0)) (.tmp 33) rfl w1.heap.size _ 0 [] rfl (World.ownsRow_nil _ _ _ _) a 0 cap1 [] rfl rfl (HB.out _ _) HN.out (by omega) (Nat.le_refl _) ?_; intro v1 w2 hown1 hgrow1; refine pause ?_)
  simp only [Nat.zero_add, List.nil_append] at hown1
  have hb2 : Below w1.heap.size w1 w2 := (Below.refl _ _).grown hgrow1 (Nat.le_refl _) (fun _ h => by cases h)
  obtain ⟨A4, cap4, rfl, _, _, _, _⟩ := own_any hown1 (by simp)
  have hw := bt hb1 hb2
  clear hown1 hgrow1 Haw hb1 hb2
  unfold Pause
  go_wp2_with fail
  refine wp_loop_rounds 1 ?_
  rw [rounds_succ]
  go_wp2_with fail
  refine (HO.out _ _ _).mono ?_
  rintro e v0 ⟨rfl, hv0⟩
  have hw0 := bt hw hv0
  go_wp2_with fail
  refine (HO.out _ _ _).mono ?_
  rintro e v1 ⟨rfl, hv1⟩
  have hw1 := bt hw0 hv1
  go_wp2_with fail
  refine (HO.out _ _ _).mono ?_
  rintro e v2 ⟨rfl, hv2⟩
  have hw2 := bt hw1 hv2
  go_wp2_with fail
  refine (HO.out _ _ _).mono ?_
  rintro e v3 ⟨rfl, hv3⟩
  have hw3 := bt hw2 hv3
  go_wp2_with fail
  go_ret
  exact ⟨ret_bool (by first | rfl | decide | (rw [HX.out]; simp)), hw3⟩

set_option maxRecDepth 100000 in
set_option maxHeartbeats 1000000 in
theorem bits_walk (a : Option Addr) (len1 cap1 : Nat) (z1 : List Int) (b : Option Addr) (len2 cap2 : Nat) (z2 : List Int) (c : Option Addr) (len3 cap3 : Nat) (z3 : List Int) (w : World)
    (w0 : RowU8 w a len1 cap1 z1) (w1 : RowU8 w b len2 cap2 z2) (w2 : RowU8 w c len3 cap3 z3) :
    Calls Try.prog 6 #[.slice a len1 cap1, .slice b len2 cap2, .slice c len3 cap3] w fun e w' => e = .returned (.bool true) ∧ Below w.heap.size w w' := by
  have hn : a = none → cap1 = 0 := by
    intro h
    rcases w0 with ⟨_, _, h3, _⟩ | ⟨x, h1, _⟩
    · exact h3
    · rw [h] at h1; cases h1
  obtain ⟨xs, hl1, hB1, hc1, hm1⟩ := row_isB w0
  obtain ⟨ys, hl2, hB2, hc2, hm2⟩ := row_isB w1
  obtain ⟨us, hl3, hB3, hc3, hm3⟩ := row_isB w2
  clear w0 w1 w2
  by_cases hin : len1 ≤ 100 ∧ len2 = len1 ∧ len3 = len1
  · obtain ⟨h100, rfl, rfl⟩ := hin
    by_cases hpos : 0 < len3
    · obtain ⟨b1, o1, rfl, _⟩ := hB1.2 (by omega)
      obtain ⟨b2, o2, rfl, _⟩ := hB2.2 (by omega)
      obtain ⟨b3, o3, rfl, _⟩ := hB3.2 (by omega)
      exact bits_some b1 o1 b2 o2 b3 o3 len3 cap1 cap2 cap3 xs ys us w hl1 hl2 hl3 hpos h100 hc1 hB1 hB2 hB3
    · obtain rfl : len3 = 0 := by omega
      exact bits_none a b c cap1 cap2 cap3 w hn
  · have Haw := Lib.hid (awake_any w)
    clear hl1 hl2 hl3 hn hB1 hB2 hB3
    rcases (show 100 < len1 ∨ (¬ 100 < len1 ∧ len2 ≠ len1) ∨ (¬ 100 < len1 ∧ len2 = len1 ∧ len3 ≠ len1) from by omega) with h | ⟨h, h'⟩ | ⟨h, h', h''⟩
    · clear hin
      go_enter Try.func6, Try.ntmps6
      go_wp2_with fail
      refine Haw.out.mono ?_
      rintro e w1 ⟨rfl, hb1⟩
      go_wp2_with fail
      go_ret
      exact ⟨rfl, hb1⟩
    · have hd : ((len2 : Int) != (len1 : Int)) = true := by rw [bne_iff_ne]; omega
      have hd' : (len2 != len1) = true := by rw [bne_iff_ne]; exact h'
      clear hin h'
      go_enter Try.func6, Try.ntmps6
      go_wp2_with fail
      refine Haw.out.mono ?_
      rintro e w1 ⟨rfl, hb1⟩
      go_wp2_with fail
      go_ret
      exact ⟨rfl, hb1⟩
    · subst h'
      have hd : ((len3 : Int) != (len2 : Int)) = true := by rw [bne_iff_ne]; omega
      have hd' : (len3 != len2) = true := by rw [bne_iff_ne]; exact h''
      clear hin h''
      go_enter Try.func6, Try.ntmps6
      go_wp2_with fail
      refine Haw.out.mono ?_
      rintro e w1 ⟨rfl, hb1⟩
      go_wp2_with fail
      go_ret
      exact ⟨rfl, hb1⟩
end Go.Proofs.Ytpkbogcdnlobcaa.Crc
