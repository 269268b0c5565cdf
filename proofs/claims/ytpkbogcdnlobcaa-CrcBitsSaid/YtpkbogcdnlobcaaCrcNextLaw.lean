/- The walk of CrcNext: checks of the same bytes behind two others differ just if those do; no condition. -/
import Derived.Test.YtpkbogcdnlobcaaCrcNext
namespace Go.Proofs.Ytpkbogcdnlobcaa.Crc
open Go.RowKit Go.Proofs.Ytpkbogcdnlobcaa.CrcM Go.Proofs.Ytpkbogcdnlobcaa.BM

/-- Next of the program of any bytes that came in, in whatever world comes later. -/
theorem Next_later (n : Nat) (a : Option Addr) (xs : List Int) (len cap : Nat) (w : World) (hn : n < 4294967296) (hl : xs.length = len) (hm : len ≤ 9223372036854775807) (hB : IsB w a xs) :
    ∀ W, Below w.heap.size w W → Calls Try.prog 10 #[.int .u32 (n : Int), .slice a len cap] W fun e w' => e = .returned (.int .u32 ((next n xs : Nat) : Int)) ∧ Below W.heap.size W w' := by
  subst hl
  intro W h
  exact Next_any n a xs cap W hn hm (isB_kept hB h)

theorem Of_later (a : Option Addr) (xs : List Int) (len cap : Nat) (w : World) (hl : xs.length = len) (hm : len ≤ 9223372036854775807) (hB : IsB w a xs) :
    ∀ W, Below w.heap.size w W → Calls Try.prog 12 #[.slice a len cap] W fun e w' => e = .returned (.int .u32 ((next 0 xs : Nat) : Int)) ∧ Below W.heap.size W w' := by
  subst hl
  intro W h
  exact Of_any a xs cap W hm (isB_kept hB h)

theorem isB_none (w : World) : IsB w none [] := ⟨by simp, fun h => by simp at h⟩

set_option maxRecDepth 100000 in
set_option maxHeartbeats 1000000 in
theorem next_walk (s t : Int) (a : Option Addr) (len cap : Nat) (zs : List Int) (w : World) (w0 : (Lit.int .u32 s).wf = true) (w1 : (Lit.int .u32 t).wf = true) (w2 : RowU8 w a len cap zs) :
    Calls Try.prog 7 #[.int .u32 s, .int .u32 t, .slice a len cap] w fun e w' => e = .returned (.bool true) ∧ Below w.heap.size w w' := by
  obtain ⟨n0, n1⟩ := bounds_u32 w0
  obtain ⟨n, rfl⟩ := Int.eq_ofNat_of_zero_le n0
  obtain ⟨m0, m1⟩ := bounds_u32 w1
  obtain ⟨m, rfl⟩ := Int.eq_ofNat_of_zero_le m0
  have hn : n < 4294967296 := by omega
  have hm : m < 4294967296 := by omega
  obtain ⟨xs, hxl, hB, hcap, hmax⟩ := row_isB w2
  clear w0 w1 w2
  have Haw := Lib.hid (awake_any w)
  by_cases h100 : 100 < len
  · clear hxl
    go_enter Try.func7, Try.ntmps7
    go_wp2_with fail
    refine Haw.out.mono ?_
    rintro e w1 ⟨rfl, hb1⟩
    go_wp2_with fail
    go_ret
    exact ⟨rfl, hb1⟩
  · have HN := Lib.hid (Next_later n a xs len cap w hn hxl (by omega) hB)
    have HM := Lib.hid (Next_later m a xs len cap w hm hxl (by omega) hB)
    have H0 := Lib.hid (Next_later n none [] 0 0 w hn rfl (by decide) (isB_none w))
    rw [next_nil hn] at H0
    have hinj : n ≠ m → next n xs ≠ next m xs := fun h e => h (next_inj hn hm hB.1 e)
    obtain ⟨p, hp⟩ : ∃ p, p = next n xs := ⟨_, rfl⟩
    obtain ⟨q, hq⟩ : ∃ q, q = next m xs := ⟨_, rfl⟩
    have hpq : (((p : Int) == (q : Int)) == ((n : Int) == (m : Int))) = true := by
      by_cases h : n = m
      · subst h
        rw [← hq] at hp
        simp [hp]
      · have h1 := hinj h
        rw [← hp, ← hq] at h1
        have e1 : ((p : Int) == (q : Int)) = false := by rw [beq_eq_false_iff_ne]; omega
        have e2 : ((n : Int) == (m : Int)) = false := by rw [beq_eq_false_iff_ne]; omega
        rw [e1, e2]
        rfl
    rw [← hp] at HN
    rw [← hq] at HM
    have HP := Lib.hid hpq
    clear hpq hp hq hinj hxl
    go_enter Try.func7, Try.ntmps7
    go_wp2_with fail
    refine Haw.out.mono ?_
    rintro e w1 ⟨rfl, hb1⟩
    go_wp2_with fail
    refine (HN.out _ hb1).mono ?_
    rintro e w2 ⟨rfl, hb2'⟩
    have hb2 := bt hb1 hb2'
    go_wp2_with fail
    refine (HM.out _ hb2).mono ?_
    rintro e w3 ⟨rfl, hb3'⟩
    have hb3 := bt hb2 hb3'
    have hpq := HP.out
    go_wp2_with fail
    refine (H0.out _ hb3).mono ?_
    rintro e w4 ⟨rfl, hb4⟩
    go_wp2_with fail
    go_ret
    exact ⟨ret_bool (by first | rfl | simp), bt hb3 hb4⟩
end Go.Proofs.Ytpkbogcdnlobcaa.Crc
