/- read of package value: what a kind and the number behind it tell; asked: the slice reads as bytes. -/
import Derived.Test.YtbakhodijhacoaaLeZig
import Derived.Test.YtbakhodijhacoaaValueHeld
import Derived.Test.YtbakhodijhacoaaSlCut
namespace Go.Proofs.Ytbakhodijhacoaa.Va
open Go.RowKit Go.Proofs.Ytbakhodijhacoaa.BM Go.Proofs.Ytbakhodijhacoaa.LM Go.Proofs.Ytbakhodijhacoaa.LeM Go.Proofs.Ytbakhodijhacoaa.LeZ Go.Proofs.Ytbakhodijhacoaa.VaM

def rdV (k : Int) (n : Nat) (ys : List Int) : V × Nat × Bool :=
  if k = 0 then (⟨0, zag n, e0⟩, 0, true) else if k = 2 then (if n ≤ 40 ∧ n ≤ ys.length then (⟨2, 0, strOfNums (ys.take n)⟩, n, true) else (⟨0, 0, e0⟩, 0, false)) else (⟨k, wrap64 n, e0⟩, 0, true)

/-- A value, how many bytes, and whether. -/
def got3 (r : V × Nat × Bool) : Value := .tuple #[.agg #[.int .i64 r.1.k, .int .i64 r.1.n, .string r.1.s], .int .i64 (r.2.1 : Int), .bool r.2.2]

set_option maxRecDepth 100000 in
theorem read_any (k : Int) (n : Nat) (A : Option Addr) (ys : List Int) (c : Nat) (w : World) (hn : n < 18446744073709551616) (hy : SlB w A ys c) (h64 : ys.length ≤ 9223372036854775807) :
    Calls Try.prog 57 #[.int .i64 k, .int .u64 n, .slice A ys.length c] w fun e w' => e = .returned (got3 (rdV k n ys)) ∧ Below w.heap.size w w' := by
  have HB := Lib.hid (fun C => (Below.refl w.heap.size w).alloc (Nat.le_refl _) (.cells C 44))
  by_cases k0 : k = 0
  · subst k0
    have HZ := Lib.hid (fun W => Zag_any (n : Int) W (by omega) (by omega))
    have HR := Lib.hid (show got3 (rdV 0 n ys) = .tuple #[.agg #[.int .i64 0, .int .i64 (zag n), .string ⟨#[]⟩], .int .i64 0, .bool true] from by rw [rdV, if_pos rfl]; rfl)
    clear hy
    go_enter Try.func57, Try.ntmps57
    go_wp2_with fail
    refine (HZ.out _).mono ?_
    rintro e w1 ⟨rfl, rfl⟩
    go_wp2_with fail
    obtain ⟨⟨r0, r1, r2⟩, _⟩ := bx_new w (.int .i64 0) (.int .i64 (zag n)) (.string ⟨#[]⟩)
    exact bodyPost_ret (v := .tuple #[.agg #[.int .i64 0, .int .i64 (zag n), .string ⟨#[]⟩], .int .i64 0, .bool true]) (by simp [results, Try.results57, go_sem]) rfl ⟨ret_v HR.out, HB.out _⟩
  · by_cases k2 : k = 2
    · subst k2
      by_cases hc : n ≤ 40 ∧ n ≤ ys.length
      · have HR := Lib.hid (show got3 (rdV 2 n ys) = .tuple #[.agg #[.int .i64 2, .int .i64 0, .string (strOfNums (ys.take n))], .int .i64 n, .bool true] from by rw [rdV, if_neg k0, if_pos rfl, if_pos hc]; rfl)
        have hcap := hy.2.1
        have hlt : (ys.take n).length = n := by rw [List.length_take]; omega
        have sl := fun W => Cut.slice_hi_k .u64 W A ys.length c n (by omega)
        have cv := fun W (hW : Below w.heap.size w W) => conv_any (isB_take (isB_kept hy.1 hW) n) c 9 Try.underlying9
        obtain ⟨L, hL⟩ : ∃ L, L = ys.length := ⟨_, rfl⟩
        obtain ⟨S, hS⟩ : ∃ S, S = strOfNums (ys.take n) := ⟨_, rfl⟩
        rw [← hS] at HR
        simp only [hlt, ← hS] at cv
        rw [← hL] at sl hc h64 ⊢
        have hcv := cv _ (HB.out #[.int .i64 0, .int .i64 0, .string ⟨#[]⟩])
        obtain ⟨hc1, hc2⟩ := hc
        clear hy hL hS hlt hcap cv
        go_enter Try.func57, Try.ntmps57
        go_wp2_with fail
        obtain ⟨⟨r0, r1, r2⟩, _⟩ := bx_new w (.int .i64 2) (.int .i64 0) (.string S)
        exact bodyPost_ret (v := .tuple #[.agg #[.int .i64 2, .int .i64 0, .string S], .int .i64 n, .bool true]) (by simp [results, Try.results57, go_sem]) rfl ⟨ret_v HR.out, HB.out _⟩
      · have HR := Lib.hid (show got3 (rdV 2 n ys) = .tuple #[.agg #[.int .i64 0, .int .i64 0, .string ⟨#[]⟩], .int .i64 0, .bool false] from by rw [rdV, if_neg k0, if_pos rfl, if_neg hc]; rfl)
        obtain ⟨L, hL⟩ : ∃ L, L = ys.length := ⟨_, rfl⟩
        rw [← hL] at hc h64 ⊢
        clear hy hL
        go_enter Try.func57, Try.ntmps57
        go_wp2_with fail
        obtain ⟨⟨r0, r1, r2⟩, _⟩ := bx_new w (.int .i64 0) (.int .i64 0) (.string ⟨#[]⟩)
        exact bodyPost_ret (v := .tuple #[.agg #[.int .i64 0, .int .i64 0, .string ⟨#[]⟩], .int .i64 0, .bool false]) (by simp [results, Try.results57, go_sem]) rfl ⟨ret_v HR.out, HB.out _⟩
    · have HR := Lib.hid (show got3 (rdV k n ys) = .tuple #[.agg #[.int .i64 k, .int .i64 (wrap64 n), .string ⟨#[]⟩], .int .i64 0, .bool true] from by rw [rdV, if_neg k0, if_neg k2]; rfl)
      have b0 : (k == 0) = false := by simpa using k0
      have b2 : (k == 2) = false := by simpa using k2
      clear hy
      go_enter Try.func57, Try.ntmps57
      go_wp2_with fail
      obtain ⟨⟨r0, r1, r2⟩, _⟩ := bx_new w (.int .i64 k) (.int .i64 (wrap64 n)) (.string ⟨#[]⟩)
      exact bodyPost_ret (v := .tuple #[.agg #[.int .i64 k, .int .i64 (wrap64 n), .string ⟨#[]⟩], .int .i64 0, .bool true]) (by simp [results, Try.results57, go_sem]) rfl ⟨ret_v HR.out, HB.out _⟩
end Go.Proofs.Ytbakhodijhacoaa.Va
