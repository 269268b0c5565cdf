/- The walk of CrcTells: the check of any bytes, and of more behind some, is what the document says; no condition. -/
import Derived.Test.YtpkbogcdnlobcaaCrcRef
namespace Go.Proofs.Ytpkbogcdnlobcaa.Crc
open Go.RowKit Go.Proofs.Ytpkbogcdnlobcaa.CrcM Go.Proofs.Ytpkbogcdnlobcaa.BM

set_option maxRecDepth 100000 in
set_option maxHeartbeats 1000000 in
theorem tells_walk (s : Int) (a : Option Addr) (len cap : Nat) (zs : List Int) (w : World) (w0 : (Lit.int .u32 s).wf = true) (w1 : RowU8 w a len cap zs) :
    Calls Try.prog 3 #[.int .u32 s, .slice a len cap] w fun e w' => e = .returned (.bool true) ∧ Below w.heap.size w w' := by
  obtain ⟨n0, n1⟩ := bounds_u32 w0
  obtain ⟨n, rfl⟩ := Int.eq_ofNat_of_zero_le n0
  have hn : n < 4294967296 := by omega
  obtain ⟨xs, hxl, hB, hcap, hmax⟩ := row_isB w1
  clear w0 w1
  have Haw := Lib.hid (awake_any w)
  have HXL := Lib.hid hxl
  clear hxl
  by_cases h400 : 400 < len
  · go_enter Try.func3, Try.ntmps3
    go_wp2_with fail
    refine Haw.out.mono ?_
    rintro e w1 ⟨rfl, hb1⟩
    go_wp2_with fail
    go_ret
    exact ⟨rfl, hb1⟩
  · have HN := Lib.hid (fun W (h : Below w.heap.size w W) => Next_any n a xs cap W hn (by rw [HXL.out]; omega) (isB_kept hB h))
    have HR := Lib.hid (fun W (h : Below w.heap.size w W) => RNext_any n a xs cap W hn (by rw [HXL.out]; omega) (isB_kept hB h))
    have HO := Lib.hid (fun W (h : Below w.heap.size w W) => Of_any a xs cap W (by rw [HXL.out]; omega) (isB_kept hB h))
    have HS := Lib.hid (fun W (h : Below w.heap.size w W) => ROf_any a xs cap W (by rw [HXL.out]; omega) (isB_kept hB h))
    rw [HXL.out] at HN HR HO HS
    go_enter Try.func3, Try.ntmps3
    go_wp2_with fail
    refine Haw.out.mono ?_
    rintro e w1 ⟨rfl, hb1⟩
    go_wp2_with fail
    refine (HN.out _ hb1).mono ?_
    rintro e w2 ⟨rfl, hb2⟩
    have hb := hb1.trans (hb2.mono hb1.size)
    go_wp2_with fail
    refine (HR.out _ hb).mono ?_
    rintro e w3 ⟨rfl, rfl⟩
    go_wp2_with fail
    refine (HO.out _ hb).mono ?_
    rintro e w3 ⟨rfl, hb3⟩
    have hb4 := hb.trans (hb3.mono hb.size)
    go_wp2_with fail
    refine (HS.out _ hb4).mono ?_
    rintro e w4 ⟨rfl, rfl⟩
    go_wp2_with fail
    go_ret
    exact ⟨ret_bool (by first | rfl | simp), hb4⟩
end Go.Proofs.Ytpkbogcdnlobcaa.Crc
