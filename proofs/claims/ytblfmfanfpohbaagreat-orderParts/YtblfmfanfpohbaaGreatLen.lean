/- What bits.Len64 answers. -/
import Derived.Test.YtblfmfanfpohbaaGreatRows
import Derived.Test.YtblfmfanfpohbaaGreatAid
namespace Go.Proofs.YtblfmfanfpohbaaGreat
open Go.ChangeShapes Go.WideShapes Go.ChangeAt Go.RowKit
set_option maxRecDepth 20000 in
set_option maxHeartbeats 1000000 in
theorem len_any (x : Int) (w : World) (h0 : 0 ≤ x) (h1 : x ≤ 18446744073709551615) :
    Calls Tryz.prog 100 #[.int .u64 x] w fun e w' => e = .returned (.int .i64 (bitLen x.toNat)) ∧ w = w' := by
  by_cases c1 : 4294967296 ≤ x
  · have H1 : Hid (bitLen (x).toNat = 32 + bitLen (x / 4294967296).toNat) := by
      show _ = _
      rw [bitLen_shift _ 32 (by omega)]
      rw [show (x).toNat / 2 ^ 32 = (x / 4294967296).toNat from by omega]
    by_cases c2 : 65536 ≤ x / 4294967296
    · have H2 : Hid (bitLen (x / 4294967296).toNat = 16 + bitLen (x / 4294967296 / 65536).toNat) := by
        show _ = _
        rw [bitLen_shift _ 16 (by omega)]
        rw [show (x / 4294967296).toNat / 2 ^ 16 = (x / 4294967296 / 65536).toNat from by omega]
      by_cases c3 : 256 ≤ x / 4294967296 / 65536
      · have H3 : Hid (bitLen (x / 4294967296 / 65536).toNat = 8 + bitLen (x / 4294967296 / 65536 / 256).toNat) := by
          show _ = _
          rw [bitLen_shift _ 8 (by omega)]
          rw [show (x / 4294967296 / 65536).toNat / 2 ^ 8 = (x / 4294967296 / 65536 / 256).toNat from by omega]
        have HI : Hid ((x / 4294967296 / 65536 / 256).toNat < 256) := by show _ < _; omega
        have HB : Hid (bitLen x.toNat = 56 + bitLen (x / 4294967296 / 65536 / 256).toNat) := by
          show _ = _
          rw [H1.out, H2.out, H3.out]; omega
        clear H1 H2 H3
        go_enter Tryz.func100, Tryz.ntmps100
        go_wp2
        go_ret
        refine ⟨ret_int ?_, rfl⟩
        rw [len8tab_get _ _]
        exact len_close 56 x.toNat _ HB.out HI.out (by omega)
      · have d3 : x / 4294967296 / 65536 < 256 := by omega
        clear c3
        have HI : Hid ((x / 4294967296 / 65536).toNat < 256) := by show _ < _; omega
        have HB : Hid (bitLen x.toNat = 48 + bitLen (x / 4294967296 / 65536).toNat) := by
          show _ = _
          rw [H1.out, H2.out]; omega
        clear H1 H2
        go_enter Tryz.func100, Tryz.ntmps100
        go_wp2
        go_ret
        refine ⟨ret_int ?_, rfl⟩
        rw [len8tab_get _ _]
        exact len_close 48 x.toNat _ HB.out HI.out (by omega)
    · have d2 : x / 4294967296 < 65536 := by omega
      clear c2
      by_cases c3 : 256 ≤ x / 4294967296
      · have H3 : Hid (bitLen (x / 4294967296).toNat = 8 + bitLen (x / 4294967296 / 256).toNat) := by
          show _ = _
          rw [bitLen_shift _ 8 (by omega)]
          rw [show (x / 4294967296).toNat / 2 ^ 8 = (x / 4294967296 / 256).toNat from by omega]
        have HI : Hid ((x / 4294967296 / 256).toNat < 256) := by show _ < _; omega
        have HB : Hid (bitLen x.toNat = 40 + bitLen (x / 4294967296 / 256).toNat) := by
          show _ = _
          rw [H1.out, H3.out]; omega
        clear H1 H3
        go_enter Tryz.func100, Tryz.ntmps100
        go_wp2
        go_ret
        refine ⟨ret_int ?_, rfl⟩
        rw [len8tab_get _ _]
        exact len_close 40 x.toNat _ HB.out HI.out (by omega)
      · have d3 : x / 4294967296 < 256 := by omega
        clear c3
        have HI : Hid ((x / 4294967296).toNat < 256) := by show _ < _; omega
        have HB : Hid (bitLen x.toNat = 32 + bitLen (x / 4294967296).toNat) := by
          show _ = _
          rw [H1.out]
        clear H1
        go_enter Tryz.func100, Tryz.ntmps100
        go_wp2
        go_ret
        refine ⟨ret_int ?_, rfl⟩
        rw [len8tab_get _ _]
        exact len_close 32 x.toNat _ HB.out HI.out (by omega)
  · have d1 : x < 4294967296 := by omega
    clear c1
    by_cases c2 : 65536 ≤ x
    · have H2 : Hid (bitLen (x).toNat = 16 + bitLen (x / 65536).toNat) := by
        show _ = _
        rw [bitLen_shift _ 16 (by omega)]
        rw [show (x).toNat / 2 ^ 16 = (x / 65536).toNat from by omega]
      by_cases c3 : 256 ≤ x / 65536
      · have H3 : Hid (bitLen (x / 65536).toNat = 8 + bitLen (x / 65536 / 256).toNat) := by
          show _ = _
          rw [bitLen_shift _ 8 (by omega)]
          rw [show (x / 65536).toNat / 2 ^ 8 = (x / 65536 / 256).toNat from by omega]
        have HI : Hid ((x / 65536 / 256).toNat < 256) := by show _ < _; omega
        have HB : Hid (bitLen x.toNat = 24 + bitLen (x / 65536 / 256).toNat) := by
          show _ = _
          rw [H2.out, H3.out]; omega
        clear H2 H3
        go_enter Tryz.func100, Tryz.ntmps100
        go_wp2
        go_ret
        refine ⟨ret_int ?_, rfl⟩
        rw [len8tab_get _ _]
        exact len_close 24 x.toNat _ HB.out HI.out (by omega)
      · have d3 : x / 65536 < 256 := by omega
        clear c3
        have HI : Hid ((x / 65536).toNat < 256) := by show _ < _; omega
        have HB : Hid (bitLen x.toNat = 16 + bitLen (x / 65536).toNat) := by
          show _ = _
          rw [H2.out]
        clear H2
        go_enter Tryz.func100, Tryz.ntmps100
        go_wp2
        go_ret
        refine ⟨ret_int ?_, rfl⟩
        rw [len8tab_get _ _]
        exact len_close 16 x.toNat _ HB.out HI.out (by omega)
    · have d2 : x < 65536 := by omega
      clear c2
      by_cases c3 : 256 ≤ x
      · have H3 : Hid (bitLen (x).toNat = 8 + bitLen (x / 256).toNat) := by
          show _ = _
          rw [bitLen_shift _ 8 (by omega)]
          rw [show (x).toNat / 2 ^ 8 = (x / 256).toNat from by omega]
        have HI : Hid ((x / 256).toNat < 256) := by show _ < _; omega
        have HB : Hid (bitLen x.toNat = 8 + bitLen (x / 256).toNat) := by
          show _ = _
          rw [H3.out]
        clear H3
        go_enter Tryz.func100, Tryz.ntmps100
        go_wp2
        go_ret
        refine ⟨ret_int ?_, rfl⟩
        rw [len8tab_get _ _]
        exact len_close 8 x.toNat _ HB.out HI.out (by omega)
      · have d3 : x < 256 := by omega
        clear c3
        have HI : Hid ((x).toNat < 256) := by show _ < _; omega
        have HB : Hid (bitLen x.toNat = 0 + bitLen (x).toNat) := by
          show _ = _
          omega
        go_enter Tryz.func100, Tryz.ntmps100
        go_wp2
        go_ret
        refine ⟨ret_int ?_, rfl⟩
        rw [len8tab_get _ _]
        exact len_close0 x.toNat HI.out
end Go.Proofs.YtblfmfanfpohbaaGreat
