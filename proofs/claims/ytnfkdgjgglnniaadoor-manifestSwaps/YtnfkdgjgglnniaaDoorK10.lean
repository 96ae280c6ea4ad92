/- Own texts, joined: Len, Put. -/
import Derived.Test.YtnfkdgjgglnniaaDoorRows
import Derived.Test.YtnfkdgjgglnniaaDoorK00
namespace Go.Proofs.YtnfkdgjgglnniaaDoor
open Go.ChangeShapes Go.WideShapes Go.ChangeAt Go.RowKit
set_option maxRecDepth 20000 in
set_option maxHeartbeats 1000000 in
theorem len_any (x : Int) (w : World) (h0 : 0 ≤ x) (h1 : x ≤ 18446744073709551615) :
    Calls Tryd.prog 62 #[.int .u64 x] w fun e w' => e = .returned (.int .i64 (bitLen x.toNat)) ∧ w = w' := by
  by_cases c1 : 4294967296 ≤ x
  · have H1 : Hid (bitLen (x).toNat = 32 + bitLen (x / 4294967296).toNat) := by
      show _ = _
      rw [bitLen_shift _ 32 (by omega)]
      rw [show (x).toNat / 2 ^ 32 = (x / 4294967296).toNat from by omega]
    by_cases c2 : 65536 ≤ x / 4294967296
    · have H2 : Hid (bitLen (x / 4294967296).toNat = 16 + bitLen (x / 4294967296 / 65536).toNat) := by
        show _ = _
        rw [bitLen_shift _ 16 (by omega)]
        rw [show (x / 4294967296).toNat / 2 ^ 16 = (x / 4294967296 / 65536).toNat from by omega]
      by_cases c3 : 256 ≤ x / 4294967296 / 65536
      · have H3 : Hid (bitLen (x / 4294967296 / 65536).toNat = 8 + bitLen (x / 4294967296 / 65536 / 256).toNat) := by
          show _ = _
          rw [bitLen_shift _ 8 (by omega)]
          rw [show (x / 4294967296 / 65536).toNat / 2 ^ 8 = (x / 4294967296 / 65536 / 256).toNat from by omega]
        have HI : Hid ((x / 4294967296 / 65536 / 256).toNat < 256) := by show _ < _; omega
        have HB : Hid (bitLen x.toNat = 56 + bitLen (x / 4294967296 / 65536 / 256).toNat) := by
          show _ = _
          rw [H1.out, H2.out, H3.out]; omega
        clear H1 H2 H3
        go_enter Tryd.func62, Tryd.ntmps62
        go_wp2
        go_ret
        refine ⟨ret_int ?_, rfl⟩
        rw [len8tab_get _ _]
        exact len_close 56 x.toNat _ HB.out HI.out (by omega)
      · have d3 : x / 4294967296 / 65536 < 256 := by omega
        clear c3
        have HI : Hid ((x / 4294967296 / 65536).toNat < 256) := by show _ < _; omega
        have HB : Hid (bitLen x.toNat = 48 + bitLen (x / 4294967296 / 65536).toNat) := by
          show _ = _
          rw [H1.out, H2.out]; omega
        clear H1 H2
        go_enter Tryd.func62, Tryd.ntmps62
        go_wp2
        go_ret
        refine ⟨ret_int ?_, rfl⟩
        rw [len8tab_get _ _]
        exact len_close 48 x.toNat _ HB.out HI.out (by omega)
    · have d2 : x / 4294967296 < 65536 := by omega
      clear c2
      by_cases c3 : 256 ≤ x / 4294967296
      · have H3 : Hid (bitLen (x / 4294967296).toNat = 8 + bitLen (x / 4294967296 / 256).toNat) := by
          show _ = _
          rw [bitLen_shift _ 8 (by omega)]
          rw [show (x / 4294967296).toNat / 2 ^ 8 = (x / 4294967296 / 256).toNat from by omega]
        have HI : Hid ((x / 4294967296 / 256).toNat < 256) := by show _ < _; omega
        have HB : Hid (bitLen x.toNat = 40 + bitLen (x / 4294967296 / 256).toNat) := by
          show _ = _
          rw [H1.out, H3.out]; omega
        clear H1 H3
        go_enter Tryd.func62, Tryd.ntmps62
        go_wp2
        go_ret
        refine ⟨ret_int ?_, rfl⟩
        rw [len8tab_get _ _]
        exact len_close 40 x.toNat _ HB.out HI.out (by omega)
      · have d3 : x / 4294967296 < 256 := by omega
        clear c3
        have HI : Hid ((x / 4294967296).toNat < 256) := by show _ < _; omega
        have HB : Hid (bitLen x.toNat = 32 + bitLen (x / 4294967296).toNat) := by
          show _ = _
          rw [H1.out]
        clear H1
        go_enter Tryd.func62, Tryd.ntmps62
        go_wp2
        go_ret
        refine ⟨ret_int ?_, rfl⟩
        rw [len8tab_get _ _]
        exact len_close 32 x.toNat _ HB.out HI.out (by omega)
  · have d1 : x < 4294967296 := by omega
    clear c1
    by_cases c2 : 65536 ≤ x
    · have H2 : Hid (bitLen (x).toNat = 16 + bitLen (x / 65536).toNat) := by
        show _ = _
        rw [bitLen_shift _ 16 (by omega)]
        rw [show (x).toNat / 2 ^ 16 = (x / 65536).toNat from by omega]
      by_cases c3 : 256 ≤ x / 65536
      · have H3 : Hid (bitLen (x / 65536).toNat = 8 + bitLen (x / 65536 / 256).toNat) := by
          show _ = _
          rw [bitLen_shift _ 8 (by omega)]
          rw [show (x / 65536).toNat / 2 ^ 8 = (x / 65536 / 256).toNat from by omega]
        have HI : Hid ((x / 65536 / 256).toNat < 256) := by show _ < _; omega
        have HB : Hid (bitLen x.toNat = 24 + bitLen (x / 65536 / 256).toNat) := by
          show _ = _
          rw [H2.out, H3.out]; omega
        clear H2 H3
        go_enter Tryd.func62, Tryd.ntmps62
        go_wp2
        go_ret
        refine ⟨ret_int ?_, rfl⟩
        rw [len8tab_get _ _]
        exact len_close 24 x.toNat _ HB.out HI.out (by omega)
      · have d3 : x / 65536 < 256 := by omega
        clear c3
        have HI : Hid ((x / 65536).toNat < 256) := by show _ < _; omega
        have HB : Hid (bitLen x.toNat = 16 + bitLen (x / 65536).toNat) := by
          show _ = _
          rw [H2.out]
        clear H2
        go_enter Tryd.func62, Tryd.ntmps62
        go_wp2
        go_ret
        refine ⟨ret_int ?_, rfl⟩
        rw [len8tab_get _ _]
        exact len_close 16 x.toNat _ HB.out HI.out (by omega)
    · have d2 : x < 65536 := by omega
      clear c2
      by_cases c3 : 256 ≤ x
      · have H3 : Hid (bitLen (x).toNat = 8 + bitLen (x / 256).toNat) := by
          show _ = _
          rw [bitLen_shift _ 8 (by omega)]
          rw [show (x).toNat / 2 ^ 8 = (x / 256).toNat from by omega]
        have HI : Hid ((x / 256).toNat < 256) := by show _ < _; omega
        have HB : Hid (bitLen x.toNat = 8 + bitLen (x / 256).toNat) := by
          show _ = _
          rw [H3.out]
        clear H3
        go_enter Tryd.func62, Tryd.ntmps62
        go_wp2
        go_ret
        refine ⟨ret_int ?_, rfl⟩
        rw [len8tab_get _ _]
        exact len_close 8 x.toNat _ HB.out HI.out (by omega)
      · have d3 : x < 256 := by omega
        clear c3
        have HI : Hid ((x).toNat < 256) := by show _ < _; omega
        have HB : Hid (bitLen x.toNat = 0 + bitLen (x).toNat) := by
          show _ = _
          omega
        go_enter Tryd.func62, Tryd.ntmps62
        go_wp2
        go_ret
        refine ⟨ret_int ?_, rfl⟩
        rw [len8tab_get _ _]
        exact len_close0 x.toNat HI.out
end Go.Proofs.YtnfkdgjgglnniaaDoor
namespace Go.Proofs.YtnfkdgjgglnniaaDoor
open Go.ChangeShapes Go.WideShapes Go.ChangeAt Go.RowKit
theorem Tryd.info5 : (Tryd.prog.info? 5).map (fun i => (i.zero, i.size, i.bytes)) = some (some (.int .u8 0), 1, 1) := by kernel_rfl
set_option maxRecDepth 20000 in
set_option maxHeartbeats 1000000 in
theorem put_any (u : Nat) (base : Nat) (v : Value) (n : Nat) (xs : List Value) (w : World) (hu : u ≤ 18446744073709551615) (hown : w.ownsRow base 5 1 v n xs) (hbase : base ≤ w.heap.size) (hn : n + 10 ≤ 140737488355328) :
    Calls Tryd.prog 52 #[v, .int .u64 u] w fun e w' => ∃ v', e = .returned v' ∧ w'.ownsRow base 5 1 v' (n + (enc u).length) (xs ++ B8 (enc u)) ∧ Below base w w' := by
  obtain ⟨i0, hi, hz0, hz1, hz2⟩ := info_parts Tryd.info5
  go_enter Tryd.func52, Tryd.ntmps52
  go_wp2
  go_loopw [0, 1] (fun vb vu wr => ∃ (f uj : Nat) (pre : List Nat), vu = .int .u64 uj ∧ uj ≤ u ∧ uj < 128 ^ (f + 1) ∧ encF 10 u = pre ++ encF (f + 1) uj ∧ pre.length + f = 9 ∧ wr.ownsRow base 5 1 vb (n + pre.length) (xs ++ B8 pre) ∧ Below base w wr) (fun _ vu _ => (intOf vu).toNat)
  case atStart => exact ⟨9, u, [], rfl, by omega, lt_pow10 u hu, rfl, rfl, by simpa [B8] using hown, Below.refl _ _⟩
  case round =>
    obtain ⟨f, uj, pre, rfl, huj, hp, hE, hf, ho, hbe⟩ := hrel
    have HE : Hid (_ = _) := hE
    have HP : Hid (_ < _) := hp
    clear hE hp hown
    have hsz := hbe.size
    by_cases hlt : uj < 128
    · have HL : Hid (enc u = pre ++ [uj]) := by
        show enc u = _
        unfold enc; rw [HE.out]; unfold encF; rw [if_pos hlt]
      have hu8 : (uj : Int) ≤ 255 := by omega
      clear HE HP
      go_wp2_with (at_builtin; refine wpList_append_own _ rfl _ _ 40 rfl base 5 i0 (.int .u8 0) 1 1 Tryd.underlying40 hi hz0 hz1 hz2 rfl (by decide) _ _ _ rfl (ho.alloc _) ⟨wr.heap.size, 0, none⟩ 1 1 [.int .u8 (uj : Int)] rfl rfl (cell_new _ _ _) (one_new _) (by unfold maxLen; omega) (by omega) (by simp; omega) ?_)
      intro v' w1 hown' hgrow _
      have hb1 := grown_row (hbe.alloc (by omega) _) (ho.alloc _) (by simp; omega) hgrow
      clear hgrow ho hbe
      go_wp2
      go_ret
      refine ⟨v', rfl, ?_, hb1⟩
      rw [HL.out, B8_append, List.length_append]
      exact hown'
    · have HL : Hid (encF 10 u = (pre ++ [128 + uj % 128]) ++ encF f (uj / 128)) := by
        show encF 10 u = _
        rw [HE.out]; conv => lhs; unfold encF
        rw [if_neg hlt]; simp
      have hf1 : 1 ≤ f := by
        have h2 := HP.out
        by_cases h3 : f = 0
        · subst h3; simp at h2; omega
        · omega
      have HP2 : Hid (uj / 128 < 128 ^ f) := by
        have h2 := HP.out
        rw [Nat.pow_succ] at h2
        exact Nat.div_lt_of_lt_mul (by rw [Nat.mul_comm]; exact h2)
      have HO : Hid (_ = _) := or128 uj
      clear HE HP
      go_wp2_with (at_builtin; refine wpList_append_own _ rfl _ _ 40 rfl base 5 i0 (.int .u8 0) 1 1 Tryd.underlying40 hi hz0 hz1 hz2 rfl (by decide) _ _ _ rfl (ho.alloc _) ⟨wr.heap.size, 0, none⟩ 1 1 [.int .u8 (bits .or .u8 (IntKind.u8.wrap (uj : Int)) 128)] rfl rfl (cell_new _ _ _) (one_new _) (by unfold maxLen; omega) (by omega) (by simp; omega) ?_)
      intro v' w1 hown' hgrow _
      have hb1 := grown_row (hbe.alloc (by omega) _) (ho.alloc _) (by simp; omega) hgrow
      clear hgrow ho hbe
      go_wp2
      go_roundw
      case rel =>
        refine ⟨f - 1, uj / 128, pre ++ [128 + uj % 128], by go_num, by omega, ?_, ?_, by simp; omega, ?_, hb1⟩
        · rw [show f - 1 + 1 = f from by omega]; exact HP2.out
        · rw [show f - 1 + 1 = f from by omega]; exact HL.out
        · rw [HO.out] at hown'
          rw [B8_append, List.length_append]
          exact hown'
      case measure => simp [intOf]; omega
end Go.Proofs.YtnfkdgjgglnniaaDoor
