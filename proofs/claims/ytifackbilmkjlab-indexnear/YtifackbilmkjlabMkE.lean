/- What index.Encode answers. -/
import Derived.Test.YtifackbilmkjlabMkm
import Derived.Deep.Onto
namespace Go.Proofs.Ytifackbilmkjlab
open Go.ChangeShapes Go.WideShapes Go.ChangeAt Go.RowKit
set_option linter.unusedVariables false
set_option maxRecDepth 20000 in
set_option maxHeartbeats 4000000 in
theorem ienc_any (L : List Mk) (n : Nat) (a : Option Addr) (cap : Nat) (w : World) (hn : L.length = n) (hm : Marks w a L) (hl : n ≤ maxLen) :
    Calls Try.prog 9 #[.slice a n cap] w fun e w' => ∃ v, e = .returned (.tuple #[v, .int .i64 (if validB L = true then 0 else 70)]) ∧ Own w' w.heap.size v (if validB L = true then mEnc L else []) ∧ Below w.heap.size w w' := by
  have HM : Hid (Marks w a L) := hm
  have HN : Hid (L.length = n) := hn
  have HLM : Hid (n ≤ maxLen) := hl
  by_cases hV : validB L = true
  · rw [if_pos hV, if_pos hV]
    obtain ⟨i0, hi, hz0, hz1, hz2⟩ := info_parts Try.info64
    have hle := valid_len hV
    rw [hn] at hle
    have HVF : Hid (vfrom 0 (-1) (L.drop 0) = true) := valid_from hV
    have HME : Hid (∀ x ∈ dls 0 0 L, x ≤ 18446744073709551615) := mEnc_le L hV
    have HDL : Hid ((dls 0 0 L).length = 2 * n) := by show _ = _; rw [dls_length, hn]
    have HV : Hid (validB L = true) := hV
    have hnI : (n : Int) ≤ 512 := by omega
    clear hm hn hl hV
    go_enter Try.func9, Try.ntmps9
    go_wp2_with (first
      | (go_at_call 6; refine (valid_any L _ _ _ _ HN.out HM.out HLM.out).mono ?_; rw [HV.out]; rintro e w1 ⟨rfl, hb1⟩; have hs1 := hb1.size)
      | (at_make; refine wpList_make_own _ rfl _ _ 45 rfl w.heap.size 46 i0 (.int .u64 0) 1 Try.underlying45 hi hz0 hz1 _ _ _ (2 * n) rfl rfl (by omega) (by rw [hz2]; omega) (by unfold maxLen; omega) hs1 ?_))
    intro w2 ho hg
    have hb2 : Below w.heap.size w w2 := hb1.grown hg hs1 (fun k hk => by cases hk)
    have hs2 := hb2.size
    have hOW : Own64 w2 w.heap.size (.slice (some ⟨w1.heap.size, 0, none⟩) 0 (2 * n)) [] := ⟨by simp, ho⟩
    have HOW : Hid (_) := hOW
    clear ho hOW hg
    go_wp2
    go_loopw [4, 17] (fun vus vi wr => ∃ (v0 : Value) (k : Nat) (s y y' : Int) (U : List Nat), v0 = vus ∧ k ≤ n ∧ vi = .int .i64 k ∧ MkAt wr w2.heap.size s y ∧ Own64 wr w.heap.size v0 U ∧ U ++ dls s y (L.drop k) = dls 0 0 L ∧ U.length = 2 * k ∧ 0 ≤ s ∧ 0 ≤ y ∧ s ≤ 1099511627776 ∧ y ≤ 1099511627776 ∧ y ≤ y' + 1 ∧ vfrom s y' (L.drop k) = true ∧ Below w.heap.size w wr) (fun _ vi _ => n - (intOf vi).toNat)
    case atStart => exact ⟨_, 0, 0, 0, -1, [], rfl, Nat.zero_le _, rfl, heap_alloc_new w2 _, ⟨HOW.out.1, World.ownsRow.alloc HOW.out.2 _⟩, rfl, rfl, by omega, by omega, by omega, by omega, by omega, HVF.out, hb2.alloc hs2 _⟩
    case round =>
      obtain ⟨v0, k, s, y, y', U, rfl, hk, rfl, hbx, hU, hd, hUl, hs0, hy0, hs40, hy40, hyy, hv, hbe⟩ := hrel
      have HBX : Hid (MkAt wr w2.heap.size s y) := hbx
      have HU : Hid (Own64 wr w.heap.size v0 U) := hU
      have HD : Hid (U ++ dls s y (L.drop k) = dls 0 0 L) := hd
      have HUL : Hid (U.length = 2 * k) := hUl
      have hlt2 := lt_of_heap hbx
      have hbs := hbe.size
      by_cases hkn : k < n
      · obtain ⟨⟨x, z⟩, hp⟩ := get_of_lt (L := L) (k := k) (by rw [HN.out]; exact hkn)
        rcases HM.out with h0 | ⟨b, off, rfl, hlt, hc⟩
        · exfalso; have := HN.out; rw [h0] at this; simp at this; omega
        obtain ⟨c0, c1⟩ := Marks.cells hc k (x, z) hp
        rw [← hbe.cell (p := ⟨b, off + k * 2, none⟩) hlt] at c0
        rw [← hbe.cell (p := ⟨b, off + k * 2 + 1, none⟩) hlt] at c1
        simp only at c0 c1
        rw [drop_get L k _ hp] at hv hd
        obtain ⟨g1, g2, g3, g4, g5⟩ := vfrom_head hv
        simp only at g1 g2 g3 g4 g5
        obtain ⟨d1, hxs⟩ : ∃ d1 : Nat, x - s = (d1 : Int) := ⟨(x - s).toNat, by omega⟩
        obtain ⟨d2, hzy⟩ : ∃ d2 : Nat, z - y = (d2 : Int) := ⟨(z - y).toNat, by omega⟩
        have hdd : dls s y ((x, z) :: L.drop (k + 1)) = d1 :: d2 :: dls x z (L.drop (k + 1)) := by
          simp only [dls]
          rw [show (x - s).toNat = d1 from by omega, show (z - y).toNat = d2 from by omega]
        rw [hdd] at hd
        have HD2 : Hid (U ++ [d1, d2] ++ dls x z (L.drop (k + 1)) = dls 0 0 L) := by show _ = _; rw [← hd]; simp
        have HG5 : Hid (vfrom x z (L.drop (k + 1)) = true) := g5
        have hd1 : (d1 : Int) ≤ 1099511627776 := by omega
        have hd2 : (d2 : Int) ≤ 1099511627776 := by omega
        have hd1n : d1 < 18446744073709551616 := by omega
        have hd2n : d2 < 18446744073709551616 := by omega
        have HDN : Hid (d1 < 18446744073709551616 ∧ d2 < 18446744073709551616) := ⟨hd1n, hd2n⟩
        obtain ⟨q0, q1, q2, q3⟩ := mk_box hbx
        have HO : Hid (((wr.alloc (.cells #[.int .i64 x, .int .i64 z] 35)).alloc (.cells #[.int .u64 (d1 : Int), .int .u64 (d2 : Int)] 46)).ownsRow w.heap.size 46 1 v0 (2 * k) (B64 U)) := by
          have h := World.ownsRow.alloc (World.ownsRow.alloc hU.2 (.cells #[.int .i64 x, .int .i64 z] 35)) (.cells #[.int .u64 (d1 : Int), .int .u64 (d2 : Int)] 46)
          rw [hUl] at h
          exact h
        have HA : Hid (MkAt ((wr.alloc (.cells #[.int .i64 x, .int .i64 z] 35)).alloc (.cells #[.int .u64 (d1 : Int), .int .u64 (d2 : Int)] 46)) w2.heap.size s y ∧ MkAt ((wr.alloc (.cells #[.int .i64 x, .int .i64 z] 35)).alloc (.cells #[.int .u64 (d1 : Int), .int .u64 (d2 : Int)] 46)) wr.heap.size x z) := ⟨mk_alloc (mk_alloc hbx _) _, mk_alloc (heap_alloc_new wr _) _⟩
        have HB : Hid (Below w.heap.size w ((wr.alloc (.cells #[.int .i64 x, .int .i64 z] 35)).alloc (.cells #[.int .u64 (d1 : Int), .int .u64 (d2 : Int)] 46))) := (hbe.alloc hbs _).alloc (by simp; omega) _
        clear hd1n hd2n hd hdd hp hc hv hU hbx hUl g1 g2 g5 HOW HVF hb1 hb2 hyy
        go_wp2_with (at_builtin; refine wpList_append_own _ rfl _ _ 45 rfl w.heap.size 46 i0 (.int .u64 0) 1 8 Try.underlying45 hi hz0 hz1 hz2 rfl (by decide) _ _ _ rfl HO.out ⟨wr.heap.size + 1, 0, none⟩ 2 2 [.int .u64 (d1 : Int), .int .u64 (d2 : Int)] rfl rfl (by have h := cell_new2 (wr.alloc (.cells #[.int .i64 x, .int .i64 z] 35)) (.int .u64 (d1 : Int)) (.int .u64 (d2 : Int)) 46; simpa using h) (one_new2 _ _) (by unfold maxLen; omega) (by omega) (by simp; omega) ?_; intro v4 w4 ho4 hg4 _; have hb4 := grown_row HB.out HO.out (by simp; omega) hg4; have hA4 : MkAt w4 w2.heap.size s y := grown_box HO.out hg4 HA.out.1 (by decide); have hM4 : MkAt w4 wr.heap.size x z := grown_box HO.out hg4 HA.out.2 (by decide); have hO4 : Own64 w4 w.heap.size v4 (U ++ [d1, d2]) := Own64.snoc2 HU.out.1 HDN.out.1 HDN.out.2 (by rw [HUL.out]; exact ho4); have HA4 : Hid (MkAt w4 w2.heap.size s y ∧ Own64 w4 w.heap.size v4 (U ++ [d1, d2])) := ⟨hA4, hO4⟩; obtain ⟨r0, r1, r2, r3⟩ := mk_box hA4; obtain ⟨t0, t1, _, _⟩ := mk_box hM4; clear hg4 ho4 hA4 hM4 hO4)
        go_roundw
        case rel =>
          refine ⟨v4, k + 1, x, z, z, U ++ [d1, d2], rfl, by omega, by go_num, mk_set HA4.out.1 x z, ?_, HD2.out, by rw [List.length_append, HUL.out]; rfl, by omega, by omega, by omega, by omega, by omega, HG5.out, ?_⟩
          · exact ⟨HA4.out.2.1, own_set (own_set HA4.out.2.2 HA4.out.1 (by decide) 0 _) (heap_setCell_same w4 w2.heap.size 0 _ _ (.int .i64 x) HA4.out.1) (by decide) 1 _⟩
          · exact (hb4.setCell (p := ⟨w2.heap.size, 0, none⟩) hs2 _).setCell (p := ⟨w2.heap.size, 1, none⟩) hs2 _
        case measure => simp [intOf]; omega
      · have hkn2 : k = n := by omega
        subst hkn2
        have HUE : Hid (U = dls 0 0 L) := by
          show U = _
          have h := HD.out
          rw [List.drop_eq_nil_of_le (by rw [HN.out]; omega)] at h
          simpa [dls] using h
        obtain ⟨ag, cg, hv0, hnum⟩ := HU.out.slice
        rw [HUL.out] at hv0
        subst hv0
        have HNU : Hid (Nums wr ag U) := hnum
        clear hnum hU hbx hd hUl hv HD HVF HOW HM HU hb1 hb2 hyy
        go_wp2_with (go_at_call 13; refine (encAll_any U _ _ _ _ HUL.out HNU.out (by omega)).mono ?_; rintro e w5 ⟨v5, rfl, ho5, hb5⟩)
        go_ret2
        refine ⟨_, rfl, ?_, hbe.trans (hb5.mono hbs)⟩
        unfold mEnc
        rw [← HUE.out]
        exact ⟨ho5.1, ho5.2.mono hbs⟩
  · rw [if_neg hV, if_neg hV]
    have HV : Hid (validB L = false) := by show _ = _; simpa using hV
    clear hm hn hl hV
    go_enter Try.func9, Try.ntmps9
    go_wp2_with (go_at_call 6; refine (valid_any L _ _ _ _ HN.out HM.out HLM.out).mono ?_; rw [HV.out]; rintro e w1 ⟨rfl, hb1⟩)
    go_ret2
    exact ⟨_, rfl, own_nil _ _, hb1⟩
end Go.Proofs.Ytifackbilmkjlab
