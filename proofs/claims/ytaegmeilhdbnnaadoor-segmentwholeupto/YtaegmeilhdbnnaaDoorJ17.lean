/- Own texts, joined: Sg5, Sc8, Sg14, Sg15. -/
import Derived.Test.YtaegmeilhdbnnaaDoorJ16
import Derived.Test.YtaegmeilhdbnnaaDoorJ04
import Derived.Test.YtaegmeilhdbnnaaDoorJ07
import Derived.Test.YtaegmeilhdbnnaaDoorJ15
import Derived.Test.YtaegmeilhdbnnaaDoorJ09
namespace Go.Proofs.YtaegmeilhdbnnaaDoor
open Go.ChangeShapes Go.WideShapes Go.ChangeAt Go.RowKit
set_option linter.unusedVariables false
set_option maxRecDepth 20000 in
set_option maxHeartbeats 4000000 in
theorem rheaderOf_any (l : List Nat) (n : Nat) (a : Option Addr) (cap : Nat) (w : World) (hn : l.length = n) (hb : Bytes w a l) (hl : n ≤ 281474976710656) (hcap : n ≤ cap) :
    Calls Tryd.prog 13 #[.slice a n cap] w fun e w' => e = .returned (HoV l) ∧ Below w.heap.size w w' := by
  have HB : Hid (Bytes w a l ∧ l.length = n) := ⟨hb, hn⟩
  have hmem := hb.mem
  clear hb hn
  have T1 : Hid True := trivial
  by_cases hE : decE l = 0
  · obtain ⟨b1, b2, b3, b4, b5, b6, b7⟩ := decB_facts hmem hE
    obtain ⟨P, hP⟩ : ∃ P, pk l = P := ⟨_, rfl⟩
    obtain ⟨S, hS⟩ : ∃ S, ps l = S := ⟨_, rfl⟩
    obtain ⟨B, hB⟩ : ∃ B, pn l = B := ⟨_, rfl⟩
    have HDV : Hid (∀ v, DV l v = .tuple #[FrV (P : Int) (S : Int) v, .int .i64 ((B : Int) + 20), .int .i64 0]) := fun v => by rw [← hP, ← hS, ← hB]; exact (dv_good l v hE).1
    have HBL : Hid ((decB l).length = B ∧ decE l = 0 ∧ ∀ y ∈ decB l, y < 256) := ⟨b3.trans hB, hE, b1⟩
    have hBb : B ≤ 16384 := by omega
    by_cases hK : P = 2
    · subst hK
      have HK : Hid (pk l = 2 ∧ ps l = S ∧ pn l = B) := ⟨hP, hS, hB⟩
      have hSI : (S : Int) ≤ 1099511627776 := by omega
      have hB20 : B + 20 ≤ n := by have := HB.out.2; omega
      have hB20I : (B : Int) + 20 ≤ (n : Int) := by omega
      have hBI : (B : Int) ≤ 16384 := by omega
      have hcapI : (n : Int) ≤ (cap : Int) := by omega
      clear hP hS hB b2 b3 b4 b5 b6 b7 hE
      obtain ⟨x, hx⟩ : ∃ x, (dec 0 0 (decB l)).1 = x := ⟨_, rfl⟩
      obtain ⟨k, hk⟩ : ∃ k, (dec 0 0 (decB l)).2.1 = k := ⟨_, rfl⟩
      obtain ⟨e1, he1⟩ : ∃ e, (dec 0 0 (decB l)).2.2 = e := ⟨_, rfl⟩
      have HD1 : Hid (dec 0 0 (decB l) = (x, k, e1)) := by show _ = _; rw [← hx, ← hk, ← he1]
      by_cases he10 : e1 = 0
      · subst he10
        obtain ⟨_, f2, _, f4, _⟩ := vdec_form (decB l) b1 he1
        rw [hk, HBL.out.1] at f2
        rw [hx] at f4
        have hkB : k ≤ B := f2
        have hxI : (x : Int) ≤ 18446744073709551615 := by omega
        clear hx hk he1 f2 b1
        obtain ⟨y, hy⟩ : ∃ x, (dec 0 0 ((decB l).drop k)).1 = x := ⟨_, rfl⟩
        obtain ⟨k2, hk2⟩ : ∃ z, (dec 0 0 ((decB l).drop k)).2.1 = z := ⟨_, rfl⟩
        obtain ⟨e2, he2⟩ : ∃ e, (dec 0 0 ((decB l).drop k)).2.2 = e := ⟨_, rfl⟩
        have HD2 : Hid (dec 0 0 ((decB l).drop k) = (y, k2, e2)) := by show _ = _; rw [← hy, ← hk2, ← he2]
        have hcs := hdr_case l HBL.out.2.1 HK.out.1 x k y k2 e2 HD1.out HD2.out
        by_cases he20 : e2 = 0
        · subst he20
          obtain ⟨_, _, _, f5, _⟩ := vdec_form ((decB l).drop k) (fun z hz => HBL.out.2.2 z (List.mem_of_mem_drop hz)) he2
          rw [hy] at f5
          have hyI : (y : Int) ≤ 18446744073709551615 := by omega
          clear hy hk2 he2
          by_cases hx9 : 999999 < x
          · have HH : Hid (hdr l = none) := hcs (by omega)
            have hx9I : (999999 : Int) < (x : Int) := by omega
            clear hcs
            go_enter Tryd.func13, Tryd.ntmps13
            go_wp2_with (first
              | (go_at_call 34; refine (rfdec_any l n a cap w HB.out.2 HB.out.1 (by rw [HB.out.2]; omega) (by rw [HB.out.2]; omega)).mono ?_; rintro r w1 ⟨v1, rfl, ho1, hb1⟩; rw [HDV.out v1]; obtain ⟨a1, c1, hv1, hc1, _, hy1, _⟩ := ho1.shape; rw [HBL.out.1] at hv1 hc1; subst hv1; have HB1 : Hid (Below w.heap.size w w1 ∧ Bytes w1 a1 (decB l) ∧ B ≤ c1) := ⟨hb1, hy1, hc1⟩; have hc1' : B ≤ c1 := hc1; have HYA : Hid (Bytes (w1.alloc (.cells #[.int .i64 2, .int .i64 (S : Int), .slice a1 B c1] 65)) a1 (decB l)) := hy1.keep ((Below.refl _ _).alloc (Nat.le_refl _) _); have HBA : Hid (Below w.heap.size w (w1.alloc (.cells #[.int .i64 2, .int .i64 (S : Int), .slice a1 B c1] 65))) := hb1.alloc hb1.size _; clear ho1 hb1 hy1 hc1)
              | (go_at_call 35; clear T1; refine (rdec_at (decB l) B x k _ a1 c1 _ HBL.out.1 HD1.out HYA.out (by rw [HBL.out.1]; unfold maxLen; omega)).mono ?_; rintro r w2 ⟨rfl, rfl⟩)
              | ((with_reducible refine at_slice ?_); refine wpList_slice_l rfl _ _ rfl rfl rfl hkB hc1' HBL.out.1 HYA.out ?_; intro xa hxa; have HXA : Hid (Bytes _ xa ((decB l).drop k)) := hxa; clear hxa)
              | (go_at_call 35; (refine (rdec_at ((decB l).drop k) (B - k) y k2 _ xa _ _ (by rw [List.length_drop, HBL.out.1]) HD2.out HXA.out (by rw [List.length_drop, HBL.out.1]; unfold maxLen; omega)).mono ?_; rintro r w2 ⟨rfl, rfl⟩))
              | fail)
            (try simp only [Exit.inBlock, Exit.then])
            refine bodyPost_ret (results_tmp4 rfl _ _ _) rfl ⟨by rw [ho_none HH.out]; rfl, HBA.out⟩
          by_cases hy9 : 2199023255552 < y
          · have HH : Hid (hdr l = none) := hcs (by omega)
            have hx9I : (x : Int) ≤ 999999 := by omega
            have hy9I : (2199023255552 : Int) < (y : Int) := by omega
            clear hcs
            go_enter Tryd.func13, Tryd.ntmps13
            go_wp2_with (first
              | (go_at_call 34; refine (rfdec_any l n a cap w HB.out.2 HB.out.1 (by rw [HB.out.2]; omega) (by rw [HB.out.2]; omega)).mono ?_; rintro r w1 ⟨v1, rfl, ho1, hb1⟩; rw [HDV.out v1]; obtain ⟨a1, c1, hv1, hc1, _, hy1, _⟩ := ho1.shape; rw [HBL.out.1] at hv1 hc1; subst hv1; have HB1 : Hid (Below w.heap.size w w1 ∧ Bytes w1 a1 (decB l) ∧ B ≤ c1) := ⟨hb1, hy1, hc1⟩; have hc1' : B ≤ c1 := hc1; have HYA : Hid (Bytes (w1.alloc (.cells #[.int .i64 2, .int .i64 (S : Int), .slice a1 B c1] 65)) a1 (decB l)) := hy1.keep ((Below.refl _ _).alloc (Nat.le_refl _) _); have HBA : Hid (Below w.heap.size w (w1.alloc (.cells #[.int .i64 2, .int .i64 (S : Int), .slice a1 B c1] 65))) := hb1.alloc hb1.size _; clear ho1 hb1 hy1 hc1)
              | (go_at_call 35; clear T1; refine (rdec_at (decB l) B x k _ a1 c1 _ HBL.out.1 HD1.out HYA.out (by rw [HBL.out.1]; unfold maxLen; omega)).mono ?_; rintro r w2 ⟨rfl, rfl⟩)
              | ((with_reducible refine at_slice ?_); refine wpList_slice_l rfl _ _ rfl rfl rfl hkB hc1' HBL.out.1 HYA.out ?_; intro xa hxa; have HXA : Hid (Bytes _ xa ((decB l).drop k)) := hxa; clear hxa)
              | (go_at_call 35; (refine (rdec_at ((decB l).drop k) (B - k) y k2 _ xa _ _ (by rw [List.length_drop, HBL.out.1]) HD2.out HXA.out (by rw [List.length_drop, HBL.out.1]; unfold maxLen; omega)).mono ?_; rintro r w2 ⟨rfl, rfl⟩))
              | fail)
            (try simp only [Exit.inBlock, Exit.then])
            refine bodyPost_ret (results_tmp4 rfl _ _ _) rfl ⟨by rw [ho_none HH.out]; rfl, HBA.out⟩
          have hx9I : (x : Int) ≤ 999999 := by omega
          have hy9I : (y : Int) ≤ 2199023255552 := by omega
          by_cases hin : sgB (x : Int) (y : Int) = true
          · obtain ⟨_, _, r1, r2, i1, i2, i3, i4⟩ := sgB_nat hin
            have hrf := hdr_ref l hmem HBL.out.2.1 HK.out.1 x k y k2 HD1.out HD2.out (by omega) (by omega) (by omega) (by omega)
            rw [HK.out.2.2] at hrf
            have HHE : Hid (hdE (x : Int) (y : Int) = 0 ∧ hdV (x : Int) (y : Int) = hdrL x y) := ⟨by unfold hdE; rw [if_pos hin], by unfold hdV; rw [if_pos hin]; rfl⟩
            have HLN : Hid ((hdrL x y).length ≤ 16404 ∧ (l.take (B + 20)).length = B + 20) := ⟨by unfold hdrL; rw [frameL_length]; have := (hdr_body x y (by omega) (by omega)).2; omega, by rw [List.length_take, HB.out.2]; omega⟩
            obtain ⟨q, hq⟩ : ∃ q, (hdrL x y).length = q := ⟨_, rfl⟩
            have HQ : Hid ((hdrL x y).length = q) := hq
            have HBK : Hid (Bytes w a (l.take (B + 20))) := HB.out.1.take (B + 20)
            clear r1 r2 i1 i2 i3 i4 hcs hin hq
            by_cases hsm : hdrL x y = l.take (B + 20)
            · have HH : Hid (hdr l = some (x, y) ∧ pn l = B ∧ decide (hdrL x y = l.take (B + 20)) = true) := ⟨by rw [hrf, if_pos hsm], HK.out.2.2, decide_eq_true hsm⟩
              clear hrf hsm
              go_enter Tryd.func13, Tryd.ntmps13
              go_wp2_with (first
                | (go_at_call 34; refine (rfdec_any l n a cap w HB.out.2 HB.out.1 (by rw [HB.out.2]; omega) (by rw [HB.out.2]; omega)).mono ?_; rintro r w1 ⟨v1, rfl, ho1, hb1⟩; rw [HDV.out v1]; obtain ⟨a1, c1, hv1, hc1, _, hy1, _⟩ := ho1.shape; rw [HBL.out.1] at hv1 hc1; subst hv1; have HB1 : Hid (Below w.heap.size w w1 ∧ Bytes w1 a1 (decB l) ∧ B ≤ c1) := ⟨hb1, hy1, hc1⟩; have hc1' : B ≤ c1 := hc1; have HYA : Hid (Bytes (w1.alloc (.cells #[.int .i64 2, .int .i64 (S : Int), .slice a1 B c1] 65)) a1 (decB l)) := hy1.keep ((Below.refl _ _).alloc (Nat.le_refl _) _); have HBA : Hid (Below w.heap.size w (w1.alloc (.cells #[.int .i64 2, .int .i64 (S : Int), .slice a1 B c1] 65))) := hb1.alloc hb1.size _; clear ho1 hb1 hy1 hc1)
                | (go_at_call 35; clear T1; refine (rdec_at (decB l) B x k _ a1 c1 _ HBL.out.1 HD1.out HYA.out (by rw [HBL.out.1]; unfold maxLen; omega)).mono ?_; rintro r w2 ⟨rfl, rfl⟩)
                | ((with_reducible refine at_slice ?_); refine wpList_slice_l rfl _ _ rfl rfl rfl hkB hc1' HBL.out.1 HYA.out ?_; intro xa hxa; have HXA : Hid (Bytes _ xa ((decB l).drop k)) := hxa; clear hxa)
                | (go_at_call 35; (refine (rdec_at ((decB l).drop k) (B - k) y k2 _ xa _ _ (by rw [List.length_drop, HBL.out.1]) HD2.out HXA.out (by rw [List.length_drop, HBL.out.1]; unfold maxLen; omega)).mono ?_; rintro r w2 ⟨rfl, rfl⟩))
                | (go_at_call 10; refine (rheader_any _ _ _).mono ?_; rw [HHE.out.1, HHE.out.2]; rintro r w3 ⟨v3, rfl, ho3, hb3⟩; obtain ⟨a3, c3, hv3, hc3, _, hy3, _⟩ := ho3.shape; rw [HQ.out] at hv3; subst hv3; have HB3 : Hid (Below w.heap.size w w3) := below_next HBA.out hb3; have HY3 : Hid (Bytes w3 a3 (hdrL x y)) := hy3; clear ho3 hb3 hy3)
                | (go_at_call 12; refine (same_at (hdrL x y) (l.take (B + 20)) q (B + 20) a3 a _ _ w3 HQ.out HLN.out.2 HY3.out (HBK.out.keep HB3.out) (by have := HLN.out.1; unfold maxLen; omega) (by rw [HLN.out.2]; unfold maxLen; omega)).mono ?_; rw [HH.out.2.2]; rintro r w4 ⟨rfl, nq, rfl⟩)
                | fail)
              (try simp only [Exit.inBlock, Exit.then])
              refine bodyPost_ret (results_tmp4 rfl _ _ _) rfl ⟨by rw [ho_some HH.out.1, HH.out.2.1]; rfl, below_drewN HB3.out nq⟩
            · have HH : Hid (hdr l = none ∧ decide (hdrL x y = l.take (B + 20)) = false) := ⟨by rw [hrf, if_neg hsm], decide_eq_false hsm⟩
              clear hrf hsm
              go_enter Tryd.func13, Tryd.ntmps13
              go_wp2_with (first
                | (go_at_call 34; refine (rfdec_any l n a cap w HB.out.2 HB.out.1 (by rw [HB.out.2]; omega) (by rw [HB.out.2]; omega)).mono ?_; rintro r w1 ⟨v1, rfl, ho1, hb1⟩; rw [HDV.out v1]; obtain ⟨a1, c1, hv1, hc1, _, hy1, _⟩ := ho1.shape; rw [HBL.out.1] at hv1 hc1; subst hv1; have HB1 : Hid (Below w.heap.size w w1 ∧ Bytes w1 a1 (decB l) ∧ B ≤ c1) := ⟨hb1, hy1, hc1⟩; have hc1' : B ≤ c1 := hc1; have HYA : Hid (Bytes (w1.alloc (.cells #[.int .i64 2, .int .i64 (S : Int), .slice a1 B c1] 65)) a1 (decB l)) := hy1.keep ((Below.refl _ _).alloc (Nat.le_refl _) _); have HBA : Hid (Below w.heap.size w (w1.alloc (.cells #[.int .i64 2, .int .i64 (S : Int), .slice a1 B c1] 65))) := hb1.alloc hb1.size _; clear ho1 hb1 hy1 hc1)
                | (go_at_call 35; clear T1; refine (rdec_at (decB l) B x k _ a1 c1 _ HBL.out.1 HD1.out HYA.out (by rw [HBL.out.1]; unfold maxLen; omega)).mono ?_; rintro r w2 ⟨rfl, rfl⟩)
                | ((with_reducible refine at_slice ?_); refine wpList_slice_l rfl _ _ rfl rfl rfl hkB hc1' HBL.out.1 HYA.out ?_; intro xa hxa; have HXA : Hid (Bytes _ xa ((decB l).drop k)) := hxa; clear hxa)
                | (go_at_call 35; (refine (rdec_at ((decB l).drop k) (B - k) y k2 _ xa _ _ (by rw [List.length_drop, HBL.out.1]) HD2.out HXA.out (by rw [List.length_drop, HBL.out.1]; unfold maxLen; omega)).mono ?_; rintro r w2 ⟨rfl, rfl⟩))
                | (go_at_call 10; refine (rheader_any _ _ _).mono ?_; rw [HHE.out.1, HHE.out.2]; rintro r w3 ⟨v3, rfl, ho3, hb3⟩; obtain ⟨a3, c3, hv3, hc3, _, hy3, _⟩ := ho3.shape; rw [HQ.out] at hv3; subst hv3; have HB3 : Hid (Below w.heap.size w w3) := below_next HBA.out hb3; have HY3 : Hid (Bytes w3 a3 (hdrL x y)) := hy3; clear ho3 hb3 hy3)
                | (go_at_call 12; refine (same_at (hdrL x y) (l.take (B + 20)) q (B + 20) a3 a _ _ w3 HQ.out HLN.out.2 HY3.out (HBK.out.keep HB3.out) (by have := HLN.out.1; unfold maxLen; omega) (by rw [HLN.out.2]; unfold maxLen; omega)).mono ?_; rw [HH.out.2]; rintro r w4 ⟨rfl, nq, rfl⟩)
                | fail)
              (try simp only [Exit.inBlock, Exit.then])
              refine bodyPost_ret (results_tmp4 rfl _ _ _) rfl ⟨by rw [ho_none HH.out.1]; rfl, below_drewN HB3.out nq⟩
          · have HH : Hid (hdr l = none) := hcs (fun h => hin (decide_eq_true ⟨by omega, by omega, by omega, by omega⟩))
            have HHE : Hid (hdE (x : Int) (y : Int) = 1 ∧ hdV (x : Int) (y : Int) = []) := ⟨by unfold hdE; rw [if_neg hin], by unfold hdV; rw [if_neg hin]⟩
            clear hcs hin
            go_enter Tryd.func13, Tryd.ntmps13
            go_wp2_with (first
              | (go_at_call 34; refine (rfdec_any l n a cap w HB.out.2 HB.out.1 (by rw [HB.out.2]; omega) (by rw [HB.out.2]; omega)).mono ?_; rintro r w1 ⟨v1, rfl, ho1, hb1⟩; rw [HDV.out v1]; obtain ⟨a1, c1, hv1, hc1, _, hy1, _⟩ := ho1.shape; rw [HBL.out.1] at hv1 hc1; subst hv1; have HB1 : Hid (Below w.heap.size w w1 ∧ Bytes w1 a1 (decB l) ∧ B ≤ c1) := ⟨hb1, hy1, hc1⟩; have hc1' : B ≤ c1 := hc1; have HYA : Hid (Bytes (w1.alloc (.cells #[.int .i64 2, .int .i64 (S : Int), .slice a1 B c1] 65)) a1 (decB l)) := hy1.keep ((Below.refl _ _).alloc (Nat.le_refl _) _); have HBA : Hid (Below w.heap.size w (w1.alloc (.cells #[.int .i64 2, .int .i64 (S : Int), .slice a1 B c1] 65))) := hb1.alloc hb1.size _; clear ho1 hb1 hy1 hc1)
              | (go_at_call 35; clear T1; refine (rdec_at (decB l) B x k _ a1 c1 _ HBL.out.1 HD1.out HYA.out (by rw [HBL.out.1]; unfold maxLen; omega)).mono ?_; rintro r w2 ⟨rfl, rfl⟩)
              | ((with_reducible refine at_slice ?_); refine wpList_slice_l rfl _ _ rfl rfl rfl hkB hc1' HBL.out.1 HYA.out ?_; intro xa hxa; have HXA : Hid (Bytes _ xa ((decB l).drop k)) := hxa; clear hxa)
              | (go_at_call 35; (refine (rdec_at ((decB l).drop k) (B - k) y k2 _ xa _ _ (by rw [List.length_drop, HBL.out.1]) HD2.out HXA.out (by rw [List.length_drop, HBL.out.1]; unfold maxLen; omega)).mono ?_; rintro r w2 ⟨rfl, rfl⟩))
              | (go_at_call 10; refine (rheader_any _ _ _).mono ?_; rw [HHE.out.1, HHE.out.2]; rintro r w3 ⟨v3, rfl, ho3, hb3⟩; obtain ⟨a3, c3, hv3, _⟩ := ho3.shape; subst hv3; have HB3 : Hid (Below w.heap.size w w3) := below_next HBA.out hb3; clear ho3 hb3)
              | fail)
            (try simp only [Exit.inBlock, Exit.then])
            refine bodyPost_ret (results_tmp4 rfl _ _ _) rfl ⟨by rw [ho_none HH.out]; rfl, HB3.out⟩
        · have HH : Hid (hdr l = none) := hcs (fun h => he20 h.1)
          have heI : ((e2 : Int) != 0) = true := by simp; omega
          clear hcs hy hk2 he2
          go_enter Tryd.func13, Tryd.ntmps13
          go_wp2_with (first
            | (go_at_call 34; refine (rfdec_any l n a cap w HB.out.2 HB.out.1 (by rw [HB.out.2]; omega) (by rw [HB.out.2]; omega)).mono ?_; rintro r w1 ⟨v1, rfl, ho1, hb1⟩; rw [HDV.out v1]; obtain ⟨a1, c1, hv1, hc1, _, hy1, _⟩ := ho1.shape; rw [HBL.out.1] at hv1 hc1; subst hv1; have HB1 : Hid (Below w.heap.size w w1 ∧ Bytes w1 a1 (decB l) ∧ B ≤ c1) := ⟨hb1, hy1, hc1⟩; have hc1' : B ≤ c1 := hc1; have HYA : Hid (Bytes (w1.alloc (.cells #[.int .i64 2, .int .i64 (S : Int), .slice a1 B c1] 65)) a1 (decB l)) := hy1.keep ((Below.refl _ _).alloc (Nat.le_refl _) _); have HBA : Hid (Below w.heap.size w (w1.alloc (.cells #[.int .i64 2, .int .i64 (S : Int), .slice a1 B c1] 65))) := hb1.alloc hb1.size _; clear ho1 hb1 hy1 hc1)
            | (go_at_call 35; clear T1; refine (rdec_at (decB l) B x k _ a1 c1 _ HBL.out.1 HD1.out HYA.out (by rw [HBL.out.1]; unfold maxLen; omega)).mono ?_; rintro r w2 ⟨rfl, rfl⟩)
            | ((with_reducible refine at_slice ?_); refine wpList_slice_l rfl _ _ rfl rfl rfl hkB hc1' HBL.out.1 HYA.out ?_; intro xa hxa; have HXA : Hid (Bytes _ xa ((decB l).drop k)) := hxa; clear hxa)
            | (go_at_call 35; (refine (rdec_at ((decB l).drop k) (B - k) y k2 _ xa _ _ (by rw [List.length_drop, HBL.out.1]) HD2.out HXA.out (by rw [List.length_drop, HBL.out.1]; unfold maxLen; omega)).mono ?_; rintro r w2 ⟨rfl, rfl⟩))
            | fail)
          (try simp only [Exit.inBlock, Exit.then])
          refine bodyPost_ret (results_tmp4 rfl _ _ _) rfl ⟨by rw [ho_none HH.out]; rfl, HBA.out⟩
      · have HH : Hid (hdr l = none) := hdr_none_rd l (by rw [nrd_step 1 _ x k e1 HD1.out, if_neg (fun h => he10 h.1)])
        have heI : ((e1 : Int) != 0) = true := by simp; omega
        clear hx hk he1
        go_enter Tryd.func13, Tryd.ntmps13
        go_wp2_with (first
          | (go_at_call 34; refine (rfdec_any l n a cap w HB.out.2 HB.out.1 (by rw [HB.out.2]; omega) (by rw [HB.out.2]; omega)).mono ?_; rintro r w1 ⟨v1, rfl, ho1, hb1⟩; rw [HDV.out v1]; obtain ⟨a1, c1, hv1, hc1, _, hy1, _⟩ := ho1.shape; rw [HBL.out.1] at hv1 hc1; subst hv1; have HB1 : Hid (Below w.heap.size w w1 ∧ Bytes w1 a1 (decB l) ∧ B ≤ c1) := ⟨hb1, hy1, hc1⟩; have hc1' : B ≤ c1 := hc1; have HYA : Hid (Bytes (w1.alloc (.cells #[.int .i64 2, .int .i64 (S : Int), .slice a1 B c1] 65)) a1 (decB l)) := hy1.keep ((Below.refl _ _).alloc (Nat.le_refl _) _); have HBA : Hid (Below w.heap.size w (w1.alloc (.cells #[.int .i64 2, .int .i64 (S : Int), .slice a1 B c1] 65))) := hb1.alloc hb1.size _; clear ho1 hb1 hy1 hc1)
          | (go_at_call 35; clear T1; refine (rdec_at (decB l) B x k _ a1 c1 _ HBL.out.1 HD1.out HYA.out (by rw [HBL.out.1]; unfold maxLen; omega)).mono ?_; rintro r w2 ⟨rfl, rfl⟩)
          | fail)
        (try simp only [Exit.inBlock, Exit.then])
        refine bodyPost_ret (results_tmp4 rfl _ _ _) rfl ⟨by rw [ho_none HH.out]; rfl, HBA.out⟩
    · have HH : Hid (hdr l = none) := hdr_none_e l (.inr (by rw [hP]; exact hK))
      have hPI : ((P : Int) != 2) = true := by simp; omega
      clear hP hS hB b1 b2 b3 b4 b5 b6 b7 hE
      go_enter Tryd.func13, Tryd.ntmps13
      go_wp2_with (go_at_call 34; refine (rfdec_any l n a cap w HB.out.2 HB.out.1 (by rw [HB.out.2]; omega) (by rw [HB.out.2]; omega)).mono ?_; rintro r w1 ⟨v1, rfl, ho1, hb1⟩; rw [HDV.out v1]; obtain ⟨a1, c1, hv1, _⟩ := ho1.shape; subst hv1; have HB1 : Hid (Below w.heap.size w w1) := hb1; clear ho1 hb1)
      (try simp only [Exit.inBlock, Exit.then])
      refine bodyPost_ret (results_tmp4 rfl _ _ _) rfl ⟨by rw [ho_none HH.out]; rfl, HB1.out.alloc HB1.out.size _⟩
  · obtain ⟨e, he⟩ : ∃ e, decE l = e := ⟨_, rfl⟩
    have HDV : Hid (∀ v, DV l v = .tuple #[FrV 0 0 v, .int .i64 0, .int .i64 (e : Int)]) := fun v => (dv_none l v e he (by omega)).1
    have HH : Hid (hdr l = none) := hdr_none_e l (.inl hE)
    have heI : ((e : Int) != 0) = true := by simp; omega
    clear hE he
    go_enter Tryd.func13, Tryd.ntmps13
    go_wp2_with (go_at_call 34; refine (rfdec_any l n a cap w HB.out.2 HB.out.1 (by rw [HB.out.2]; omega) (by rw [HB.out.2]; omega)).mono ?_; rintro r w1 ⟨v1, rfl, ho1, hb1⟩; rw [HDV.out v1]; obtain ⟨a1, c1, hv1, _⟩ := ho1.shape; subst hv1; have HB1 : Hid (Below w.heap.size w w1) := hb1; clear ho1 hb1)
    (try simp only [Exit.inBlock, Exit.then])
    refine bodyPost_ret (results_tmp4 rfl _ _ _) rfl ⟨by rw [ho_none HH.out]; rfl, HB1.out.alloc HB1.out.size _⟩
end Go.Proofs.YtaegmeilhdbnnaaDoor
namespace Go.Proofs.YtaegmeilhdbnnaaDoor
open Go.ChangeShapes Go.WideShapes Go.ChangeAt Go.RowKit Go.Shelf
set_option linter.unusedVariables false
set_option maxRecDepth 100000 in
set_option maxHeartbeats 1000000 in
/-- from no place at all -/
theorem run_off (m : Nat) (a : Option Addr) (cap : Nat) (d first most : Int) (w : World) (hd : d < 0 ∨ (m : Int) < d) :
    Calls Tryd.prog 41 #[.slice a m cap, .int .i64 d, .int .i64 first, .int .i64 most] w fun e W' => e = .returned (.tuple #[.slice none 0 0, .int .i64 0]) ∧ Below w.heap.size w W' := by
  by_cases h0 : d < 0
  · clear hd
    go_enter Tryd.func41, Tryd.ntmps41
    go_wp2
    go_ret2
    exact ⟨rfl, (((Below.refl _ w).alloc (Nat.le_refl _) _).alloc (by simp) _).alloc (by simp; omega) _⟩
  · have h1 : (m : Int) < d := by omega
    clear hd
    go_enter Tryd.func41, Tryd.ntmps41
    go_wp2
    go_ret2
    exact ⟨rfl, (((Below.refl _ w).alloc (Nat.le_refl _) _).alloc (by simp) _).alloc (by simp; omega) _⟩
set_option maxRecDepth 100000 in
set_option maxHeartbeats 1000000 in
theorem rrun_off (m : Nat) (a : Option Addr) (cap : Nat) (d first most : Int) (w : World) (hd : d < 0 ∨ (m : Int) < d) :
    Calls Tryd.prog 38 #[.slice a m cap, .int .i64 d, .int .i64 first, .int .i64 most] w fun e W' => e = .returned (.tuple #[.slice none 0 0, .int .i64 0]) ∧ Below w.heap.size w W' := by
  by_cases h0 : d < 0
  · clear hd
    go_enter Tryd.func38, Tryd.ntmps38
    go_wp2
    go_ret2
    exact ⟨rfl, Below.refl _ w⟩
  · have h1 : (m : Int) < d := by omega
    clear hd
    go_enter Tryd.func38, Tryd.ntmps38
    go_wp2
    go_ret2
    exact ⟨rfl, Below.refl _ w⟩
theorem take_snoc {α : Type} {L : List α} {k : Nat} {x : α} (h : L[k]? = some x) : L.take (k + 1) = L.take k ++ [x] := by
  rw [List.take_add_one, h]; rfl
set_option maxRecDepth 100000 in
set_option maxHeartbeats 8000000 in
theorem rrun_any (l : List Nat) (m : Nat) (a : Option Addr) (cap d : Nat) (first most : Int) (w : World) (hm : l.length = m) (hb : Bytes w a l) (hcap : m ≤ cap) (hl : m ≤ 16777216) (hd : d ≤ m) (hf0 : -9223372036854775808 ≤ first) (hf1 : first ≤ 9223372036854775807) :
    Calls Tryd.prog 38 #[.slice a m cap, .int .i64 (d : Int), .int .i64 first, .int .i64 most] w fun e W' => ∃ (xs : List It) (v : Value), e = .returned (.tuple #[v, .int .i64 (endZ d (runL l d first most) : Int)]) ∧ xs.map It.fm = runL l d first most ∧ OwnP W' w.heap.size v xs ∧ Below w.heap.size w W' := by
  obtain ⟨i0, hi, hz0, hz1, hz2⟩ := info_parts Tryd.infoPl
  have hdI : (d : Int) ≤ (m : Int) := by omega
  have hmI : (m : Int) ≤ 16777216 := by omega
  have HX : Hid (l.length = m ∧ Bytes w a l ∧ m ≤ cap) := ⟨hm, hb, hcap⟩
  have HD : Hid ((l.drop d).length = m - d) := by show _ = _; rw [List.length_drop, hm]
  clear hm hb hcap
  go_enter Tryd.func38, Tryd.ntmps38
  go_wp2_with (first
    | ((with_reducible refine at_slice ?_); refine wpList_slice_l rfl _ _ rfl rfl rfl hd HX.out.2.2 HX.out.1 HX.out.2.1 ?_; intro ax hax)
    | (go_at_call 68; refine (rall_any (l.drop d) (m - d) ax _ _ HD.out hax (by have := HX.out.2.2; omega) (by omega)).mono ?_; rintro e w1 ⟨xs, v1, rfl, hx1, hp1, hb1⟩; obtain ⟨a1, c1, rfl, hq1⟩ := hp1.plc; obtain ⟨n, hn⟩ : ∃ n, xs.length = n := ⟨_, rfl⟩; rw [hn]; have HP : Hid (OwnP w1 w.heap.size (.slice a1 xs.length c1) xs ∧ PlcA w1 a1 xs ∧ xs.map It.fm = scanL (l.drop d) ∧ xs.length = n ∧ Below w.heap.size w w1) := ⟨hp1, hq1, hx1, hn, hb1⟩; clear hp1 hx1 hq1 hb1 hn hax))
  have HN : Hid (20 * n ≤ m - d) := by
    have := scanL_count (l.drop d)
    rw [← HP.out.2.2.1, HD.out, List.length_map, HP.out.2.2.2.1] at this
    exact this
  have hn20 : n ≤ 838860 := by have := HN.out; omega
  have hnI : (n : Int) ≤ 838860 := by omega
  go_loopw [13, 14, 37] (fun vo ve vi wr => ∃ (v0 : Value) (k E : Nat), v0 = vo ∧ k ≤ n ∧ vi = .int .i64 k ∧ ve = .int .i64 E ∧ E = endZ d (((xs.take k).map (shI d)).map It.fm) ∧ Acc first most (xs.take k) ∧ wr.ownsRow w1.heap.size 67 5 v0 k (pflt ((xs.take k).map (shI d))) ∧ Below w1.heap.size w1 wr) (fun _ _ vi _ => n - (intOf vi).toNat)
  case atStart => exact ⟨_, 0, d, rfl, Nat.zero_le _, rfl, rfl, rfl, (fun i x h => by simp at h), World.ownsRow_lit w1 #[] 0 (Nat.le_refl _) (by simp) rfl, (Below.refl _ _).alloc (Nat.le_refl _) _⟩
  case round =>
    obtain ⟨v0, k, E, rfl, hk, rfl, rfl, hE, hacc, hrow, hbr⟩ := hrel
    have HR : Hid (E = endZ d (((xs.take k).map (shI d)).map It.fm) ∧ Acc first most (xs.take k) ∧ wr.ownsRow w1.heap.size 67 5 v0 k (pflt ((xs.take k).map (shI d)))) := ⟨hE, hacc, hrow⟩
    clear hE hacc hrow
    have hsz := hbr.size
    have HTL : Hid ((xs.take k).length = k) := by show _ = _; rw [List.length_take, HP.out.2.2.2.1]; omega
    -- what is handed back at k frames
    have HFIN : Hid (((xs.take k).map (shI d)).map It.fm = runL l d first most → ∀ wq, Below wr.heap.size wr wq → ∃ (zs : List It) (v : Value), Ending.returned (.tuple #[v0, .int .i64 (E : Int)]) = .returned (.tuple #[v, .int .i64 (endZ d (runL l d first most) : Int)]) ∧ zs.map It.fm = runL l d first most ∧ OwnP wq w.heap.size v zs ∧ Below w.heap.size w wq) := fun hfin wq hwq => by
      have hbq : Below w1.heap.size w1 wq := hbr.trans (hwq.mono hsz)
      refine ⟨(xs.take k).map (shI d), v0, by rw [HR.out.1, hfin], hfin, ⟨?_, ?_⟩, HP.out.2.2.2.2.trans (hbq.mono HP.out.2.2.2.2.size)⟩
      · rw [List.length_map, HTL.out]
        exact World.ownsRow.mono (own_below HR.out.2.2 hwq) HP.out.2.2.2.2.size
      · intro x hx
        obtain ⟨y, hy, rfl⟩ := List.mem_map.1 hx
        exact ⟨(HP.out.1.2 y (List.mem_of_mem_take hy)).1, own_below (HP.out.1.2 y (List.mem_of_mem_take hy)).2 hbq⟩
    by_cases hkn : k < n
    · obtain ⟨⟨⟨p, K, S, B⟩, bv⟩, hp⟩ := lt_get (L := xs) (k := k) (by rw [HP.out.2.2.2.1]; exact hkn)
      obtain ⟨b, off, rfl, hlt, c0, c1, c2, c3, c4⟩ := (HP.out.2.1.keep hbr).at k _ hp
      obtain ⟨a2, s2, e2, _⟩ := HP.out.2.1.byt _ (List.mem_of_getElem? hp)
      have hmem : (⟨p, K, S, B⟩ : Fm) ∈ scanL (l.drop d) := by rw [← HP.out.2.2.1]; exact List.mem_map.2 ⟨_, List.mem_of_getElem? hp, rfl⟩
      obtain ⟨hbl, hps⟩ := scanL_facts _ _ hmem
      have hS : S ≤ 1099511627776 := scanN_seq _ _ _ _ hmem
      simp only [HD.out] at c0 c1 c2 c3 c4 e2 hbl hps
      subst e2
      have hpI : (p : Int) + (B.length : Int) + 20 + (d : Int) ≤ 16777216 := by omega
      have hSI : (S : Int) ≤ 1099511627776 := by omega
      have HPRE : Hid (xs.map It.fm = (xs.take (k + 1)).map It.fm ++ (xs.drop (k + 1)).map It.fm) := by show _ = _; rw [← List.map_append, List.take_append_drop]
      -- the condition, as the law has it
      have HCOND : Hid (Off first most k ⟨⟨p, K, S, B⟩, .slice a2 B.length s2⟩ ↔ (most ≤ (k : Int) ∨ K ≠ 1 ∨ first < 0 ∨ 1099511627776 < first ∨ (S : Int) ≠ first + (k : Int))) := by
        unfold Hid Off
        simp only
        constructor
        · rintro (h | h | h)
          · exact .inl h
          · exact .inr (.inl h)
          · exact .inr (.inr (.inr (.inr h)))
        · rintro (h | h | h | h | h)
          · exact .inl h
          · exact .inr (.inl h)
          · refine .inr (.inr fun e => ?_)
            by_cases hk0 : k = 0
            · subst hk0; omega
            · have := HR.out.2.1 0
              obtain ⟨y, hy⟩ := lt_get (L := xs.take k) (k := 0) (by rw [HTL.out]; omega)
              have := (this y hy).2.2
              omega
          · refine .inr (.inr fun e => ?_)
            by_cases hk0 : k = 0
            · subst hk0; omega
            · have := HR.out.2.1 0
              obtain ⟨y, hy⟩ := lt_get (L := xs.take k) (k := 0) (by rw [HTL.out]; omega)
              have h2 := (this y hy).2.2
              have h3 : y.fm.seq ≤ 1099511627776 := scanN_seq _ _ _ y.fm (by rw [show scanN _ _ _ = scanL (l.drop d) from rfl, ← HP.out.2.2.1]; exact List.mem_map.2 ⟨y, List.mem_of_mem_take (List.mem_of_getElem? hy), rfl⟩)
              omega
          · exact .inr (.inr h)
      have HT1 : Hid (xs.take (k + 1) = xs.take k ++ [⟨⟨p, K, S, B⟩, .slice a2 B.length s2⟩]) := take_snoc hp
      have HSTOP : Hid (Off first most k ⟨⟨p, K, S, B⟩, .slice a2 B.length s2⟩ → ((xs.take k).map (shI d)).map It.fm = runL l d first most) := fun ho => by
        have h := runN_all HR.out.2.1 ((⟨p, K, S, B⟩ : Fm) :: (xs.drop (k + 1)).map It.fm)
        rw [map_sh, runL, ← HP.out.2.2.1, HPRE.out, HT1.out]
        simp only [List.map_append, List.map_cons, List.map_nil, List.append_assoc, List.cons_append, List.nil_append]
        rw [h, HTL.out, runN, if_pos (by exact ho), List.append_nil]
      clear hp hmem
      by_cases hoff : Off first most k ⟨⟨p, K, S, B⟩, .slice a2 B.length s2⟩
      · have HF : Hid (∀ wq, Below wr.heap.size wr wq → ∃ (zs : List It) (v : Value), Ending.returned (.tuple #[v0, .int .i64 (E : Int)]) = .returned (.tuple #[v, .int .i64 (endZ d (runL l d first most) : Int)]) ∧ zs.map It.fm = runL l d first most ∧ OwnP wq w.heap.size v zs ∧ Below w.heap.size w wq) := HFIN.out (HSTOP.out hoff)
        have HBX : Hid (∀ o, Below wr.heap.size wr (wr.alloc o)) := fun o => (Below.refl _ _).alloc (Nat.le_refl _) _
        clear HFIN HSTOP
        by_cases h1 : most ≤ (k : Int)
        · clear hoff
          go_wp2
          go_ret2
          exact HF.out _ (HBX.out _)
        · by_cases h2 : K = 1
          · subst h2
            by_cases h3 : first < 0
            · clear hoff
              go_wp2
              go_ret2
              exact HF.out _ (HBX.out _)
            · by_cases h4 : 1099511627776 < first
              · clear hoff
                go_wp2
                go_ret2
                exact HF.out _ (HBX.out _)
              · have h5 : ((S : Int) != first + (k : Int)) = true := by
                  rcases HCOND.out.1 hoff with h | h | h | h | h
                  · exact absurd h h1
                  · exact absurd rfl h
                  · exact absurd h h3
                  · exact absurd h h4
                  · simpa using h
                clear hoff
                go_wp2
                go_ret2
                exact HF.out _ (HBX.out _)
          · have h2b : ((K : Int) != 1) = true := by simp; omega
            clear hoff h2
            go_wp2
            go_ret2
            exact HF.out _ (HBX.out _)
      · have HAC : Hid (Acc first most (xs.take (k + 1))) := by show Acc _ _ _; rw [HT1.out]; exact Acc.snoc HR.out.2.1 (by rw [HTL.out]; exact hoff)
        have hc := mt HCOND.out.2 hoff
        simp only [not_or, Decidable.not_not] at hc
        obtain ⟨h1, rfl, h2, h3, h4⟩ := hc
        have h5 : ((S : Int) != first + (k : Int)) = false := by simp [h4]
        clear h4 hoff HFIN HSTOP HCOND
        have HO4 : Hid (((wr.alloc (.cells #[.int .i64 ((p : Int) + (d : Int)), .int .i64 ((B.length : Int) + 20), .int .i64 1, .int .i64 (S : Int), .slice a2 B.length s2] 67)).alloc (.cells #[.int .i64 ((p : Int) + (d : Int)), .int .i64 ((B.length : Int) + 20), .int .i64 1, .int .i64 (S : Int), .slice a2 B.length s2] 67)).ownsRow w1.heap.size 67 5 v0 k (pflt ((xs.take k).map (shI d)))) := World.ownsRow.alloc (World.ownsRow.alloc HR.out.2.2 _) _
        have HB4 : Hid (Below w1.heap.size w1 ((wr.alloc (.cells #[.int .i64 ((p : Int) + (d : Int)), .int .i64 ((B.length : Int) + 20), .int .i64 1, .int .i64 (S : Int), .slice a2 B.length s2] 67)).alloc (.cells #[.int .i64 ((p : Int) + (d : Int)), .int .i64 ((B.length : Int) + 20), .int .i64 1, .int .i64 (S : Int), .slice a2 B.length s2] 67))) := (hbr.alloc hsz _).alloc (by simp; omega) _
        have HNW : Hid (∀ j u, [.int .i64 ((p : Int) + (d : Int)), .int .i64 ((B.length : Int) + 20), .int .i64 1, .int .i64 (S : Int), .slice a2 B.length s2][j]? = some u → ((wr.alloc (.cells #[.int .i64 ((p : Int) + (d : Int)), .int .i64 ((B.length : Int) + 20), .int .i64 1, .int .i64 (S : Int), .slice a2 B.length s2] 67)).alloc (.cells #[.int .i64 ((p : Int) + (d : Int)), .int .i64 ((B.length : Int) + 20), .int .i64 1, .int .i64 (S : Int), .slice a2 B.length s2] 67)).cell? ((⟨wr.heap.size + 1, 0, none⟩ : Addr).add j) = some u) := (by have h := cell_newL (wr.alloc (.cells #[.int .i64 ((p : Int) + (d : Int)), .int .i64 ((B.length : Int) + 20), .int .i64 1, .int .i64 (S : Int), .slice a2 B.length s2] 67)) [.int .i64 ((p : Int) + (d : Int)), .int .i64 ((B.length : Int) + 20), .int .i64 1, .int .i64 (S : Int), .slice a2 B.length s2] 67; rw [World.size_alloc] at h; exact h)
        have HSZ : Hid (w1.heap.size ≤ ((wr.alloc (.cells #[.int .i64 ((p : Int) + (d : Int)), .int .i64 ((B.length : Int) + 20), .int .i64 1, .int .i64 (S : Int), .slice a2 B.length s2] 67)).alloc (.cells #[.int .i64 ((p : Int) + (d : Int)), .int .i64 ((B.length : Int) + 20), .int .i64 1, .int .i64 (S : Int), .slice a2 B.length s2] 67)).heap.size) := HB4.out.size
        go_wp2_with (at_builtin; refine wpList_append_own _ rfl _ _ 39 rfl w1.heap.size 67 i0 (.agg #[.int .i64 0, .int .i64 0, .int .i64 0, .int .i64 0, .slice none 0 0]) 5 56 Tryd.underlying39 hi hz0 hz1 hz2 rfl (by decide) _ _ _ rfl HO4.out ⟨wr.heap.size + 1, 0, none⟩ 1 1 [.int .i64 ((p : Int) + (d : Int)), .int .i64 ((B.length : Int) + 20), .int .i64 1, .int .i64 (S : Int), .slice a2 B.length s2] rfl rfl HNW.out (one5 _ _ _ _ _ _ _) (by unfold maxLen; omega) (by omega) HSZ.out ?_; intro v4 w5 ho5 hg5 _; have HO5 : Hid (w5.ownsRow w1.heap.size 67 5 v4 (k + 1) (pflt ((xs.take (k + 1)).map (shI d)))) := (by show World.ownsRow _ _ _ _ _ _ _; refine RowEq ho5 ?_; rw [HT1.out, List.map_append, pflt_append]; simp [shI, sh, pflt, Int.add_comm]); have HB5 : Hid (Below w1.heap.size w1 w5) := grown_row HB4.out HO4.out HSZ.out hg5; obtain ⟨x0, x1, x2⟩ := far_box2 (w := w1) (W := wr) (w2 := wr) HR.out.2.2 (Below.refl _ _) HO4.out hg5; clear ho5 hg5)
        exact ⟨⟨v4, k + 1, d + p + B.length + 20, rfl, by omega, by go_num, by congr 1; omega, by rw [HT1.out, List.map_append, List.map_append]; simp only [List.map_cons, List.map_nil]; rw [endF_snoc]; rfl, HAC.out, HO5.out, HB5.out⟩, by simp [intOf]; omega⟩
    · obtain rfl : k = n := by omega
      have HF : Hid (((xs.take k).map (shI d)).map It.fm = runL l d first most) := by
        have h := runN_all HR.out.2.1 []
        show _ = _
        rw [map_sh, runL, ← HP.out.2.2.1]
        rw [List.append_nil] at h
        have ht : xs.take k = xs := List.take_of_length_le (by rw [HP.out.2.2.2.1]; exact Nat.le_refl _)
        rw [ht] at h ⊢
        rw [h]
        simp [runN]
      have HF2 : Hid (_) := HFIN.out HF.out wr (Below.refl _ _)
      clear HFIN
      go_wp2
      go_ret2
      exact HF2.out
end Go.Proofs.YtaegmeilhdbnnaaDoor
namespace Go.Proofs.YtaegmeilhdbnnaaDoor
open Go.ChangeShapes Go.WideShapes Go.ChangeAt Go.RowKit
set_option linter.unusedVariables false
set_option maxRecDepth 20000 in
set_option maxHeartbeats 8000000 in
theorem rscan14_any (l : List Nat) (m : Nat) (a : Option Addr) (cap : Nat) (w : World) (hm : l.length = m) (hb : Bytes w a l) (hcap : m ≤ cap) (hl : m ≤ 16777216) :
    Calls Tryd.prog 16 #[.slice a m cap] w fun e w' => ScanP l w.heap.size e w' ∧ Below w.heap.size w w' := by
  have HB : Hid (Bytes w a l ∧ l.length = m) := ⟨hb, hm⟩
  have hmem := hb.mem
  have HW0 : Hid (Below w.heap.size w (w.alloc (.cells (SgA 0 0 0 false 0 (.slice none 0 0) 0) 38)) ∧ True) := ⟨(Below.refl _ _).alloc (Nat.le_refl _) _, trivial⟩
  clear hb hm
  cases hh : hdr l with
  | none =>
    have HHO : Hid (HoV l = .tuple #[.int .i64 0, .int .i64 0, .int .i64 0, .int .i64 71]) := ho_none hh
    have HN : Hid (hdr l = none) := hh
    clear hh
    go_enter Tryd.func16, Tryd.ntmps16
    go_wp2_with (first
      | (go_at_call 13; refine (rheaderOf_any l m a cap _ HB.out.2 (HB.out.1.keep HW0.out.1) (by omega) hcap).mono ?_; rw [HHO.out]; rintro r w1 ⟨rfl, hb1⟩; have HB1 : Hid (Below w.heap.size w w1 ∧ SegAt w1 w.heap.size 0 0 0 false 0 (.slice none 0 0) 0) := ⟨HW0.out.1.trans (hb1.mono (by simp)), (SegAt.new w 0 0 0 false 0 (.slice none 0 0) 0).keep hb1⟩; have hs1 : w.heap.size < w1.heap.size := (by have h := hb1.size; simp at h; omega); clear hb1)
      | ((with_reducible refine frm_store 38 ?_); refine wpList_store_seg rfl _ _ rfl rfl HB1.out.2 rfl rfl rfl ?_; intro w9 hs9 ho9 hh9 hz9; have HB9 : Hid (Below w.heap.size w w9 ∧ SegAt w9 w.heap.size 0 0 0 false 0 (.slice none 0 0) 0) := ⟨below_one HB1.out.1 ho9 hh9 hz9 (Nat.le_refl _), hs9⟩; clear hs9 ho9 hh9 hz9)
      | fail)
    (try simp only [Exit.inBlock, Exit.then])
    refine bodyPost_ret (results_seg3 rfl _ _ w.heap.size rfl HB9.out.2) rfl ⟨.inl ⟨HN.out, rfl⟩, HB9.out.1⟩
  | some q =>
    obtain ⟨X, Y⟩ := q
    obtain ⟨h0, hK, hS, hX1, hX2, hY1, hY2, hbd, hpn⟩ := hdr_some l hmem X Y hh
    have hoX' : hoX l = X := by unfold hoX; rw [hh]; rfl
    have hoY' : hoY l = Y := by unfold hoY; rw [hh]; rfl
    obtain ⟨H, hH⟩ : ∃ H, pn l + 20 = H := ⟨_, rfl⟩
    have HHO : Hid (HoV l = .tuple #[.int .i64 (X : Int), .int .i64 (Y : Int), .int .i64 (H : Int), .int .i64 0]) := by rw [← hH]; exact ho_some hh
    have hHm : H ≤ m := by have := HB.out.2; omega
    obtain ⟨EV, hEV⟩ : ∃ E, sgE l = E := ⟨_, rfl⟩
    obtain ⟨G, hG⟩ : ∃ G, sgG l = G := ⟨_, rfl⟩
    obtain ⟨n, hn⟩ : ∃ n, EV.length = n := ⟨_, rfl⟩
    obtain ⟨F, hF⟩ : ∃ F, sgF l = F := ⟨_, rfl⟩
    obtain ⟨N, hN⟩ : ∃ N, sgN l = N := ⟨_, rfl⟩
    obtain ⟨M, hM⟩ : ∃ M, bldL (F : Int) (EV.map evP) = M := ⟨_, rfl⟩
    have hEV2 : runL l H (Y : Int) 512 = EV := by rw [← hEV]; unfold sgE; rw [hoY', hH]
    have hG2 : endZ H EV = G := by rw [← hG]; unfold sgG; rw [hH, hEV]
    have hF2 : ftS (l.drop G) X Y EV = F := by rw [← hF]; unfold sgF; rw [hG, hoX', hoY', hEV]
    have hN2 : ftN (l.drop G) X Y EV = N := by rw [← hN]; unfold sgN; rw [hG, hoX', hoY', hEV]
    obtain ⟨hok, _⟩ := runL_ok l H Y hY1 (by rw [HB.out.2]; exact hHm) (by rw [HB.out.2]; exact hl)
    obtain ⟨hg1, hg2⟩ := runEnd l H Y (by rw [HB.out.2]; exact hHm)
    rw [hEV2] at hok hg1 hg2
    rw [hG2] at hg1 hg2
    rw [HB.out.2] at hg2
    have HEO : Hid (EvOk Y EV) := hok
    have hn5 : n ≤ 512 := by rw [← hn]; exact hok.len
    have hGm : G ≤ m := hg2
    have HEV : Hid (runL l H (Y : Int) 512 = EV ∧ endZ H EV = G ∧ EV.length = n ∧ (EV.map evP).length = n ∧ bldL (F : Int) (EV.map evP) = M) := ⟨hEV2, hG2, hn, by rw [List.length_map]; exact hn, hM⟩
    have HFN : Hid (ftS (l.drop G) X Y EV = F ∧ ftN (l.drop G) X Y EV = N) := ⟨hF2, hN2⟩
    have HSG : Hid ((hdr l).isSome = true ∧ sgE l = EV ∧ hoX l = X ∧ hoY l = Y ∧ sgF l = F ∧ sgG l = G ∧ sgN l = N) := ⟨by rw [hh]; rfl, hEV, hoX', hoY', hF, hG, hN⟩
    have hF64 : F ≤ 64 := by rw [← hF2]; exact ftS_le _ _ _ _
    have hNle : N ≤ 16404 := by
      rw [← hN2]
      unfold ftN
      split
      · omega
      · rename_i hc
        have h00 := ftS_pos (l.drop G) X Y EV (by omega)
        have := (decB_facts (fun z hz => hmem z (List.mem_of_mem_drop hz)) h00).2
        omega
    have hXI : (X : Int) ≤ 999999 := by omega
    have hYI : (Y : Int) ≤ 1099511627777 := by omega
    have hHI : (H : Int) ≤ (m : Int) := by omega
    have hGI : (G : Int) ≤ 16777216 := by omega
    have hNI : (N : Int) ≤ 16404 := by omega
    have hFI : (F : Int) ≤ 64 := by omega
    have hn5I : (n : Int) ≤ 512 := by omega
    clear hh h0 hK hS hbd hpn hoX' hoY' hEV hG hn hF hN hM hEV2 hG2 hF2 hN2 hok hg1 hg2 hH
    have hmD : ∀ z ∈ l.drop G, z < 256 := fun z hz => hmem z (List.mem_of_mem_drop hz)
    by_cases hE : decE (l.drop G) = 0
    · obtain ⟨b1, b2, b3, b4, b5, b6, b7⟩ := decB_facts hmD hE
      obtain ⟨P, hP⟩ : ∃ P, pk (l.drop G) = P := ⟨_, rfl⟩
      obtain ⟨S, hS⟩ : ∃ S, ps (l.drop G) = S := ⟨_, rfl⟩
      obtain ⟨B, hB⟩ : ∃ B, pn (l.drop G) = B := ⟨_, rfl⟩
      obtain ⟨Q, hQ⟩ : ∃ Q, B + 20 = Q := ⟨_, rfl⟩
      have HDV : Hid (∀ v, DV (l.drop G) v = .tuple #[FrV (P : Int) (S : Int) v, .int .i64 (Q : Int), .int .i64 0]) := fun v => by rw [← hP, ← hS, ← hQ, ← hB]; exact (dv_good _ v hE).1
      have hBb : B ≤ 16384 := by omega
      have hQI : (Q : Int) ≤ 16404 := by omega
      by_cases hK : P = 3
      · by_cases hSX : S = X
        · by_cases hn0 : n = 0
          · have HBL : Hid ((decB (l.drop G)).length = B ∧ True) := ⟨b3.trans hB, trivial⟩
            have hEV0 : EV = [] := List.length_eq_zero_iff.1 (HEV.out.2.2.1.trans hn0)
            have hnn : ((n : Int) == 0) = true := by simp; omega
            subst hK hSX
            clear hn0 hP hS hB hQ b1 b2 b3 b4 b5 b6 b7 hE
            have hF0 : F = 0 := by rw [← HFN.out.1]; exact ftS_no _ _ _ _ (.inr (.inr (.inr hEV0)))
            have HZ : Hid (F = 0 ∧ N = 0) := ⟨hF0, by rw [← HFN.out.2]; unfold ftN; rw [HFN.out.1, if_pos hF0]⟩
            have HM0 : Hid (sgM l = []) := by show _ = _; unfold sgM; rw [HSG.out.2.2.2.2.1, if_pos hF0]
            clear hF0 hEV0
            go_enter Tryd.func16, Tryd.ntmps16
            go_wp2_with (first
              | (go_at_call 13; refine (rheaderOf_any l m a cap _ HB.out.2 (HB.out.1.keep HW0.out.1) (by omega) hcap).mono ?_; rw [HHO.out]; rintro r w1 ⟨rfl, hb1⟩; have HB1 : Hid (Below w.heap.size w w1 ∧ SegAt w1 w.heap.size 0 0 0 false 0 (.slice none 0 0) 0) := ⟨HW0.out.1.trans (hb1.mono (by simp)), (SegAt.new w 0 0 0 false 0 (.slice none 0 0) 0).keep hb1⟩; have hs1 : w.heap.size < w1.heap.size := (by have h := hb1.size; simp at h; omega); clear hb1)
              | (go_at_call 38; refine (rrun_any l m a cap H (Y : Int) 512 w1 HB.out.2 (HB.out.1.keep HB1.out.1) hcap (by omega) hHm (by omega) (by omega)).mono ?_; rw [HEV.out.1, HEV.out.2.1]; rintro r w2 ⟨xs, v, rfl, hx, hop0, hb2⟩; obtain ⟨hr, hy⟩ := hop0; have hxl : xs.length = n := (by have h := congrArg List.length hx; rw [List.length_map, HEV.out.2.2.1] at h; exact h); obtain ⟨a2, c2, hv2⟩ := row_shape hr; rw [hxl] at hr hv2; subst hv2; have hop : OwnP w2 w1.heap.size (.slice a2 n c2) xs := ⟨by rw [hxl]; exact hr, hy⟩; have HX : Hid (xs.map It.fm = EV ∧ xs.length = n ∧ OwnP w2 w.heap.size (.slice a2 n c2) xs ∧ PlcA w2 a2 xs) := ⟨hx, hxl, hop.mono (Nat.le_of_lt hs1), plc_ofP hop⟩; have HB2 : Hid (Below w.heap.size w w2 ∧ SegAt w2 w.heap.size 0 0 0 false 0 (.slice none 0 0) 0) := ⟨below_next HB1.out.1 hb2, HB1.out.2.keep hb2⟩; have hs2 : w.heap.size < w2.heap.size := Nat.lt_of_lt_of_le hs1 hb2.size; have HW3 : Hid (Below w.heap.size w (w2.alloc (.cells (SgA (S : Int) (Y : Int) (n : Int) false 0 (.slice none 0 0) (G : Int)) 38)) ∧ Below w2.heap.size w2 (w2.alloc (.cells (SgA (S : Int) (Y : Int) (n : Int) false 0 (.slice none 0 0) (G : Int)) 38))) := ⟨HB2.out.1.alloc HB2.out.1.size _, (Below.refl _ _).alloc (Nat.le_refl _) _⟩; clear hx hr hy hb2 hxl hop)
              | ((with_reducible refine at_slice ?_); refine wpList_slice_l rfl _ _ rfl rfl rfl hGm hcap HB.out.2 (HB.out.1.keep HW3.out.1) ?_; intro xa hxa; have HXA : Hid (Bytes _ xa (l.drop G)) := hxa; clear hxa)
              | (go_at_call 34; refine (rfdec_any (l.drop G) (m - G) xa (cap - G) _ (by rw [List.length_drop, HB.out.2]) HXA.out (by rw [List.length_drop, HB.out.2]; omega) (by rw [List.length_drop, HB.out.2]; omega)).mono ?_; rintro r w4 ⟨v4, rfl, ho4, hb4⟩; rw [HDV.out v4]; obtain ⟨a4, c4, hv4, hc4, _, hy4, _⟩ := ho4.shape; rw [HBL.out.1] at hv4 hc4; subst hv4; have h24 := HW3.out.2.trans (hb4.mono (by simp)); have HB4 : Hid (Below w.heap.size w (w4.alloc (.cells #[.int .i64 3, .int .i64 (S : Int), .slice a4 B c4] 65)) ∧ Below w2.heap.size w2 (w4.alloc (.cells #[.int .i64 3, .int .i64 (S : Int), .slice a4 B c4] 65)) ∧ SegAt (w4.alloc (.cells #[.int .i64 3, .int .i64 (S : Int), .slice a4 B c4] 65)) w.heap.size 0 0 0 false 0 (.slice none 0 0) 0 ∧ SegAt (w4.alloc (.cells #[.int .i64 3, .int .i64 (S : Int), .slice a4 B c4] 65)) w2.heap.size (S : Int) (Y : Int) (n : Int) false 0 (.slice none 0 0) (G : Int) ∧ FrmAt (w4.alloc (.cells #[.int .i64 3, .int .i64 (S : Int), .slice a4 B c4] 65)) w4.heap.size 3 (S : Int) (.slice a4 B c4) ∧ Bytes (w4.alloc (.cells #[.int .i64 3, .int .i64 (S : Int), .slice a4 B c4] 65)) a4 (decB (l.drop G))) := (by have h25 := h24.alloc h24.size (.cells #[.int .i64 3, .int .i64 (S : Int), .slice a4 B c4] 65); have h45 := (Below.refl w4.heap.size w4).alloc (Nat.le_refl _) (.cells #[.int .i64 3, .int .i64 (S : Int), .slice a4 B c4] 65); exact ⟨below_next HB2.out.1 h25, h25, HB2.out.2.keep h25, ((SegAt.new w2 (S : Int) (Y : Int) (n : Int) false 0 (.slice none 0 0) (G : Int)).keep hb4).keep h45, FrmAt.new w4 3 (S : Int) (.slice a4 B c4), hy4.keep h45⟩); clear ho4 hb4 hy4 hc4 h24)
              | ((with_reducible refine frm_load 38 ?_); refine wpList_load_seg rfl _ rfl HB4.out.2.2.2.1 rfl ?_)
              | ((with_reducible refine frm_store 38 ?_); refine wpList_store_seg rfl _ _ rfl rfl HB4.out.2.2.1 rfl rfl rfl ?_; intro w9 hs9 ho9 hh9 hz9; have HB9 : Hid (Below w.heap.size w w9 ∧ SegAt w9 w.heap.size (S : Int) (Y : Int) (n : Int) false 0 (.slice none 0 0) (G : Int) ∧ OwnP w9 w.heap.size (.slice a2 n c2) xs) := ⟨below_one HB4.out.1 ho9 hh9 hz9 (Nat.le_refl _), hs9, ownP_one (HX.out.2.2.1.below HB4.out.2.1) HB4.out.2.2.1 hh9⟩; clear hs9 ho9 hh9 hz9)
              | fail)
            (try simp only [Exit.inBlock, Exit.then])
            refine bodyPost_ret (results_seg3 rfl _ _ w.heap.size rfl HB9.out.2.1) rfl ⟨.inr ⟨HSG.out.1, xs, .slice a2 n c2, .slice none 0 0, by rw [HX.out.1, HSG.out.2.1], ?_, HB9.out.2.2, by rw [HM0.out]; exact OwnM.nil _ _⟩, HB9.out.1⟩
            rw [HSG.out.2.1, HSG.out.2.2.1, HSG.out.2.2.2.1, HSG.out.2.2.2.2.1, HSG.out.2.2.2.2.2.1, HSG.out.2.2.2.2.2.2, HZ.out.1, HZ.out.2, HEV.out.2.2.1]
            simp
          · have HNE : Hid (EV ≠ []) := fun h => by have h2 := HEV.out.2.2.1; rw [h] at h2; simp at h2; omega
            subst hK hSX
            have HBL : Hid ((decB (l.drop G)).length = B ∧ decE (l.drop G) = 0 ∧ pk (l.drop G) = 3 ∧ ps (l.drop G) = S ∧ pn (l.drop G) + 20 = Q) := ⟨b3.trans hB, hE, hP, hS, by omega⟩
            have hnn : ((n : Int) == 0) = false := by simp; omega
            clear hP hS hB hQ b1 b2 b3 b4 b5 b6 b7 hE
            go_enter Tryd.func16, Tryd.ntmps16
            go_wp2_with (first
              | (go_at_call 13; refine (rheaderOf_any l m a cap _ HB.out.2 (HB.out.1.keep HW0.out.1) (by omega) hcap).mono ?_; rw [HHO.out]; rintro r w1 ⟨rfl, hb1⟩; have HB1 : Hid (Below w.heap.size w w1 ∧ SegAt w1 w.heap.size 0 0 0 false 0 (.slice none 0 0) 0) := ⟨HW0.out.1.trans (hb1.mono (by simp)), (SegAt.new w 0 0 0 false 0 (.slice none 0 0) 0).keep hb1⟩; have hs1 : w.heap.size < w1.heap.size := (by have h := hb1.size; simp at h; omega); clear hb1)
              | (go_at_call 38; refine (rrun_any l m a cap H (Y : Int) 512 w1 HB.out.2 (HB.out.1.keep HB1.out.1) hcap (by omega) hHm (by omega) (by omega)).mono ?_; rw [HEV.out.1, HEV.out.2.1]; rintro r w2 ⟨xs, v, rfl, hx, hop0, hb2⟩; obtain ⟨hr, hy⟩ := hop0; have hxl : xs.length = n := (by have h := congrArg List.length hx; rw [List.length_map, HEV.out.2.2.1] at h; exact h); obtain ⟨a2, c2, hv2⟩ := row_shape hr; rw [hxl] at hr hv2; subst hv2; have hop : OwnP w2 w1.heap.size (.slice a2 n c2) xs := ⟨by rw [hxl]; exact hr, hy⟩; have HX : Hid (xs.map It.fm = EV ∧ xs.length = n ∧ OwnP w2 w.heap.size (.slice a2 n c2) xs ∧ PlcA w2 a2 xs) := ⟨hx, hxl, hop.mono (Nat.le_of_lt hs1), plc_ofP hop⟩; have HB2 : Hid (Below w.heap.size w w2 ∧ SegAt w2 w.heap.size 0 0 0 false 0 (.slice none 0 0) 0) := ⟨below_next HB1.out.1 hb2, HB1.out.2.keep hb2⟩; have hs2 : w.heap.size < w2.heap.size := Nat.lt_of_lt_of_le hs1 hb2.size; have HW3 : Hid (Below w.heap.size w (w2.alloc (.cells (SgA (S : Int) (Y : Int) (n : Int) false 0 (.slice none 0 0) (G : Int)) 38)) ∧ Below w2.heap.size w2 (w2.alloc (.cells (SgA (S : Int) (Y : Int) (n : Int) false 0 (.slice none 0 0) (G : Int)) 38))) := ⟨HB2.out.1.alloc HB2.out.1.size _, (Below.refl _ _).alloc (Nat.le_refl _) _⟩; clear hx hr hy hb2 hxl hop)
              | ((with_reducible refine at_slice ?_); refine wpList_slice_l rfl _ _ rfl rfl rfl hGm hcap HB.out.2 (HB.out.1.keep HW3.out.1) ?_; intro xa hxa; have HXA : Hid (Bytes _ xa (l.drop G)) := hxa; clear hxa)
              | (go_at_call 34; refine (rfdec_any (l.drop G) (m - G) xa (cap - G) _ (by rw [List.length_drop, HB.out.2]) HXA.out (by rw [List.length_drop, HB.out.2]; omega) (by rw [List.length_drop, HB.out.2]; omega)).mono ?_; rintro r w4 ⟨v4, rfl, ho4, hb4⟩; rw [HDV.out v4]; obtain ⟨a4, c4, hv4, hc4, _, hy4, _⟩ := ho4.shape; rw [HBL.out.1] at hv4 hc4; subst hv4; have h24 := HW3.out.2.trans (hb4.mono (by simp)); have HB4 : Hid (Below w.heap.size w (w4.alloc (.cells #[.int .i64 3, .int .i64 (S : Int), .slice a4 B c4] 65)) ∧ Below w2.heap.size w2 (w4.alloc (.cells #[.int .i64 3, .int .i64 (S : Int), .slice a4 B c4] 65)) ∧ SegAt (w4.alloc (.cells #[.int .i64 3, .int .i64 (S : Int), .slice a4 B c4] 65)) w.heap.size 0 0 0 false 0 (.slice none 0 0) 0 ∧ SegAt (w4.alloc (.cells #[.int .i64 3, .int .i64 (S : Int), .slice a4 B c4] 65)) w2.heap.size (S : Int) (Y : Int) (n : Int) false 0 (.slice none 0 0) (G : Int) ∧ FrmAt (w4.alloc (.cells #[.int .i64 3, .int .i64 (S : Int), .slice a4 B c4] 65)) w4.heap.size 3 (S : Int) (.slice a4 B c4) ∧ Bytes (w4.alloc (.cells #[.int .i64 3, .int .i64 (S : Int), .slice a4 B c4] 65)) a4 (decB (l.drop G))) := (by have h25 := h24.alloc h24.size (.cells #[.int .i64 3, .int .i64 (S : Int), .slice a4 B c4] 65); have h45 := (Below.refl w4.heap.size w4).alloc (Nat.le_refl _) (.cells #[.int .i64 3, .int .i64 (S : Int), .slice a4 B c4] 65); exact ⟨below_next HB2.out.1 h25, h25, HB2.out.2.keep h25, ((SegAt.new w2 (S : Int) (Y : Int) (n : Int) false 0 (.slice none 0 0) (G : Int)).keep hb4).keep h45, FrmAt.new w4 3 (S : Int) (.slice a4 B c4), hy4.keep h45⟩); clear ho4 hb4 hy4 hc4 h24)
              | fail)
            obtain ⟨W5, hW5⟩ : ∃ W5, w4.alloc (.cells #[.int .i64 3, .int .i64 (S : Int), .slice a4 B c4] 65) = W5 := ⟨_, rfl⟩
            rw [hW5] at HB4 ⊢
            have HW5 : Hid (Below w.heap.size w W5 ∧ W5.heap.size = w4.heap.size + 1 ∧ True) := ⟨HB4.out.1, by rw [← hW5]; simp, trivial⟩
            have HXW : Hid (PlcA W5 a2 xs) := HX.out.2.2.2.keep HB4.out.2.1
            clear hW5
            go_loopw [14] (fun vi wr => ∃ st : Nat, 1 ≤ st ∧ st ≤ 65 ∧ vi = .int .i64 st ∧ (∀ s, 1 ≤ s → s < st → decB (l.drop G) ≠ footB Y EV s) ∧ Below W5.heap.size W5 wr) (fun vi _ => 65 - (intOf vi).toNat)
            case atStart => exact ⟨1, by omega, by omega, rfl, (fun s h1 h2 => by omega), Below.refl _ _⟩
            case round =>
              obtain ⟨st, hst1, hst65, rfl, htry, hbr⟩ := hrel
              have HTRY : Hid (∀ s, 1 ≤ s → s < st → decB (l.drop G) ≠ footB Y EV s) := htry
              have hsz := hbr.size
              clear htry
              by_cases h64 : st ≤ 64
              · have h64I : (st : Int) ≤ 64 := by omega
                have hst1I : (1 : Int) ≤ (st : Int) := by omega
                obtain ⟨M, hM⟩ : ∃ M, bldL (st : Int) (EV.map evP) = M := ⟨_, rfl⟩
                obtain ⟨ml, hml⟩ : ∃ k, M.length = k := ⟨_, rfl⟩
                obtain ⟨fl, hfl⟩ : ∃ k, (footB Y EV st).length = k := ⟨_, rfl⟩
                have hff := foot_facts Y EV st HEO.out hY2 h64
                have hfb : footB Y EV st = nencs [Y, n, st] ++ mEnc M := by unfold footB; rw [hM, HEV.out.2.2.1]
                have hflb : fl ≤ 10280 := by rw [← hfl]; exact hff.2.1
                have HMS : Hid (bldL (st : Int) (EV.map evP) = M ∧ M.length = ml ∧ validB M = true ∧ (nencs [Y, n, st] ++ mEnc M).length = fl ∧ footB Y EV st = nencs [Y, n, st] ++ mEnc M) := ⟨hM, hml, by rw [← hM]; exact HEO.out.marks _, by rw [← hfb]; exact hfl, hfb⟩
                have HFL : Hid ((footB Y EV st).length = fl) := hfl
                clear hM hml hfl hff hfb
                by_cases heq : decB (l.drop G) = footB Y EV st
                · have HEQ : Hid (decide (decB (l.drop G) = footB Y EV st) = true) := decide_eq_true heq
                  have hFst : F = st := by rw [← HFN.out.1]; exact ftS_try (l.drop G) hmD S Y EV HEO.out HNE.out hY2 HBL.out.2.1 HBL.out.2.2.1 HBL.out.2.2.2.1 st hst1 h64 heq
                  have HZ : Hid (F = st ∧ N = Q) := ⟨hFst, by rw [← HFN.out.2]; unfold ftN; rw [HFN.out.1, if_neg (by omega)]; exact HBL.out.2.2.2.2⟩
                  have HM0 : Hid (sgM l = M) := by show _ = _; unfold sgM; rw [HSG.out.2.2.2.2.1, if_neg (by omega), HSG.out.2.1, hFst, HMS.out.1]
                  have HD : Hid (decide (0 < st) = true) := decide_eq_true (by omega)
                  clear heq hFst
                  go_wp2_with (first
                    | (go_at_call 39; refine (rbuild_any (EV.map evP) (pflt xs) n a2 c2 (st : Int) wr HEV.out.2.2.2.1 (by have h := plAt_of (HXW.out.keep hbr); rw [HX.out.1] at h; exact h) (by omega) (by omega) (by omega)).mono ?_; rw [HMS.out.1]; rintro r w6 ⟨v6, rfl, ho6, hb6⟩; obtain ⟨a6, c6, hv6, _, _, hy6, _⟩ := ho6.shape; rw [HMS.out.2.1] at hv6; subst hv6; have HB6 : Hid (Below W5.heap.size W5 w6 ∧ Marks w6 a6 M ∧ OwnM w6 w.heap.size (.slice a6 ml c6) M) := ⟨hbr.trans (hb6.mono hsz), hy6, (by have h := World.ownsRow.mono (base' := w.heap.size) ho6 (Nat.le_trans HB4.out.1.size hsz); exact h)⟩; obtain ⟨_, _, kf⟩ := (HB4.out.2.2.2.2.1.keep HB6.out.1).cells; have hlt6 : w4.heap.size < w6.heap.size := Nat.lt_of_lt_of_le (by rw [HW5.out.2.1]; simp) HB6.out.1.size; clear ho6 hb6 hy6)
                    | fail)
                  go_region_held3 (fun w' => w'.cell? ⟨w4.heap.size, 2, none⟩ = some (.slice a4 B c4)) (go_keep) (first
                    | (go_at_call 40; refine (rfoot_any Y n st M ml a6 c6 _ HMS.out.2.1 (HB6.out.2.1.keep (below_drewN (Below.refl _ _) _)) HMS.out.2.2.1 hY2 hn5 (by omega)).mono ?_; rintro r w7 ⟨v7, rfl, ho7, hb7⟩; obtain ⟨a7, c7, hv7, _, _, hy7, _⟩ := ho7.shape; rw [HMS.out.2.2.2.1] at hv7; subst hv7; have HB7 : Hid (Below w6.heap.size w6 w7 ∧ Bytes w7 a7 (footB Y EV st)) := ⟨(below_drewN (Below.refl w6.heap.size w6) _).trans hb7, by rw [HMS.out.2.2.2.2]; exact hy7⟩; have kf7 : w7.cell? ⟨w4.heap.size, 2, none⟩ = some (.slice a4 B c4) := (hb7.cell (p := ⟨w4.heap.size, 2, none⟩) hlt6).trans kf; clear ho7 hb7 hy7)
                    | (go_at_call 12; refine (same_at (decB (l.drop G)) (footB Y EV st) B fl a4 a7 _ _ _ HBL.out.1 HFL.out ((HB4.out.2.2.2.2.2.keep HB6.out.1).keep HB7.out.1) HB7.out.2 (by rw [HBL.out.1]; unfold maxLen; omega) (by rw [HFL.out]; unfold maxLen; omega)).mono ?_; rw [HEQ.out]; rintro r w8 ⟨rfl, nq, hq8⟩; have HB8 : Hid (Below W5.heap.size W5 w8) := (by rw [hq8]; exact below_drewN (HB6.out.1.trans (HB7.out.1.mono HB6.out.1.size)) nq); have kf8 : w8.cell? ⟨w4.heap.size, 2, none⟩ = some (.slice a4 B c4) := (by rw [hq8]; simpa using kf7); have HO8 : Hid (OwnM w8 w.heap.size (.slice a6 ml c6) M) := (by rw [hq8]; exact own_below (own_below HB6.out.2.2 HB7.out.1) (below_drewN (Below.refl _ _) nq)); clear hq8)
                    | fail)
                  all_goals (
                    have HS8 : Hid (SegAt w8 w.heap.size 0 0 0 false 0 (.slice none 0 0) 0 ∧ SegAt w8 w2.heap.size (S : Int) (Y : Int) (n : Int) false 0 (.slice none 0 0) (G : Int) ∧ Below w.heap.size w w8 ∧ OwnP w8 w.heap.size (.slice a2 n c2) xs) := ⟨HB4.out.2.2.1.keep HB8.out, HB4.out.2.2.2.1.keep HB8.out, below_next HB4.out.1 HB8.out, (HX.out.2.2.1.below HB4.out.2.1).below HB8.out⟩
                    have q3 : w8.cell? ⟨w2.heap.size, 3, none⟩ = some (.bool false) := (HS8.out.2.1.at 3).1
                    have q4 : w8.cell? ⟨w2.heap.size, 4, none⟩ = some (.int .i64 0) := (HS8.out.2.1.at 4).1
                    have q5 : w8.cell? ⟨w2.heap.size, 5, none⟩ = some (.slice none 0 0) := (HS8.out.2.1.at 5).1
                    have q6 : w8.cell? ⟨w2.heap.size, 6, none⟩ = some (.int .i64 (G : Int)) := (HS8.out.2.1.at 6).1
                    have z3 := (HS8.out.2.1.at 3).2
                    have z4 := (HS8.out.2.1.at 4).2
                    have z5 := (HS8.out.2.1.at 5).2
                    have z6 := (HS8.out.2.1.at 6).2
                    go_wp2_with (first
                      | ((with_reducible refine frm_load 38 ?_); refine wpList_load_seg rfl _ rfl (HS8.out.2.1.sets _ _ _) rfl ?_)
                      | ((with_reducible refine frm_store 38 ?_); refine wpList_store_seg rfl _ _ rfl rfl (seg_sets HS8.out.1 (Nat.ne_of_lt hs2) _ _ _ _) rfl rfl rfl ?_; intro w9 hs9 ho9 hh9 hz9; have HB9 : Hid (Below w.heap.size w w9 ∧ SegAt w9 w.heap.size (S : Int) (Y : Int) (n : Int) true (st : Int) (.slice a6 ml c6) ((G : Int) + (Q : Int)) ∧ OwnP w9 w.heap.size (.slice a2 n c2) xs ∧ OwnM w9 w.heap.size (.slice a6 ml c6) M) := ⟨below_one (below_sets HS8.out.2.2.1 (Nat.le_of_lt hs2) _ _ _ _) ho9 hh9 hz9 (Nat.le_refl _), hs9, ownP_one (ownP_one HS8.out.2.2.2 HS8.out.2.1 (sets_one _ _ _ _ _ _)) (seg_sets HS8.out.1 (Nat.ne_of_lt hs2) _ _ _ _) hh9, row_one (row_one HO8.out HS8.out.2.1 (by decide) (sets_one _ _ _ _ _ _)) (seg_sets HS8.out.1 (Nat.ne_of_lt hs2) _ _ _ _) (by decide) hh9⟩; clear hs9 ho9 hh9 hz9)
                      | fail)
                    (try simp only [Exit.inBlock, Exit.then])
                    refine bodyPost_ret (results_seg3 rfl _ _ w.heap.size rfl HB9.out.2.1) rfl ⟨.inr ⟨HSG.out.1, xs, .slice a2 n c2, .slice a6 ml c6, by rw [HX.out.1, HSG.out.2.1], ?_, HB9.out.2.2.1, by rw [HM0.out]; exact HB9.out.2.2.2⟩, HB9.out.1⟩
                    rw [HSG.out.2.1, HSG.out.2.2.1, HSG.out.2.2.2.1, HSG.out.2.2.2.2.1, HSG.out.2.2.2.2.2.1, HSG.out.2.2.2.2.2.2, HEV.out.2.2.1, HZ.out.1, HZ.out.2, HD.out]
                    rfl)
                · have HEQ : Hid (decide (decB (l.drop G) = footB Y EV st) = false) := decide_eq_false heq
                  have HTR : Hid (∀ s, 1 ≤ s → s < st + 1 → decB (l.drop G) ≠ footB Y EV s) := fun s h1 h2 => by
                    by_cases hc : s = st
                    · rw [hc]; exact heq
                    · exact HTRY.out s h1 (by omega)
                  clear heq
                  go_wp2_with (first
                    | (go_at_call 39; refine (rbuild_any (EV.map evP) (pflt xs) n a2 c2 (st : Int) wr HEV.out.2.2.2.1 (by have h := plAt_of (HXW.out.keep hbr); rw [HX.out.1] at h; exact h) (by omega) (by omega) (by omega)).mono ?_; rw [HMS.out.1]; rintro r w6 ⟨v6, rfl, ho6, hb6⟩; obtain ⟨a6, c6, hv6, _, _, hy6, _⟩ := ho6.shape; rw [HMS.out.2.1] at hv6; subst hv6; have HB6 : Hid (Below W5.heap.size W5 w6 ∧ Marks w6 a6 M ∧ OwnM w6 w.heap.size (.slice a6 ml c6) M) := ⟨hbr.trans (hb6.mono hsz), hy6, (by have h := World.ownsRow.mono (base' := w.heap.size) ho6 (Nat.le_trans HB4.out.1.size hsz); exact h)⟩; obtain ⟨_, _, kf⟩ := (HB4.out.2.2.2.2.1.keep HB6.out.1).cells; have hlt6 : w4.heap.size < w6.heap.size := Nat.lt_of_lt_of_le (by rw [HW5.out.2.1]; simp) HB6.out.1.size; clear ho6 hb6 hy6)
                    | fail)
                  go_region_held3 (fun w' => w'.cell? ⟨w4.heap.size, 2, none⟩ = some (.slice a4 B c4)) (go_keep) (first
                    | (go_at_call 40; refine (rfoot_any Y n st M ml a6 c6 _ HMS.out.2.1 (HB6.out.2.1.keep (below_drewN (Below.refl _ _) _)) HMS.out.2.2.1 hY2 hn5 (by omega)).mono ?_; rintro r w7 ⟨v7, rfl, ho7, hb7⟩; obtain ⟨a7, c7, hv7, _, _, hy7, _⟩ := ho7.shape; rw [HMS.out.2.2.2.1] at hv7; subst hv7; have HB7 : Hid (Below w6.heap.size w6 w7 ∧ Bytes w7 a7 (footB Y EV st)) := ⟨(below_drewN (Below.refl w6.heap.size w6) _).trans hb7, by rw [HMS.out.2.2.2.2]; exact hy7⟩; have kf7 : w7.cell? ⟨w4.heap.size, 2, none⟩ = some (.slice a4 B c4) := (hb7.cell (p := ⟨w4.heap.size, 2, none⟩) hlt6).trans kf; clear ho7 hb7 hy7)
                    | (go_at_call 12; refine (same_at (decB (l.drop G)) (footB Y EV st) B fl a4 a7 _ _ _ HBL.out.1 HFL.out ((HB4.out.2.2.2.2.2.keep HB6.out.1).keep HB7.out.1) HB7.out.2 (by rw [HBL.out.1]; unfold maxLen; omega) (by rw [HFL.out]; unfold maxLen; omega)).mono ?_; rw [HEQ.out]; rintro r w8 ⟨rfl, nq, hq8⟩; have HB8 : Hid (Below W5.heap.size W5 w8) := (by rw [hq8]; exact below_drewN (HB6.out.1.trans (HB7.out.1.mono HB6.out.1.size)) nq); have kf8 : w8.cell? ⟨w4.heap.size, 2, none⟩ = some (.slice a4 B c4) := (by rw [hq8]; simpa using kf7); clear hq8)
                    | fail)
                  all_goals go_wp2
                  all_goals exact ⟨⟨st + 1, by omega, by omega, by go_num, HTR.out, HB8.out⟩, by simp [intOf]; omega⟩
              · obtain rfl : st = 65 := by omega
                have hF0 : F = 0 := by rw [← HFN.out.1]; exact ftS_all _ _ _ _ (fun s h1 h2 => HTRY.out s h1 (by omega))
                have HZ : Hid (F = 0 ∧ N = 0) := ⟨hF0, by rw [← HFN.out.2]; unfold ftN; rw [HFN.out.1, if_pos hF0]⟩
                have HM0 : Hid (sgM l = []) := by show _ = _; unfold sgM; rw [HSG.out.2.2.2.2.1, if_pos hF0]
                clear hF0
                go_wp2_with (first
                  | ((with_reducible refine frm_load 38 ?_); refine wpList_load_seg rfl _ rfl (HB4.out.2.2.2.1.keep hbr) rfl ?_)
                  | ((with_reducible refine frm_store 38 ?_); refine wpList_store_seg rfl _ _ rfl rfl (HB4.out.2.2.1.keep hbr) rfl rfl rfl ?_; intro w9 hs9 ho9 hh9 hz9; have HB9 : Hid (Below w.heap.size w w9 ∧ SegAt w9 w.heap.size (S : Int) (Y : Int) (n : Int) false 0 (.slice none 0 0) (G : Int) ∧ OwnP w9 w.heap.size (.slice a2 n c2) xs) := ⟨below_one (below_next HB4.out.1 hbr) ho9 hh9 hz9 (Nat.le_refl _), hs9, ownP_one ((HX.out.2.2.1.below HB4.out.2.1).below hbr) (HB4.out.2.2.1.keep hbr) hh9⟩; clear hs9 ho9 hh9 hz9)
                  | fail)
                (try simp only [Exit.inBlock, Exit.then])
                refine bodyPost_ret (results_seg3 rfl _ _ w.heap.size rfl HB9.out.2.1) rfl ⟨.inr ⟨HSG.out.1, xs, .slice a2 n c2, .slice none 0 0, by rw [HX.out.1, HSG.out.2.1], ?_, HB9.out.2.2, by rw [HM0.out]; exact OwnM.nil _ _⟩, HB9.out.1⟩
                rw [HSG.out.2.1, HSG.out.2.2.1, HSG.out.2.2.2.1, HSG.out.2.2.2.2.1, HSG.out.2.2.2.2.2.1, HSG.out.2.2.2.2.2.2, HZ.out.1, HZ.out.2, HEV.out.2.2.1]
                simp
        · have HBL : Hid ((decB (l.drop G)).length = B ∧ True) := ⟨b3.trans hB, trivial⟩
          have hSI : ((S : Int) != (X : Int)) = true := by simp; omega
          subst hK
          have hps : ps (l.drop G) ≠ X := by rw [hS]; exact hSX
          clear hP hS hB hQ b1 b2 b3 b4 b5 b6 b7 hE hSX
          have hF0 : F = 0 := by rw [← HFN.out.1]; exact ftS_no _ _ _ _ (.inr (.inr (.inl hps)))
          have HZ : Hid (F = 0 ∧ N = 0) := ⟨hF0, by rw [← HFN.out.2]; unfold ftN; rw [HFN.out.1, if_pos hF0]⟩
          have HM0 : Hid (sgM l = []) := by show _ = _; unfold sgM; rw [HSG.out.2.2.2.2.1, if_pos hF0]
          clear hF0 hps
          go_enter Tryd.func16, Tryd.ntmps16
          go_wp2_with (first
            | (go_at_call 13; refine (rheaderOf_any l m a cap _ HB.out.2 (HB.out.1.keep HW0.out.1) (by omega) hcap).mono ?_; rw [HHO.out]; rintro r w1 ⟨rfl, hb1⟩; have HB1 : Hid (Below w.heap.size w w1 ∧ SegAt w1 w.heap.size 0 0 0 false 0 (.slice none 0 0) 0) := ⟨HW0.out.1.trans (hb1.mono (by simp)), (SegAt.new w 0 0 0 false 0 (.slice none 0 0) 0).keep hb1⟩; have hs1 : w.heap.size < w1.heap.size := (by have h := hb1.size; simp at h; omega); clear hb1)
            | (go_at_call 38; refine (rrun_any l m a cap H (Y : Int) 512 w1 HB.out.2 (HB.out.1.keep HB1.out.1) hcap (by omega) hHm (by omega) (by omega)).mono ?_; rw [HEV.out.1, HEV.out.2.1]; rintro r w2 ⟨xs, v, rfl, hx, hop0, hb2⟩; obtain ⟨hr, hy⟩ := hop0; have hxl : xs.length = n := (by have h := congrArg List.length hx; rw [List.length_map, HEV.out.2.2.1] at h; exact h); obtain ⟨a2, c2, hv2⟩ := row_shape hr; rw [hxl] at hr hv2; subst hv2; have hop : OwnP w2 w1.heap.size (.slice a2 n c2) xs := ⟨by rw [hxl]; exact hr, hy⟩; have HX : Hid (xs.map It.fm = EV ∧ xs.length = n ∧ OwnP w2 w.heap.size (.slice a2 n c2) xs ∧ PlcA w2 a2 xs) := ⟨hx, hxl, hop.mono (Nat.le_of_lt hs1), plc_ofP hop⟩; have HB2 : Hid (Below w.heap.size w w2 ∧ SegAt w2 w.heap.size 0 0 0 false 0 (.slice none 0 0) 0) := ⟨below_next HB1.out.1 hb2, HB1.out.2.keep hb2⟩; have hs2 : w.heap.size < w2.heap.size := Nat.lt_of_lt_of_le hs1 hb2.size; have HW3 : Hid (Below w.heap.size w (w2.alloc (.cells (SgA (X : Int) (Y : Int) (n : Int) false 0 (.slice none 0 0) (G : Int)) 38)) ∧ Below w2.heap.size w2 (w2.alloc (.cells (SgA (X : Int) (Y : Int) (n : Int) false 0 (.slice none 0 0) (G : Int)) 38))) := ⟨HB2.out.1.alloc HB2.out.1.size _, (Below.refl _ _).alloc (Nat.le_refl _) _⟩; clear hx hr hy hb2 hxl hop)
            | ((with_reducible refine at_slice ?_); refine wpList_slice_l rfl _ _ rfl rfl rfl hGm hcap HB.out.2 (HB.out.1.keep HW3.out.1) ?_; intro xa hxa; have HXA : Hid (Bytes _ xa (l.drop G)) := hxa; clear hxa)
            | (go_at_call 34; refine (rfdec_any (l.drop G) (m - G) xa (cap - G) _ (by rw [List.length_drop, HB.out.2]) HXA.out (by rw [List.length_drop, HB.out.2]; omega) (by rw [List.length_drop, HB.out.2]; omega)).mono ?_; rintro r w4 ⟨v4, rfl, ho4, hb4⟩; rw [HDV.out v4]; obtain ⟨a4, c4, hv4, hc4, _, hy4, _⟩ := ho4.shape; rw [HBL.out.1] at hv4 hc4; subst hv4; have h24 := HW3.out.2.trans (hb4.mono (by simp)); have HB4 : Hid (Below w.heap.size w (w4.alloc (.cells #[.int .i64 3, .int .i64 (S : Int), .slice a4 B c4] 65)) ∧ Below w2.heap.size w2 (w4.alloc (.cells #[.int .i64 3, .int .i64 (S : Int), .slice a4 B c4] 65)) ∧ SegAt (w4.alloc (.cells #[.int .i64 3, .int .i64 (S : Int), .slice a4 B c4] 65)) w.heap.size 0 0 0 false 0 (.slice none 0 0) 0 ∧ SegAt (w4.alloc (.cells #[.int .i64 3, .int .i64 (S : Int), .slice a4 B c4] 65)) w2.heap.size (X : Int) (Y : Int) (n : Int) false 0 (.slice none 0 0) (G : Int) ∧ FrmAt (w4.alloc (.cells #[.int .i64 3, .int .i64 (S : Int), .slice a4 B c4] 65)) w4.heap.size 3 (S : Int) (.slice a4 B c4) ∧ Bytes (w4.alloc (.cells #[.int .i64 3, .int .i64 (S : Int), .slice a4 B c4] 65)) a4 (decB (l.drop G))) := (by have h25 := h24.alloc h24.size (.cells #[.int .i64 3, .int .i64 (S : Int), .slice a4 B c4] 65); have h45 := (Below.refl w4.heap.size w4).alloc (Nat.le_refl _) (.cells #[.int .i64 3, .int .i64 (S : Int), .slice a4 B c4] 65); exact ⟨below_next HB2.out.1 h25, h25, HB2.out.2.keep h25, ((SegAt.new w2 (X : Int) (Y : Int) (n : Int) false 0 (.slice none 0 0) (G : Int)).keep hb4).keep h45, FrmAt.new w4 3 (S : Int) (.slice a4 B c4), hy4.keep h45⟩); clear ho4 hb4 hy4 hc4 h24)
            | ((with_reducible refine frm_load 38 ?_); refine wpList_load_seg rfl _ rfl HB4.out.2.2.2.1 rfl ?_)
            | ((with_reducible refine frm_store 38 ?_); refine wpList_store_seg rfl _ _ rfl rfl HB4.out.2.2.1 rfl rfl rfl ?_; intro w9 hs9 ho9 hh9 hz9; have HB9 : Hid (Below w.heap.size w w9 ∧ SegAt w9 w.heap.size (X : Int) (Y : Int) (n : Int) false 0 (.slice none 0 0) (G : Int) ∧ OwnP w9 w.heap.size (.slice a2 n c2) xs) := ⟨below_one HB4.out.1 ho9 hh9 hz9 (Nat.le_refl _), hs9, ownP_one (HX.out.2.2.1.below HB4.out.2.1) HB4.out.2.2.1 hh9⟩; clear hs9 ho9 hh9 hz9)
            | fail)
          (try simp only [Exit.inBlock, Exit.then])
          refine bodyPost_ret (results_seg3 rfl _ _ w.heap.size rfl HB9.out.2.1) rfl ⟨.inr ⟨HSG.out.1, xs, .slice a2 n c2, .slice none 0 0, by rw [HX.out.1, HSG.out.2.1], ?_, HB9.out.2.2, by rw [HM0.out]; exact OwnM.nil _ _⟩, HB9.out.1⟩
          rw [HSG.out.2.1, HSG.out.2.2.1, HSG.out.2.2.2.1, HSG.out.2.2.2.2.1, HSG.out.2.2.2.2.2.1, HSG.out.2.2.2.2.2.2, HZ.out.1, HZ.out.2, HEV.out.2.2.1]
          simp
      · have HBL : Hid ((decB (l.drop G)).length = B ∧ True) := ⟨b3.trans hB, trivial⟩
        have hPI : ((P : Int) != 3) = true := by simp; omega
        have hpk : pk (l.drop G) ≠ 3 := by rw [hP]; exact hK
        clear hP hS hB hQ b1 b2 b3 b4 b5 b6 b7 hE hK
        have hF0 : F = 0 := by rw [← HFN.out.1]; exact ftS_no _ _ _ _ (.inr (.inl hpk))
        have HZ : Hid (F = 0 ∧ N = 0) := ⟨hF0, by rw [← HFN.out.2]; unfold ftN; rw [HFN.out.1, if_pos hF0]⟩
        have HM0 : Hid (sgM l = []) := by show _ = _; unfold sgM; rw [HSG.out.2.2.2.2.1, if_pos hF0]
        clear hF0 hpk
        go_enter Tryd.func16, Tryd.ntmps16
        go_wp2_with (first
          | (go_at_call 13; refine (rheaderOf_any l m a cap _ HB.out.2 (HB.out.1.keep HW0.out.1) (by omega) hcap).mono ?_; rw [HHO.out]; rintro r w1 ⟨rfl, hb1⟩; have HB1 : Hid (Below w.heap.size w w1 ∧ SegAt w1 w.heap.size 0 0 0 false 0 (.slice none 0 0) 0) := ⟨HW0.out.1.trans (hb1.mono (by simp)), (SegAt.new w 0 0 0 false 0 (.slice none 0 0) 0).keep hb1⟩; have hs1 : w.heap.size < w1.heap.size := (by have h := hb1.size; simp at h; omega); clear hb1)
          | (go_at_call 38; refine (rrun_any l m a cap H (Y : Int) 512 w1 HB.out.2 (HB.out.1.keep HB1.out.1) hcap (by omega) hHm (by omega) (by omega)).mono ?_; rw [HEV.out.1, HEV.out.2.1]; rintro r w2 ⟨xs, v, rfl, hx, hop0, hb2⟩; obtain ⟨hr, hy⟩ := hop0; have hxl : xs.length = n := (by have h := congrArg List.length hx; rw [List.length_map, HEV.out.2.2.1] at h; exact h); obtain ⟨a2, c2, hv2⟩ := row_shape hr; rw [hxl] at hr hv2; subst hv2; have hop : OwnP w2 w1.heap.size (.slice a2 n c2) xs := ⟨by rw [hxl]; exact hr, hy⟩; have HX : Hid (xs.map It.fm = EV ∧ xs.length = n ∧ OwnP w2 w.heap.size (.slice a2 n c2) xs ∧ PlcA w2 a2 xs) := ⟨hx, hxl, hop.mono (Nat.le_of_lt hs1), plc_ofP hop⟩; have HB2 : Hid (Below w.heap.size w w2 ∧ SegAt w2 w.heap.size 0 0 0 false 0 (.slice none 0 0) 0) := ⟨below_next HB1.out.1 hb2, HB1.out.2.keep hb2⟩; have hs2 : w.heap.size < w2.heap.size := Nat.lt_of_lt_of_le hs1 hb2.size; have HW3 : Hid (Below w.heap.size w (w2.alloc (.cells (SgA (X : Int) (Y : Int) (n : Int) false 0 (.slice none 0 0) (G : Int)) 38)) ∧ Below w2.heap.size w2 (w2.alloc (.cells (SgA (X : Int) (Y : Int) (n : Int) false 0 (.slice none 0 0) (G : Int)) 38))) := ⟨HB2.out.1.alloc HB2.out.1.size _, (Below.refl _ _).alloc (Nat.le_refl _) _⟩; clear hx hr hy hb2 hxl hop)
          | ((with_reducible refine at_slice ?_); refine wpList_slice_l rfl _ _ rfl rfl rfl hGm hcap HB.out.2 (HB.out.1.keep HW3.out.1) ?_; intro xa hxa; have HXA : Hid (Bytes _ xa (l.drop G)) := hxa; clear hxa)
          | (go_at_call 34; refine (rfdec_any (l.drop G) (m - G) xa (cap - G) _ (by rw [List.length_drop, HB.out.2]) HXA.out (by rw [List.length_drop, HB.out.2]; omega) (by rw [List.length_drop, HB.out.2]; omega)).mono ?_; rintro r w4 ⟨v4, rfl, ho4, hb4⟩; rw [HDV.out v4]; obtain ⟨a4, c4, hv4, hc4, _, hy4, _⟩ := ho4.shape; rw [HBL.out.1] at hv4 hc4; subst hv4; have h24 := HW3.out.2.trans (hb4.mono (by simp)); have HB4 : Hid (Below w.heap.size w (w4.alloc (.cells #[.int .i64 (P : Int), .int .i64 (S : Int), .slice a4 B c4] 65)) ∧ Below w2.heap.size w2 (w4.alloc (.cells #[.int .i64 (P : Int), .int .i64 (S : Int), .slice a4 B c4] 65)) ∧ SegAt (w4.alloc (.cells #[.int .i64 (P : Int), .int .i64 (S : Int), .slice a4 B c4] 65)) w.heap.size 0 0 0 false 0 (.slice none 0 0) 0 ∧ SegAt (w4.alloc (.cells #[.int .i64 (P : Int), .int .i64 (S : Int), .slice a4 B c4] 65)) w2.heap.size (X : Int) (Y : Int) (n : Int) false 0 (.slice none 0 0) (G : Int) ∧ FrmAt (w4.alloc (.cells #[.int .i64 (P : Int), .int .i64 (S : Int), .slice a4 B c4] 65)) w4.heap.size (P : Int) (S : Int) (.slice a4 B c4) ∧ Bytes (w4.alloc (.cells #[.int .i64 (P : Int), .int .i64 (S : Int), .slice a4 B c4] 65)) a4 (decB (l.drop G))) := (by have h25 := h24.alloc h24.size (.cells #[.int .i64 (P : Int), .int .i64 (S : Int), .slice a4 B c4] 65); have h45 := (Below.refl w4.heap.size w4).alloc (Nat.le_refl _) (.cells #[.int .i64 (P : Int), .int .i64 (S : Int), .slice a4 B c4] 65); exact ⟨below_next HB2.out.1 h25, h25, HB2.out.2.keep h25, ((SegAt.new w2 (X : Int) (Y : Int) (n : Int) false 0 (.slice none 0 0) (G : Int)).keep hb4).keep h45, FrmAt.new w4 (P : Int) (S : Int) (.slice a4 B c4), hy4.keep h45⟩); clear ho4 hb4 hy4 hc4 h24)
          | ((with_reducible refine frm_load 38 ?_); refine wpList_load_seg rfl _ rfl HB4.out.2.2.2.1 rfl ?_)
          | ((with_reducible refine frm_store 38 ?_); refine wpList_store_seg rfl _ _ rfl rfl HB4.out.2.2.1 rfl rfl rfl ?_; intro w9 hs9 ho9 hh9 hz9; have HB9 : Hid (Below w.heap.size w w9 ∧ SegAt w9 w.heap.size (X : Int) (Y : Int) (n : Int) false 0 (.slice none 0 0) (G : Int) ∧ OwnP w9 w.heap.size (.slice a2 n c2) xs) := ⟨below_one HB4.out.1 ho9 hh9 hz9 (Nat.le_refl _), hs9, ownP_one (HX.out.2.2.1.below HB4.out.2.1) HB4.out.2.2.1 hh9⟩; clear hs9 ho9 hh9 hz9)
          | fail)
        (try simp only [Exit.inBlock, Exit.then])
        refine bodyPost_ret (results_seg3 rfl _ _ w.heap.size rfl HB9.out.2.1) rfl ⟨.inr ⟨HSG.out.1, xs, .slice a2 n c2, .slice none 0 0, by rw [HX.out.1, HSG.out.2.1], ?_, HB9.out.2.2, by rw [HM0.out]; exact OwnM.nil _ _⟩, HB9.out.1⟩
        rw [HSG.out.2.1, HSG.out.2.2.1, HSG.out.2.2.2.1, HSG.out.2.2.2.2.1, HSG.out.2.2.2.2.2.1, HSG.out.2.2.2.2.2.2, HZ.out.1, HZ.out.2, HEV.out.2.2.1]
        simp
    · obtain ⟨e, he⟩ : ∃ e, decE (l.drop G) = e := ⟨_, rfl⟩
      have HDV : Hid (∀ v, DV (l.drop G) v = .tuple #[FrV 0 0 v, .int .i64 0, .int .i64 (e : Int)]) := fun v => (dv_none _ v e he (by omega)).1
      have HBL : Hid ((decB (l.drop G)).length = 0 ∧ True) := ⟨by unfold decB; rw [if_neg hE]; rfl, trivial⟩
      have heI : ((e : Int) != 0) = true := by simp; omega
      clear he
      have hF0 : F = 0 := by rw [← HFN.out.1]; exact ftS_no _ _ _ _ (.inl hE)
      have HZ : Hid (F = 0 ∧ N = 0) := ⟨hF0, by rw [← HFN.out.2]; unfold ftN; rw [HFN.out.1, if_pos hF0]⟩
      have HM0 : Hid (sgM l = []) := by show _ = _; unfold sgM; rw [HSG.out.2.2.2.2.1, if_pos hF0]
      clear hF0 hE
      go_enter Tryd.func16, Tryd.ntmps16
      go_wp2_with (first
        | (go_at_call 13; refine (rheaderOf_any l m a cap _ HB.out.2 (HB.out.1.keep HW0.out.1) (by omega) hcap).mono ?_; rw [HHO.out]; rintro r w1 ⟨rfl, hb1⟩; have HB1 : Hid (Below w.heap.size w w1 ∧ SegAt w1 w.heap.size 0 0 0 false 0 (.slice none 0 0) 0) := ⟨HW0.out.1.trans (hb1.mono (by simp)), (SegAt.new w 0 0 0 false 0 (.slice none 0 0) 0).keep hb1⟩; have hs1 : w.heap.size < w1.heap.size := (by have h := hb1.size; simp at h; omega); clear hb1)
        | (go_at_call 38; refine (rrun_any l m a cap H (Y : Int) 512 w1 HB.out.2 (HB.out.1.keep HB1.out.1) hcap (by omega) hHm (by omega) (by omega)).mono ?_; rw [HEV.out.1, HEV.out.2.1]; rintro r w2 ⟨xs, v, rfl, hx, hop0, hb2⟩; obtain ⟨hr, hy⟩ := hop0; have hxl : xs.length = n := (by have h := congrArg List.length hx; rw [List.length_map, HEV.out.2.2.1] at h; exact h); obtain ⟨a2, c2, hv2⟩ := row_shape hr; rw [hxl] at hr hv2; subst hv2; have hop : OwnP w2 w1.heap.size (.slice a2 n c2) xs := ⟨by rw [hxl]; exact hr, hy⟩; have HX : Hid (xs.map It.fm = EV ∧ xs.length = n ∧ OwnP w2 w.heap.size (.slice a2 n c2) xs ∧ PlcA w2 a2 xs) := ⟨hx, hxl, hop.mono (Nat.le_of_lt hs1), plc_ofP hop⟩; have HB2 : Hid (Below w.heap.size w w2 ∧ SegAt w2 w.heap.size 0 0 0 false 0 (.slice none 0 0) 0) := ⟨below_next HB1.out.1 hb2, HB1.out.2.keep hb2⟩; have hs2 : w.heap.size < w2.heap.size := Nat.lt_of_lt_of_le hs1 hb2.size; have HW3 : Hid (Below w.heap.size w (w2.alloc (.cells (SgA (X : Int) (Y : Int) (n : Int) false 0 (.slice none 0 0) (G : Int)) 38)) ∧ Below w2.heap.size w2 (w2.alloc (.cells (SgA (X : Int) (Y : Int) (n : Int) false 0 (.slice none 0 0) (G : Int)) 38))) := ⟨HB2.out.1.alloc HB2.out.1.size _, (Below.refl _ _).alloc (Nat.le_refl _) _⟩; clear hx hr hy hb2 hxl hop)
        | ((with_reducible refine at_slice ?_); refine wpList_slice_l rfl _ _ rfl rfl rfl hGm hcap HB.out.2 (HB.out.1.keep HW3.out.1) ?_; intro xa hxa; have HXA : Hid (Bytes _ xa (l.drop G)) := hxa; clear hxa)
        | (go_at_call 34; refine (rfdec_any (l.drop G) (m - G) xa (cap - G) _ (by rw [List.length_drop, HB.out.2]) HXA.out (by rw [List.length_drop, HB.out.2]; omega) (by rw [List.length_drop, HB.out.2]; omega)).mono ?_; rintro r w4 ⟨v4, rfl, ho4, hb4⟩; rw [HDV.out v4]; obtain ⟨a4, c4, hv4, hc4, _, hy4, _⟩ := ho4.shape; rw [HBL.out.1] at hv4 hc4; subst hv4; have h24 := HW3.out.2.trans (hb4.mono (by simp)); have HB4 : Hid (Below w.heap.size w (w4.alloc (.cells #[.int .i64 0, .int .i64 0, .slice a4 0 c4] 65)) ∧ Below w2.heap.size w2 (w4.alloc (.cells #[.int .i64 0, .int .i64 0, .slice a4 0 c4] 65)) ∧ SegAt (w4.alloc (.cells #[.int .i64 0, .int .i64 0, .slice a4 0 c4] 65)) w.heap.size 0 0 0 false 0 (.slice none 0 0) 0 ∧ SegAt (w4.alloc (.cells #[.int .i64 0, .int .i64 0, .slice a4 0 c4] 65)) w2.heap.size (X : Int) (Y : Int) (n : Int) false 0 (.slice none 0 0) (G : Int) ∧ FrmAt (w4.alloc (.cells #[.int .i64 0, .int .i64 0, .slice a4 0 c4] 65)) w4.heap.size 0 0 (.slice a4 0 c4) ∧ Bytes (w4.alloc (.cells #[.int .i64 0, .int .i64 0, .slice a4 0 c4] 65)) a4 (decB (l.drop G))) := (by have h25 := h24.alloc h24.size (.cells #[.int .i64 0, .int .i64 0, .slice a4 0 c4] 65); have h45 := (Below.refl w4.heap.size w4).alloc (Nat.le_refl _) (.cells #[.int .i64 0, .int .i64 0, .slice a4 0 c4] 65); exact ⟨below_next HB2.out.1 h25, h25, HB2.out.2.keep h25, ((SegAt.new w2 (X : Int) (Y : Int) (n : Int) false 0 (.slice none 0 0) (G : Int)).keep hb4).keep h45, FrmAt.new w4 0 0 (.slice a4 0 c4), hy4.keep h45⟩); clear ho4 hb4 hy4 hc4 h24)
        | ((with_reducible refine frm_load 38 ?_); refine wpList_load_seg rfl _ rfl HB4.out.2.2.2.1 rfl ?_)
        | ((with_reducible refine frm_store 38 ?_); refine wpList_store_seg rfl _ _ rfl rfl HB4.out.2.2.1 rfl rfl rfl ?_; intro w9 hs9 ho9 hh9 hz9; have HB9 : Hid (Below w.heap.size w w9 ∧ SegAt w9 w.heap.size (X : Int) (Y : Int) (n : Int) false 0 (.slice none 0 0) (G : Int) ∧ OwnP w9 w.heap.size (.slice a2 n c2) xs) := ⟨below_one HB4.out.1 ho9 hh9 hz9 (Nat.le_refl _), hs9, ownP_one (HX.out.2.2.1.below HB4.out.2.1) HB4.out.2.2.1 hh9⟩; clear hs9 ho9 hh9 hz9)
        | fail)
      (try simp only [Exit.inBlock, Exit.then])
      refine bodyPost_ret (results_seg3 rfl _ _ w.heap.size rfl HB9.out.2.1) rfl ⟨.inr ⟨HSG.out.1, xs, .slice a2 n c2, .slice none 0 0, by rw [HX.out.1, HSG.out.2.1], ?_, HB9.out.2.2, by rw [HM0.out]; exact OwnM.nil _ _⟩, HB9.out.1⟩
      rw [HSG.out.2.1, HSG.out.2.2.1, HSG.out.2.2.2.1, HSG.out.2.2.2.2.1, HSG.out.2.2.2.2.2.1, HSG.out.2.2.2.2.2.2, HZ.out.1, HZ.out.2, HEV.out.2.2.1]
      simp
end Go.Proofs.YtaegmeilhdbnnaaDoor
namespace Go.Proofs.YtaegmeilhdbnnaaDoor
open Go.ChangeShapes Go.WideShapes Go.ChangeAt Go.RowKit
set_option linter.unusedVariables false
theorem wpList_want2 {ops : Array Oper} {rest : List Oper} {o : Oper} {a : Act} {w : World} {Q : Exit → Act → World → Prop} (hw : Region.wanted o (yielded ops a.tmps) = true) (h : ∀ K : Act → World → Prop, (∀ a' w', wpList Tryd.prog ops Q rest a' w' → K a' w') → Oper.wp Tryd.prog o a w K Q) : wpList Tryd.prog ops Q (o :: rest) a w :=
  wpList_step fun K hK => by rw [if_pos hw]; exact h K hK
theorem frm_loadg {ops : Array Oper} {rest : List Oper} {a : Act} {w : World} {Q : Exit → Act → World → Prop} {dst : Option Tmp} {ty : TypeId} {pos : String} {after : Array Edge} {x : Operand} {g : Nat × Bool} (t : TypeId)
    (h : wpList Tryd.prog ops Q (⟨dst, .load t x, ty, pos, after, some g⟩ :: rest) a w) : wpList Tryd.prog ops Q (⟨dst, .load t x, ty, pos, after, some g⟩ :: rest) a w := h
theorem wpList_load_segg {ops : Array Oper} {rest : List Oper} {o : Oper} {a : Act} {w : World} {Q : Exit → Act → World → Prop} (hw : Region.wanted o (yielded ops a.tmps) = true) (p : Operand) (ho : o.op = .load 38 p)
    {k : Nat} {x y c : Int} {s : Bool} {t : Int} {mv : Value} {g : Int} (hL : SegAt w k x y c s t mv g) (hx : a.eval p = .pointer (some ⟨k, 0, none⟩)) (h : wpList Tryd.prog ops Q rest (a.put o.dst (SgV x y c s t mv g)) w) : wpList Tryd.prog ops Q (o :: rest) a w :=
  wpList_want2 hw fun _ hK => by
    unfold Oper.wp execOp
    simp only [ho, hx, Sem.run_bind, Sem.run_pure, Result.andThen_ok, hL.load]
    exact hK _ _ h
set_option maxRecDepth 20000 in
set_option maxHeartbeats 2000000 in
theorem segsame_any (x y c : Int) (s : Bool) (t g : Int) (L : List Mk) (n : Nat) (a1 a2 : Option Addr) (c1 c2 : Nat) (w : World) (hn : L.length = n) (h1 : Marks w a1 L) (h2 : Marks w a2 L) (hl : n ≤ 512) :
    Calls Tryd.prog 18 #[SgV x y c s t (.slice a1 n c1) g, SgV x y c s t (.slice a2 n c2) g] w fun e w' => e = .returned (.bool true) ∧ Below w.heap.size w w' := by
  have HM : Hid (L.length = n ∧ Marks w a1 L ∧ Marks w a2 L) := ⟨hn, h1, h2⟩
  have HBB : Hid (Below w.heap.size w ((w.alloc (.cells (SgA x y c s t (.slice a1 n c1) g) 38)).alloc (.cells (SgA x y c s t (.slice a2 n c2) g) 38))) := ((Below.refl _ _).alloc (Nat.le_refl _) _).alloc (by simp) _
  clear hn h1 h2
  go_enter Tryd.func18, Tryd.ntmps18
  go_wp2_with (go_at_call 25; refine (msame_any L L n n a1 a2 c1 c2 _ HM.out.1 HM.out.1 (HM.out.2.1.keep HBB.out) (HM.out.2.2.keep HBB.out) (by unfold maxLen; omega) (by unfold maxLen; omega)).mono ?_; rw [decide_eq_true (rfl : L = L)]; rintro r w3 ⟨rfl, hb3⟩; have HB3 : Hid (Below w.heap.size w w3) := below_next HBB.out hb3; clear hb3)
  go_ret
  exact ⟨rfl, HB3.out⟩
end Go.Proofs.YtaegmeilhdbnnaaDoor
