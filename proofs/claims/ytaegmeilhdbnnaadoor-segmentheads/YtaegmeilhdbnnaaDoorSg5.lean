/- The reference's HeaderOf. -/
import Derived.Test.YtaegmeilhdbnnaaDoorSg4
import Derived.Test.YtaegmeilhdbnnaaDoorSlc
namespace Go.Proofs.YtaegmeilhdbnnaaDoor
open Go.ChangeShapes Go.WideShapes Go.ChangeAt Go.RowKit
set_option linter.unusedVariables false
set_option maxRecDepth 20000 in
set_option maxHeartbeats 4000000 in
theorem rheaderOf_any (l : List Nat) (n : Nat) (a : Option Addr) (cap : Nat) (w : World) (hn : l.length = n) (hb : Bytes w a l) (hl : n ≤ 281474976710656) (hcap : n ≤ cap) :
    Calls Tryd.prog 13 #[.slice a n cap] w fun e w' => e = .returned (HoV l) ∧ Below w.heap.size w w' := by
  have HB : Hid (Bytes w a l ∧ l.length = n) := ⟨hb, hn⟩
  have hmem := hb.mem
  clear hb hn
  have T1 : Hid True := trivial
  by_cases hE : decE l = 0
  · obtain ⟨b1, b2, b3, b4, b5, b6, b7⟩ := decB_facts hmem hE
    obtain ⟨P, hP⟩ : ∃ P, pk l = P := ⟨_, rfl⟩
    obtain ⟨S, hS⟩ : ∃ S, ps l = S := ⟨_, rfl⟩
    obtain ⟨B, hB⟩ : ∃ B, pn l = B := ⟨_, rfl⟩
    have HDV : Hid (∀ v, DV l v = .tuple #[FrV (P : Int) (S : Int) v, .int .i64 ((B : Int) + 20), .int .i64 0]) := fun v => by rw [← hP, ← hS, ← hB]; exact (dv_good l v hE).1
    have HBL : Hid ((decB l).length = B ∧ decE l = 0 ∧ ∀ y ∈ decB l, y < 256) := ⟨b3.trans hB, hE, b1⟩
    have hBb : B ≤ 16384 := by omega
    by_cases hK : P = 2
    · subst hK
      have HK : Hid (pk l = 2 ∧ ps l = S ∧ pn l = B) := ⟨hP, hS, hB⟩
      have hSI : (S : Int) ≤ 1099511627776 := by omega
      have hB20 : B + 20 ≤ n := by have := HB.out.2; omega
      have hB20I : (B : Int) + 20 ≤ (n : Int) := by omega
      have hBI : (B : Int) ≤ 16384 := by omega
      have hcapI : (n : Int) ≤ (cap : Int) := by omega
      clear hP hS hB b2 b3 b4 b5 b6 b7 hE
      obtain ⟨x, hx⟩ : ∃ x, (dec 0 0 (decB l)).1 = x := ⟨_, rfl⟩
      obtain ⟨k, hk⟩ : ∃ k, (dec 0 0 (decB l)).2.1 = k := ⟨_, rfl⟩
      obtain ⟨e1, he1⟩ : ∃ e, (dec 0 0 (decB l)).2.2 = e := ⟨_, rfl⟩
      have HD1 : Hid (dec 0 0 (decB l) = (x, k, e1)) := by show _ = _; rw [← hx, ← hk, ← he1]
      by_cases he10 : e1 = 0
      · subst he10
        obtain ⟨_, f2, _, f4, _⟩ := vdec_form (decB l) b1 he1
        rw [hk, HBL.out.1] at f2
        rw [hx] at f4
        have hkB : k ≤ B := f2
        have hxI : (x : Int) ≤ 18446744073709551615 := by omega
        clear hx hk he1 f2 b1
        obtain ⟨y, hy⟩ : ∃ x, (dec 0 0 ((decB l).drop k)).1 = x := ⟨_, rfl⟩
        obtain ⟨k2, hk2⟩ : ∃ z, (dec 0 0 ((decB l).drop k)).2.1 = z := ⟨_, rfl⟩
        obtain ⟨e2, he2⟩ : ∃ e, (dec 0 0 ((decB l).drop k)).2.2 = e := ⟨_, rfl⟩
        have HD2 : Hid (dec 0 0 ((decB l).drop k) = (y, k2, e2)) := by show _ = _; rw [← hy, ← hk2, ← he2]
        have hcs := hdr_case l HBL.out.2.1 HK.out.1 x k y k2 e2 HD1.out HD2.out
        by_cases he20 : e2 = 0
        · subst he20
          obtain ⟨_, _, _, f5, _⟩ := vdec_form ((decB l).drop k) (fun z hz => HBL.out.2.2 z (List.mem_of_mem_drop hz)) he2
          rw [hy] at f5
          have hyI : (y : Int) ≤ 18446744073709551615 := by omega
          clear hy hk2 he2
          by_cases hx9 : 999999 < x
          · have HH : Hid (hdr l = none) := hcs (by omega)
            have hx9I : (999999 : Int) < (x : Int) := by omega
            clear hcs
            go_enter Tryd.func13, Tryd.ntmps13
            go_wp2_with (first
              | (go_at_call 34; refine (rfdec_any l n a cap w HB.out.2 HB.out.1 (by rw [HB.out.2]; omega) (by rw [HB.out.2]; omega)).mono ?_; rintro r w1 ⟨v1, rfl, ho1, hb1⟩; rw [HDV.out v1]; obtain ⟨a1, c1, hv1, hc1, _, hy1, _⟩ := ho1.shape; rw [HBL.out.1] at hv1 hc1; subst hv1; have HB1 : Hid (Below w.heap.size w w1 ∧ Bytes w1 a1 (decB l) ∧ B ≤ c1) := ⟨hb1, hy1, hc1⟩; have hc1' : B ≤ c1 := hc1; have HYA : Hid (Bytes (w1.alloc (.cells #[.int .i64 2, .int .i64 (S : Int), .slice a1 B c1] 65)) a1 (decB l)) := hy1.keep ((Below.refl _ _).alloc (Nat.le_refl _) _); have HBA : Hid (Below w.heap.size w (w1.alloc (.cells #[.int .i64 2, .int .i64 (S : Int), .slice a1 B c1] 65))) := hb1.alloc hb1.size _; clear ho1 hb1 hy1 hc1)
              | (go_at_call 35; clear T1; refine (rdec_at (decB l) B x k _ a1 c1 _ HBL.out.1 HD1.out HYA.out (by rw [HBL.out.1]; unfold maxLen; omega)).mono ?_; rintro r w2 ⟨rfl, rfl⟩)
              | ((with_reducible refine at_slice ?_); refine wpList_slice_l rfl _ _ rfl rfl rfl hkB hc1' HBL.out.1 HYA.out ?_; intro xa hxa; have HXA : Hid (Bytes _ xa ((decB l).drop k)) := hxa; clear hxa)
              | (go_at_call 35; (refine (rdec_at ((decB l).drop k) (B - k) y k2 _ xa _ _ (by rw [List.length_drop, HBL.out.1]) HD2.out HXA.out (by rw [List.length_drop, HBL.out.1]; unfold maxLen; omega)).mono ?_; rintro r w2 ⟨rfl, rfl⟩))
              | fail)
            (try simp only [Exit.inBlock, Exit.then])
            refine bodyPost_ret (results_tmp4 rfl _ _ _) rfl ⟨by rw [ho_none HH.out]; rfl, HBA.out⟩
          by_cases hy9 : 2199023255552 < y
          · have HH : Hid (hdr l = none) := hcs (by omega)
            have hx9I : (x : Int) ≤ 999999 := by omega
            have hy9I : (2199023255552 : Int) < (y : Int) := by omega
            clear hcs
            go_enter Tryd.func13, Tryd.ntmps13
            go_wp2_with (first
              | (go_at_call 34; refine (rfdec_any l n a cap w HB.out.2 HB.out.1 (by rw [HB.out.2]; omega) (by rw [HB.out.2]; omega)).mono ?_; rintro r w1 ⟨v1, rfl, ho1, hb1⟩; rw [HDV.out v1]; obtain ⟨a1, c1, hv1, hc1, _, hy1, _⟩ := ho1.shape; rw [HBL.out.1] at hv1 hc1; subst hv1; have HB1 : Hid (Below w.heap.size w w1 ∧ Bytes w1 a1 (decB l) ∧ B ≤ c1) := ⟨hb1, hy1, hc1⟩; have hc1' : B ≤ c1 := hc1; have HYA : Hid (Bytes (w1.alloc (.cells #[.int .i64 2, .int .i64 (S : Int), .slice a1 B c1] 65)) a1 (decB l)) := hy1.keep ((Below.refl _ _).alloc (Nat.le_refl _) _); have HBA : Hid (Below w.heap.size w (w1.alloc (.cells #[.int .i64 2, .int .i64 (S : Int), .slice a1 B c1] 65))) := hb1.alloc hb1.size _; clear ho1 hb1 hy1 hc1)
              | (go_at_call 35; clear T1; refine (rdec_at (decB l) B x k _ a1 c1 _ HBL.out.1 HD1.out HYA.out (by rw [HBL.out.1]; unfold maxLen; omega)).mono ?_; rintro r w2 ⟨rfl, rfl⟩)
              | ((with_reducible refine at_slice ?_); refine wpList_slice_l rfl _ _ rfl rfl rfl hkB hc1' HBL.out.1 HYA.out ?_; intro xa hxa; have HXA : Hid (Bytes _ xa ((decB l).drop k)) := hxa; clear hxa)
              | (go_at_call 35; (refine (rdec_at ((decB l).drop k) (B - k) y k2 _ xa _ _ (by rw [List.length_drop, HBL.out.1]) HD2.out HXA.out (by rw [List.length_drop, HBL.out.1]; unfold maxLen; omega)).mono ?_; rintro r w2 ⟨rfl, rfl⟩))
              | fail)
            (try simp only [Exit.inBlock, Exit.then])
            refine bodyPost_ret (results_tmp4 rfl _ _ _) rfl ⟨by rw [ho_none HH.out]; rfl, HBA.out⟩
          have hx9I : (x : Int) ≤ 999999 := by omega
          have hy9I : (y : Int) ≤ 2199023255552 := by omega
          by_cases hin : sgB (x : Int) (y : Int) = true
          · obtain ⟨_, _, r1, r2, i1, i2, i3, i4⟩ := sgB_nat hin
            have hrf := hdr_ref l hmem HBL.out.2.1 HK.out.1 x k y k2 HD1.out HD2.out (by omega) (by omega) (by omega) (by omega)
            rw [HK.out.2.2] at hrf
            have HHE : Hid (hdE (x : Int) (y : Int) = 0 ∧ hdV (x : Int) (y : Int) = hdrL x y) := ⟨by unfold hdE; rw [if_pos hin], by unfold hdV; rw [if_pos hin]; rfl⟩
            have HLN : Hid ((hdrL x y).length ≤ 16404 ∧ (l.take (B + 20)).length = B + 20) := ⟨by unfold hdrL; rw [frameL_length]; have := (hdr_body x y (by omega) (by omega)).2; omega, by rw [List.length_take, HB.out.2]; omega⟩
            obtain ⟨q, hq⟩ : ∃ q, (hdrL x y).length = q := ⟨_, rfl⟩
            have HQ : Hid ((hdrL x y).length = q) := hq
            have HBK : Hid (Bytes w a (l.take (B + 20))) := HB.out.1.take (B + 20)
            clear r1 r2 i1 i2 i3 i4 hcs hin hq
            by_cases hsm : hdrL x y = l.take (B + 20)
            · have HH : Hid (hdr l = some (x, y) ∧ pn l = B ∧ decide (hdrL x y = l.take (B + 20)) = true) := ⟨by rw [hrf, if_pos hsm], HK.out.2.2, decide_eq_true hsm⟩
              clear hrf hsm
              go_enter Tryd.func13, Tryd.ntmps13
              go_wp2_with (first
                | (go_at_call 34; refine (rfdec_any l n a cap w HB.out.2 HB.out.1 (by rw [HB.out.2]; omega) (by rw [HB.out.2]; omega)).mono ?_; rintro r w1 ⟨v1, rfl, ho1, hb1⟩; rw [HDV.out v1]; obtain ⟨a1, c1, hv1, hc1, _, hy1, _⟩ := ho1.shape; rw [HBL.out.1] at hv1 hc1; subst hv1; have HB1 : Hid (Below w.heap.size w w1 ∧ Bytes w1 a1 (decB l) ∧ B ≤ c1) := ⟨hb1, hy1, hc1⟩; have hc1' : B ≤ c1 := hc1; have HYA : Hid (Bytes (w1.alloc (.cells #[.int .i64 2, .int .i64 (S : Int), .slice a1 B c1] 65)) a1 (decB l)) := hy1.keep ((Below.refl _ _).alloc (Nat.le_refl _) _); have HBA : Hid (Below w.heap.size w (w1.alloc (.cells #[.int .i64 2, .int .i64 (S : Int), .slice a1 B c1] 65))) := hb1.alloc hb1.size _; clear ho1 hb1 hy1 hc1)
                | (go_at_call 35; clear T1; refine (rdec_at (decB l) B x k _ a1 c1 _ HBL.out.1 HD1.out HYA.out (by rw [HBL.out.1]; unfold maxLen; omega)).mono ?_; rintro r w2 ⟨rfl, rfl⟩)
                | ((with_reducible refine at_slice ?_); refine wpList_slice_l rfl _ _ rfl rfl rfl hkB hc1' HBL.out.1 HYA.out ?_; intro xa hxa; have HXA : Hid (Bytes _ xa ((decB l).drop k)) := hxa; clear hxa)
                | (go_at_call 35; (refine (rdec_at ((decB l).drop k) (B - k) y k2 _ xa _ _ (by rw [List.length_drop, HBL.out.1]) HD2.out HXA.out (by rw [List.length_drop, HBL.out.1]; unfold maxLen; omega)).mono ?_; rintro r w2 ⟨rfl, rfl⟩))
                | (go_at_call 10; refine (rheader_any _ _ _).mono ?_; rw [HHE.out.1, HHE.out.2]; rintro r w3 ⟨v3, rfl, ho3, hb3⟩; obtain ⟨a3, c3, hv3, hc3, _, hy3, _⟩ := ho3.shape; rw [HQ.out] at hv3; subst hv3; have HB3 : Hid (Below w.heap.size w w3) := below_next HBA.out hb3; have HY3 : Hid (Bytes w3 a3 (hdrL x y)) := hy3; clear ho3 hb3 hy3)
                | (go_at_call 12; refine (same_at (hdrL x y) (l.take (B + 20)) q (B + 20) a3 a _ _ w3 HQ.out HLN.out.2 HY3.out (HBK.out.keep HB3.out) (by have := HLN.out.1; unfold maxLen; omega) (by rw [HLN.out.2]; unfold maxLen; omega)).mono ?_; rw [HH.out.2.2]; rintro r w4 ⟨rfl, nq, rfl⟩)
                | fail)
              (try simp only [Exit.inBlock, Exit.then])
              refine bodyPost_ret (results_tmp4 rfl _ _ _) rfl ⟨by rw [ho_some HH.out.1, HH.out.2.1]; rfl, below_drewN HB3.out nq⟩
            · have HH : Hid (hdr l = none ∧ decide (hdrL x y = l.take (B + 20)) = false) := ⟨by rw [hrf, if_neg hsm], decide_eq_false hsm⟩
              clear hrf hsm
              go_enter Tryd.func13, Tryd.ntmps13
              go_wp2_with (first
                | (go_at_call 34; refine (rfdec_any l n a cap w HB.out.2 HB.out.1 (by rw [HB.out.2]; omega) (by rw [HB.out.2]; omega)).mono ?_; rintro r w1 ⟨v1, rfl, ho1, hb1⟩; rw [HDV.out v1]; obtain ⟨a1, c1, hv1, hc1, _, hy1, _⟩ := ho1.shape; rw [HBL.out.1] at hv1 hc1; subst hv1; have HB1 : Hid (Below w.heap.size w w1 ∧ Bytes w1 a1 (decB l) ∧ B ≤ c1) := ⟨hb1, hy1, hc1⟩; have hc1' : B ≤ c1 := hc1; have HYA : Hid (Bytes (w1.alloc (.cells #[.int .i64 2, .int .i64 (S : Int), .slice a1 B c1] 65)) a1 (decB l)) := hy1.keep ((Below.refl _ _).alloc (Nat.le_refl _) _); have HBA : Hid (Below w.heap.size w (w1.alloc (.cells #[.int .i64 2, .int .i64 (S : Int), .slice a1 B c1] 65))) := hb1.alloc hb1.size _; clear ho1 hb1 hy1 hc1)
                | (go_at_call 35; clear T1; refine (rdec_at (decB l) B x k _ a1 c1 _ HBL.out.1 HD1.out HYA.out (by rw [HBL.out.1]; unfold maxLen; omega)).mono ?_; rintro r w2 ⟨rfl, rfl⟩)
                | ((with_reducible refine at_slice ?_); refine wpList_slice_l rfl _ _ rfl rfl rfl hkB hc1' HBL.out.1 HYA.out ?_; intro xa hxa; have HXA : Hid (Bytes _ xa ((decB l).drop k)) := hxa; clear hxa)
                | (go_at_call 35; (refine (rdec_at ((decB l).drop k) (B - k) y k2 _ xa _ _ (by rw [List.length_drop, HBL.out.1]) HD2.out HXA.out (by rw [List.length_drop, HBL.out.1]; unfold maxLen; omega)).mono ?_; rintro r w2 ⟨rfl, rfl⟩))
                | (go_at_call 10; refine (rheader_any _ _ _).mono ?_; rw [HHE.out.1, HHE.out.2]; rintro r w3 ⟨v3, rfl, ho3, hb3⟩; obtain ⟨a3, c3, hv3, hc3, _, hy3, _⟩ := ho3.shape; rw [HQ.out] at hv3; subst hv3; have HB3 : Hid (Below w.heap.size w w3) := below_next HBA.out hb3; have HY3 : Hid (Bytes w3 a3 (hdrL x y)) := hy3; clear ho3 hb3 hy3)
                | (go_at_call 12; refine (same_at (hdrL x y) (l.take (B + 20)) q (B + 20) a3 a _ _ w3 HQ.out HLN.out.2 HY3.out (HBK.out.keep HB3.out) (by have := HLN.out.1; unfold maxLen; omega) (by rw [HLN.out.2]; unfold maxLen; omega)).mono ?_; rw [HH.out.2]; rintro r w4 ⟨rfl, nq, rfl⟩)
                | fail)
              (try simp only [Exit.inBlock, Exit.then])
              refine bodyPost_ret (results_tmp4 rfl _ _ _) rfl ⟨by rw [ho_none HH.out.1]; rfl, below_drewN HB3.out nq⟩
          · have HH : Hid (hdr l = none) := hcs (fun h => hin (decide_eq_true ⟨by omega, by omega, by omega, by omega⟩))
            have HHE : Hid (hdE (x : Int) (y : Int) = 1 ∧ hdV (x : Int) (y : Int) = []) := ⟨by unfold hdE; rw [if_neg hin], by unfold hdV; rw [if_neg hin]⟩
            clear hcs hin
            go_enter Tryd.func13, Tryd.ntmps13
            go_wp2_with (first
              | (go_at_call 34; refine (rfdec_any l n a cap w HB.out.2 HB.out.1 (by rw [HB.out.2]; omega) (by rw [HB.out.2]; omega)).mono ?_; rintro r w1 ⟨v1, rfl, ho1, hb1⟩; rw [HDV.out v1]; obtain ⟨a1, c1, hv1, hc1, _, hy1, _⟩ := ho1.shape; rw [HBL.out.1] at hv1 hc1; subst hv1; have HB1 : Hid (Below w.heap.size w w1 ∧ Bytes w1 a1 (decB l) ∧ B ≤ c1) := ⟨hb1, hy1, hc1⟩; have hc1' : B ≤ c1 := hc1; have HYA : Hid (Bytes (w1.alloc (.cells #[.int .i64 2, .int .i64 (S : Int), .slice a1 B c1] 65)) a1 (decB l)) := hy1.keep ((Below.refl _ _).alloc (Nat.le_refl _) _); have HBA : Hid (Below w.heap.size w (w1.alloc (.cells #[.int .i64 2, .int .i64 (S : Int), .slice a1 B c1] 65))) := hb1.alloc hb1.size _; clear ho1 hb1 hy1 hc1)
              | (go_at_call 35; clear T1; refine (rdec_at (decB l) B x k _ a1 c1 _ HBL.out.1 HD1.out HYA.out (by rw [HBL.out.1]; unfold maxLen; omega)).mono ?_; rintro r w2 ⟨rfl, rfl⟩)
              | ((with_reducible refine at_slice ?_); refine wpList_slice_l rfl _ _ rfl rfl rfl hkB hc1' HBL.out.1 HYA.out ?_; intro xa hxa; have HXA : Hid (Bytes _ xa ((decB l).drop k)) := hxa; clear hxa)
              | (go_at_call 35; (refine (rdec_at ((decB l).drop k) (B - k) y k2 _ xa _ _ (by rw [List.length_drop, HBL.out.1]) HD2.out HXA.out (by rw [List.length_drop, HBL.out.1]; unfold maxLen; omega)).mono ?_; rintro r w2 ⟨rfl, rfl⟩))
              | (go_at_call 10; refine (rheader_any _ _ _).mono ?_; rw [HHE.out.1, HHE.out.2]; rintro r w3 ⟨v3, rfl, ho3, hb3⟩; obtain ⟨a3, c3, hv3, _⟩ := ho3.shape; subst hv3; have HB3 : Hid (Below w.heap.size w w3) := below_next HBA.out hb3; clear ho3 hb3)
              | fail)
            (try simp only [Exit.inBlock, Exit.then])
            refine bodyPost_ret (results_tmp4 rfl _ _ _) rfl ⟨by rw [ho_none HH.out]; rfl, HB3.out⟩
        · have HH : Hid (hdr l = none) := hcs (fun h => he20 h.1)
          have heI : ((e2 : Int) != 0) = true := by simp; omega
          clear hcs hy hk2 he2
          go_enter Tryd.func13, Tryd.ntmps13
          go_wp2_with (first
            | (go_at_call 34; refine (rfdec_any l n a cap w HB.out.2 HB.out.1 (by rw [HB.out.2]; omega) (by rw [HB.out.2]; omega)).mono ?_; rintro r w1 ⟨v1, rfl, ho1, hb1⟩; rw [HDV.out v1]; obtain ⟨a1, c1, hv1, hc1, _, hy1, _⟩ := ho1.shape; rw [HBL.out.1] at hv1 hc1; subst hv1; have HB1 : Hid (Below w.heap.size w w1 ∧ Bytes w1 a1 (decB l) ∧ B ≤ c1) := ⟨hb1, hy1, hc1⟩; have hc1' : B ≤ c1 := hc1; have HYA : Hid (Bytes (w1.alloc (.cells #[.int .i64 2, .int .i64 (S : Int), .slice a1 B c1] 65)) a1 (decB l)) := hy1.keep ((Below.refl _ _).alloc (Nat.le_refl _) _); have HBA : Hid (Below w.heap.size w (w1.alloc (.cells #[.int .i64 2, .int .i64 (S : Int), .slice a1 B c1] 65))) := hb1.alloc hb1.size _; clear ho1 hb1 hy1 hc1)
            | (go_at_call 35; clear T1; refine (rdec_at (decB l) B x k _ a1 c1 _ HBL.out.1 HD1.out HYA.out (by rw [HBL.out.1]; unfold maxLen; omega)).mono ?_; rintro r w2 ⟨rfl, rfl⟩)
            | ((with_reducible refine at_slice ?_); refine wpList_slice_l rfl _ _ rfl rfl rfl hkB hc1' HBL.out.1 HYA.out ?_; intro xa hxa; have HXA : Hid (Bytes _ xa ((decB l).drop k)) := hxa; clear hxa)
            | (go_at_call 35; (refine (rdec_at ((decB l).drop k) (B - k) y k2 _ xa _ _ (by rw [List.length_drop, HBL.out.1]) HD2.out HXA.out (by rw [List.length_drop, HBL.out.1]; unfold maxLen; omega)).mono ?_; rintro r w2 ⟨rfl, rfl⟩))
            | fail)
          (try simp only [Exit.inBlock, Exit.then])
          refine bodyPost_ret (results_tmp4 rfl _ _ _) rfl ⟨by rw [ho_none HH.out]; rfl, HBA.out⟩
      · have HH : Hid (hdr l = none) := hdr_none_rd l (by rw [nrd_step 1 _ x k e1 HD1.out, if_neg (fun h => he10 h.1)])
        have heI : ((e1 : Int) != 0) = true := by simp; omega
        clear hx hk he1
        go_enter Tryd.func13, Tryd.ntmps13
        go_wp2_with (first
          | (go_at_call 34; refine (rfdec_any l n a cap w HB.out.2 HB.out.1 (by rw [HB.out.2]; omega) (by rw [HB.out.2]; omega)).mono ?_; rintro r w1 ⟨v1, rfl, ho1, hb1⟩; rw [HDV.out v1]; obtain ⟨a1, c1, hv1, hc1, _, hy1, _⟩ := ho1.shape; rw [HBL.out.1] at hv1 hc1; subst hv1; have HB1 : Hid (Below w.heap.size w w1 ∧ Bytes w1 a1 (decB l) ∧ B ≤ c1) := ⟨hb1, hy1, hc1⟩; have hc1' : B ≤ c1 := hc1; have HYA : Hid (Bytes (w1.alloc (.cells #[.int .i64 2, .int .i64 (S : Int), .slice a1 B c1] 65)) a1 (decB l)) := hy1.keep ((Below.refl _ _).alloc (Nat.le_refl _) _); have HBA : Hid (Below w.heap.size w (w1.alloc (.cells #[.int .i64 2, .int .i64 (S : Int), .slice a1 B c1] 65))) := hb1.alloc hb1.size _; clear ho1 hb1 hy1 hc1)
          | (go_at_call 35; clear T1; refine (rdec_at (decB l) B x k _ a1 c1 _ HBL.out.1 HD1.out HYA.out (by rw [HBL.out.1]; unfold maxLen; omega)).mono ?_; rintro r w2 ⟨rfl, rfl⟩)
          | fail)
        (try simp only [Exit.inBlock, Exit.then])
        refine bodyPost_ret (results_tmp4 rfl _ _ _) rfl ⟨by rw [ho_none HH.out]; rfl, HBA.out⟩
    · have HH : Hid (hdr l = none) := hdr_none_e l (.inr (by rw [hP]; exact hK))
      have hPI : ((P : Int) != 2) = true := by simp; omega
      clear hP hS hB b1 b2 b3 b4 b5 b6 b7 hE
      go_enter Tryd.func13, Tryd.ntmps13
      go_wp2_with (go_at_call 34; refine (rfdec_any l n a cap w HB.out.2 HB.out.1 (by rw [HB.out.2]; omega) (by rw [HB.out.2]; omega)).mono ?_; rintro r w1 ⟨v1, rfl, ho1, hb1⟩; rw [HDV.out v1]; obtain ⟨a1, c1, hv1, _⟩ := ho1.shape; subst hv1; have HB1 : Hid (Below w.heap.size w w1) := hb1; clear ho1 hb1)
      (try simp only [Exit.inBlock, Exit.then])
      refine bodyPost_ret (results_tmp4 rfl _ _ _) rfl ⟨by rw [ho_none HH.out]; rfl, HB1.out.alloc HB1.out.size _⟩
  · obtain ⟨e, he⟩ : ∃ e, decE l = e := ⟨_, rfl⟩
    have HDV : Hid (∀ v, DV l v = .tuple #[FrV 0 0 v, .int .i64 0, .int .i64 (e : Int)]) := fun v => (dv_none l v e he (by omega)).1
    have HH : Hid (hdr l = none) := hdr_none_e l (.inl hE)
    have heI : ((e : Int) != 0) = true := by simp; omega
    clear hE he
    go_enter Tryd.func13, Tryd.ntmps13
    go_wp2_with (go_at_call 34; refine (rfdec_any l n a cap w HB.out.2 HB.out.1 (by rw [HB.out.2]; omega) (by rw [HB.out.2]; omega)).mono ?_; rintro r w1 ⟨v1, rfl, ho1, hb1⟩; rw [HDV.out v1]; obtain ⟨a1, c1, hv1, _⟩ := ho1.shape; subst hv1; have HB1 : Hid (Below w.heap.size w w1) := hb1; clear ho1 hb1)
    (try simp only [Exit.inBlock, Exit.then])
    refine bodyPost_ret (results_tmp4 rfl _ _ _) rfl ⟨by rw [ho_none HH.out]; rfl, HB1.out.alloc HB1.out.size _⟩
end Go.Proofs.YtaegmeilhdbnnaaDoor
