/- The reference's Share: the dealing. -/
import Derived.Test.YtblfmfanfpohbaaGreatNst
import Derived.Deep.DeepCutAuto
import Derived.Deep.RegionHeld3
namespace Go.Proofs.YtblfmfanfpohbaaGreat
open Go.ChangeShapes Go.WideShapes Go.ChangeAt Go.RowKit Go.Sort
set_option linter.unusedVariables false
set_option linter.unusedSimpArgs false
theorem zlong : #[.bool false, .int .u64 0, .int .u64 0, .int .u64 0, .int .u64 0, .int .u64 0, .int .u64 0, .int .u64 0, .int .u64 0, .int .u64 0, .int .u64 0, .int .u64 0, .int .u64 0, .int .u64 0, .int .u64 0, .int .u64 0, .int .u64 0] = LA false (fun _ => 0) := rfl
/-- what Share leaves -/
def ShP (w : World) (t : Int) (l : List Int) (n : Nat) (e : Ending) (w' : World) : Prop := ∃ v, e = .returned (.tuple #[v, .bool (shB t l)]) ∧ Below w.heap.size w w' ∧ (shB t l = false → v = .slice none 0 0) ∧ (shB t l = true → OwnI w' w.heap.size v (shpL l n t.toNat l.sum.toNat))
theorem ShP.no {w w' : World} {t : Int} {l : List Int} {n : Nat} (h : shB t l = false) (hb : Below w.heap.size w w') : ShP w t l n (.returned (.tuple #[.slice none 0 0, .bool false])) w' :=
  ⟨_, by rw [h], hb, fun _ => rfl, fun h2 => by rw [h] at h2; cases h2⟩
set_option maxRecDepth 20000 in
set_option maxHeartbeats 40000000 in
theorem rshare_nat (T : Nat) (l : List Int) (n : Nat) (a : Option Addr) (cap : Nat) (w : World) (hT : T < 9223372036854775808) (hI : Ints w a l) (hn : l.length = n) (h64 : n ≤ 64) :
    Calls Tryz.prog 15 #[.int .i64 (T : Int), .slice a n cap] w (ShP w (T : Int) l n) := by
  have HI : Hid (Ints w a l) := hI
  have HN : Hid (l.length = n) := hn
  have hT0 : ¬ (T : Int) < 0 := by omega
  have h64z : ¬ (64 : Int) < (n : Int) := by omega
  obtain ⟨i0, hi, hz0, hz1, hz2⟩ := info_parts Tryz.infoI
  obtain ⟨j0, hj, hy0, hy1, hy2⟩ := info_parts Tryz.infoLg
  clear hI hn
  go_enter Tryz.func15, Tryz.ntmps15
  go_wp2
  go_loopw [35] (fun vi wr => ∃ k : Nat, k ≤ n ∧ vi = .int .i64 k ∧ wr = w ∧ Hid (∀ j, j < k → 0 ≤ l.getD j 0)) (fun vi _ => n - (intOf vi).toNat)
  case atStart => exact ⟨0, Nat.zero_le _, rfl, rfl, fun j hj => by omega⟩
  case round =>
    obtain ⟨k, hk, rfl, hw8, HJ⟩ := hrel
    obtain rfl := hw8.symm
    by_cases hkn : k < n
    · obtain ⟨b0, off, ha, hx⟩ : ∃ b0 off, a = some (⟨b0, off, none⟩ : Addr) ∧ b0 < w.heap.size ∧ w.cell? ⟨b0, off + k, none⟩ = some (.int .i64 (l.getD k 0)) := by
        rcases HI.out.2 with h | ⟨b0, off, ha, hlt, hc⟩
        · have := HN.out; rw [h] at this; simp at this; omega
        · exact ⟨b0, off, ha, hlt, hc k (by rw [HN.out]; exact hkn)⟩
      subst ha
      obtain ⟨y, ey⟩ : ∃ y, l.getD k 0 = y := ⟨_, rfl⟩
      obtain ⟨_, hx⟩ := hx
      rw [ey] at hx
      have HY : Hid (l.getD k 0 = y) := ey
      have hkz : (k : Int) < (n : Int) := by omega
      clear ey
      by_cases hneg : y < 0
      · have HNO : Hid (shB (T : Int) l = false) := by
          have hmem : y ∈ l := by
            rw [← HY.out, List.getD_eq_getElem?_getD, List.getElem?_eq_getElem (by rw [HN.out]; exact hkn)]
            exact List.getElem_mem _
          show _ = _
          unfold shB wgB
          rw [decide_eq_false_iff_not]
          rintro ⟨_, _, h⟩
          rw [decide_eq_true_iff] at h
          have := h.1 y hmem
          omega
        go_wp2
        go_ret2
        exact ShP.no HNO.out (Below.refl _ _)
      · have hpos : 0 ≤ y := by omega
        go_wp2
        go_roundw
        case rel =>
          refine ⟨k + 1, by omega, by go_num, by first | rfl | trivial, fun j hj => ?_⟩
          by_cases c : j < k
          · exact HJ.out j c
          · obtain rfl : j = k := by omega
            rw [HY.out]; exact hpos
        case measure => first | (simp [intOf]; done) | (simp [intOf]; omega)
    · obtain rfl : k = n := by omega
      have HALL : Hid (∀ y ∈ l, 0 ≤ y) := by
        intro y hy
        obtain ⟨j, hj, rfl⟩ := List.getElem_of_mem hy
        have := HJ.out j (by rw [← HN.out]; exact hj)
        rw [List.getD_eq_getElem?_getD, List.getElem?_eq_getElem hj] at this
        simpa using this
      clear HJ
      have HM : Hid (k ≤ maxLen) := by show _ ≤ _; unfold maxLen; omega
      go_upto_region 10 with (first
        | (go_at_call 33; refine (rsum_any l k a cap w HN.out HI.out HM.out).mono ?_; rintro e w1 ⟨v1, rfl, ⟨sA, dA, rfl, hdA, hsA⟩, hb1⟩; have HA : Hid (Dig dA ∧ sgn sA (V dA 16) = l.sum) := ⟨hdA, hsA⟩; have HB1 : Hid (Below w.heap.size w w1) := hb1; clear hdA hsA hb1)
        | ((with_reducible refine guard_store 61 ?_); refine wpList_store_longY rfl _ _ rfl (show LongAt (w1.alloc (.cells #[.bool false, .int .u64 0, .int .u64 0, .int .u64 0, .int .u64 0, .int .u64 0, .int .u64 0, .int .u64 0, .int .u64 0, .int .u64 0, .int .u64 0, .int .u64 0, .int .u64 0, .int .u64 0, .int .u64 0, .int .u64 0, .int .u64 0] 61)) w1.heap.size false (fun _ => 0) from (lay1 w1 false (fun _ => 0)).1) rfl rfl ?_; intro w2 hL2 hX2 hB2; have HA2 : Hid (LongAt w2 w1.heap.size sA dA) := hL2; have HB2 : Hid (Below w.heap.size w w2) := hB2 _ _ (bal HB1.out _) HB1.out.size; clear hL2 hX2 hB2))
      obtain ⟨bA, hbA⟩ : ∃ bA, bA = w1.heap.size := ⟨_, rfl⟩
      rw [← hbA] at HA2
      rw [← hbA]
      have HBA : Hid (w.heap.size ≤ bA) := by rw [hbA]; exact HB1.out.size
      clear hbA HB1
      cases hfb : fitB l.sum with
      | false =>
        have HNO : Hid (shB (T : Int) l = false) := by show _ = _; rw [shB_all (T : Int) l k HN.out, hfb]; simp
        obtain ⟨fv, hfv⟩ : ∃ fv, fitV l.sum = fv := ⟨_, rfl⟩
        go_wp2_with (first
          | ((with_reducible refine guard_load 61 ?_); refine wpList_load_long rfl _ rfl HA2.out rfl ?_)
          | (go_at_call 34; refine (fits_is (.agg (LA sA dA)) l.sum w2 ⟨sA, dA, rfl, HA.out⟩).mono ?_; rw [hfb, hfv]; rintro e w3 ⟨rfl, hb3⟩; have HB3 : Hid (Below w.heap.size w w3) := bnx HB2.out hb3; clear hb3))
        go_ret2
        exact ShP.no HNO.out HB3.out
      | true =>
        obtain ⟨fv, hfv⟩ : ∃ fv, fitV l.sum = fv := ⟨_, rfl⟩
        by_cases hz : V dA 16 = 0
        · have hzd : decide (V dA 16 = 0) = true := decide_eq_true hz
          have HNO : Hid (shB (T : Int) l = false) := by
            have h0 : l.sum = 0 := by rw [← HA.out.2, hz]; cases sA <;> rfl
            show _ = _
            unfold shB wgB
            rw [h0]
            simp
          go_wp2_with (first
            | ((with_reducible refine guard_load 61 ?_); refine wpList_load_long rfl _ rfl HA2.out rfl ?_)
            | (go_at_call 34; refine (fits_is (.agg (LA sA dA)) l.sum w2 ⟨sA, dA, rfl, HA.out⟩).mono ?_; rw [hfb, hfv]; rintro e w3 ⟨rfl, hb3⟩; have HB3 : Hid (Below w.heap.size w w3) := bnx HB2.out hb3; have HA3 : Hid (LongAt w3 bA sA dA) := HA2.out.stay hb3; clear hb3)
            | ((with_reducible refine guard_loadG 61 ?_); refine wpList_load_longG rfl _ rfl HA3.out rfl ?_)
            | (go_at_call 35; refine (zero_any sA dA w3 HA.out.1).mono ?_; rw [hzd]; rintro e w4 ⟨rfl, hb4⟩; have HB4 : Hid (Below w.heap.size w w4) := bnx HB3.out hb4; clear hb4))
          go_ret2
          exact ShP.no HNO.out HB4.out
        · have hzd : decide (V dA 16 = 0) = false := decide_eq_false hz
          have HWG : Hid (wgB l = true) := by
            have h0 : l.sum ≠ 0 := by
              rw [← HA.out.2]; unfold sgn; split <;> omega
            have h1 : 0 ≤ l.sum := by rw [← sum_wt l HALL.out]; omega
            show _ = _
            unfold wgB
            exact decide_eq_true ⟨HALL.out, hfb, by omega⟩
          obtain ⟨W, hD, hv⟩ := deal_of l k T HN.out h64 hT HWG.out
          have HD : Hid (Deal l k T W) := hD
          have HYES : Hid (shB (T : Int) l = true) := by show _ = _; unfold shB; exact decide_eq_true ⟨by omega, by rw [HN.out]; exact h64, HWG.out⟩
          have HAL : Hid (IsL (.agg (LA sA dA)) (W : Int)) := ⟨sA, dA, rfl, HA.out.1, by rw [HA.out.2, hD.s]⟩
          have HTI : Hid (inI (T : Int)) := by show inI _; unfold inI; omega
          clear hD hv hz
          go_upto_region 16 with (first
            | ((with_reducible refine guard_load 61 ?_); refine wpList_load_long rfl _ rfl HA2.out rfl ?_)
            | (go_at_call 34; refine (fits_is (.agg (LA sA dA)) l.sum w2 ⟨sA, dA, rfl, HA.out⟩).mono ?_; rw [hfb, hfv]; rintro e w3 ⟨rfl, hb3⟩; have HB3 : Hid (Below w.heap.size w w3) := bnx HB2.out hb3; have HA3 : Hid (LongAt w3 bA sA dA) := HA2.out.stay hb3; clear hb3)
            | ((with_reducible refine guard_loadG 61 ?_); refine wpList_load_longG rfl _ rfl HA3.out rfl ?_)
            | (go_at_call 35; refine (zero_any sA dA w3 HA.out.1).mono ?_; rw [hzd]; rintro e w4 ⟨rfl, hb4⟩; have HB4 : Hid (Below w.heap.size w w4) := bnx HB3.out hb4; have HA4 : Hid (LongAt w4 bA sA dA) := HA3.out.stay hb4; clear hb4)
            | (go_at_call 36; refine (of_is (T : Int) _ HTI.out).mono ?_; rintro e w5 ⟨v5, rfl, ⟨sL, dL, rfl, hdL, hsL⟩, hb5⟩; have HB5 : Hid (Below ((w4.alloc (.cells #[] 2)).alloc (.cells #[] 61)).heap.size ((w4.alloc (.cells #[] 2)).alloc (.cells #[] 61)) w5) := hb5; have HL5 : Hid (Dig dL ∧ sgn sL (V dL 16) = (T : Int)) := ⟨hdL, hsL⟩; clear hb5 hdL hsL)
            | ((with_reducible refine guard_store 61 ?_); refine wpList_store_longY rfl _ _ rfl (show LongAt (w5.alloc (.cells #[.bool false, .int .u64 0, .int .u64 0, .int .u64 0, .int .u64 0, .int .u64 0, .int .u64 0, .int .u64 0, .int .u64 0, .int .u64 0, .int .u64 0, .int .u64 0, .int .u64 0, .int .u64 0, .int .u64 0, .int .u64 0, .int .u64 0] 61)) w5.heap.size false (fun _ => 0) from (lay1 w5 false (fun _ => 0)).1) rfl rfl ?_; intro w6 hL6 hX6 hB6; have HST : Hid (RSt w w6 T W (wtN l) bA w5.heap.size sA dA 0 0 0 w4.heap.size 0 (w4.heap.size + 1) 0 sL dL []) := rst_start HA4.out HB4.out HBA.out HB5.out hL6 hX6 hB6 HL5.out; clear hL6 hX6 hB6))
          obtain ⟨bL, hbL⟩ : ∃ bL, bL = w5.heap.size := ⟨_, rfl⟩
          obtain ⟨gW0, hgW⟩ : ∃ g, g = w4.heap.size := ⟨_, rfl⟩
          obtain ⟨gR0, hgR⟩ : ∃ g, g = w4.heap.size + 1 := ⟨_, rfl⟩
          rw [← hbL, ← hgR, ← hgW] at HST
          rw [← hbL, ← hgR, ← hgW]
          clear hbL hgW hgR HA2 HA4 HB2 HB4 HL5 HB5 hfb hfv hzd HA3 HB3
          go_wp2
          go_loopw [10, 11, 63] (fun v10 v11 vi wr => ∃ (m gW capW gR capR : Nat) (sL : Bool) (dL : Nat → Nat) (R : List (Nat → Nat)), v10 = .slice (some ⟨gW, 0, none⟩) m capW ∧ v11 = .slice (some ⟨gR, 0, none⟩) m capR ∧ vi = .int .i64 m ∧ m ≤ k ∧ Hid (RSt w wr T W (wtN l) bA bL sA dA m m m gW capW gR capR sL dL R)) (fun _ _ vi _ => k - (intOf vi).toNat)
          case atStart => exact ⟨0, gW0, 0, gR0, 0, sL, dL, [], rfl, rfl, rfl, Nat.zero_le _, HST.out⟩
          case round =>
            obtain ⟨m, gW, capW, gR, capR, sK, dK, R, rfl, rfl, rfl, hmk, HST⟩ := hrel
            by_cases hkn : m < k
            · obtain ⟨b0, off, ha, hx⟩ : ∃ b0 off, a = some (⟨b0, off, none⟩ : Addr) ∧ b0 < w.heap.size ∧ w.cell? ⟨b0, off + m, none⟩ = some (.int .i64 (l.getD m 0)) := by
                rcases HI.out.2 with h | ⟨b0, off, ha, hlt, hc⟩
                · have := HN.out; rw [h] at this; simp at this; omega
                · exact ⟨b0, off, ha, hlt, hc m (by rw [HN.out]; exact hkn)⟩
              subst ha
              obtain ⟨y, ey⟩ : ∃ y : Nat, y = wtN l m := ⟨_, rfl⟩
              have HYE : Hid (y = wtN l m) := ey
              rw [(HD.out.at hkn).1, ← ey] at hx
              have HXC : Hid (∀ z, Below wr.heap.size wr z → z.cell? ⟨b0, off + m, none⟩ = some (.int .i64 (y : Int))) := fun z hz => ((bnx HST.out.b hz).cell (p := ⟨b0, off + m, none⟩) hx.1).trans hx.2
              have hyW := (HD.out.at hkn).2
              rw [← ey] at hyW
              have HNS : Hid (T < 18446744073709551616 ∧ y < 18446744073709551616 ∧ 0 < W ∧ W < 65536 ^ 15) := by
                have h1 := HD.out.W1
                have h2 : (18446744073709551616 : Nat) ≤ 65536 ^ 15 := by decide
                exact ⟨by omega, by omega, HD.out.W0, by omega⟩
              have HYI : Hid (inI (y : Int)) := by have h1 := HD.out.W1; show inI _; unfold inI; omega
              have hmz : (m : Int) < (k : Int) := by omega
              clear hx ey hyW
              go_upto_region 19 with fail
              go_cut [14, 15] (fun v14 v15 wx => ∃ bq bz sq dq dr, v14 = .pointer (some ⟨bq, 0, none⟩) ∧ v15 = .pointer (some ⟨bz, 0, none⟩) ∧ Hid (LongAt wx bq sq dq ∧ LongAt wx bz false dr ∧ Below wr.heap.size wr wx ∧ (Dig dq ∧ sgn sq (V dq 16) = (quo T W (wtN l) m : Int)) ∧ (Dig dr ∧ V dr 16 = rst T W (wtN l) m) ∧ wr.heap.size ≤ bq ∧ wr.heap.size ≤ bz ∧ bq ≠ bz))
              case first =>
                refine wp_region_held (S := (fun y => Below wr.heap.size wr y)) (by kernel_rfl) ?_
                change wpAnyH _ _ _ _ _ _ _ _ (World.drew _)
                obtain ⟨xd, hxd⟩ : ∃ xd, wr.drew = xd := ⟨_, rfl⟩
                have HBD : Hid (Below wr.heap.size wr xd) := by rw [← hxd]; exact (Below.refl _ _).drew
                rw [hxd]
                clear hxd
                refine wpAnyH_take (i := 0) (oi := { dst := some 67, op := Op.move (Operand.tmp 0), type := 2, pos := "ref.go:174", after := #[], guard := none }) (v := ?_) rfl (by kernel_rfl) (by kernel_rfl) (by kernel_rfl) (fun _ _ _ h => h) (Or.inl ⟨by rfl, ?_⟩) HBD.out ?_
                rotate_left
                · (intro y hy; go_simp; try (with_reducible rfl))
                simp only [Act.put, List.setIfInBounds_toArray, List.set_cons_zero, List.set_cons_succ]
                refine wpAnyH_take (i := 2) (oi := { dst := some 69, op := Op.move (Operand.tmp 1), type := 46, pos := "ref.go:174", after := #[], guard := none }) (v := ?_) rfl (by kernel_rfl) (by kernel_rfl) (by kernel_rfl) (fun _ _ _ h => h) (Or.inl ⟨by rfl, ?_⟩) HBD.out ?_
                rotate_left
                · (intro y hy; go_simp; try (with_reducible rfl))
                simp only [Act.put, List.setIfInBounds_toArray, List.set_cons_zero, List.set_cons_succ]
                refine wpAnyH_take (i := 3) (oi := { dst := some 70, op := Op.move (Operand.tmp 13), type := 3, pos := "ref.go:174", after := #[], guard := none }) (v := ?_) rfl (by kernel_rfl) (by kernel_rfl) (by kernel_rfl) (fun _ _ _ h => h) (Or.inl ⟨by rfl, ?_⟩) HBD.out ?_
                rotate_left
                · (intro y hy; go_simp; try (with_reducible rfl))
                simp only [Act.put, List.setIfInBounds_toArray, List.set_cons_zero, List.set_cons_succ]
                refine wpAnyH_take (i := 4) (oi := { dst := some 71, op := Op.indexAddr 46 (Operand.tmp 69) (Operand.tmp 70), type := 0, pos := "ref.go:174", after := #[{ on := 2, ground := Ground.data }, { on := 3, ground := Ground.data }], guard := none }) (v := ?_) rfl (by kernel_rfl) (by kernel_rfl) (by kernel_rfl) (fun _ _ _ h => h) (Or.inl ⟨by rfl, ?_⟩) HBD.out ?_
                rotate_left
                · (intro y hy; go_simp; try (with_reducible rfl))
                simp only [Act.put, List.setIfInBounds_toArray, List.set_cons_zero, List.set_cons_succ]
                refine wpAnyH_take (i := 5) (oi := { dst := some 72, op := Op.load 2 (Operand.tmp 71), type := 2, pos := "ref.go:174", after := #[{ on := 4, ground := Ground.data }], guard := none }) (v := .int .i64 (y : Int)) rfl (by kernel_rfl) (by kernel_rfl) (by kernel_rfl) (fun _ _ _ h => h) (Or.inl ⟨by rfl, ?_⟩) HBD.out ?_
                · (intro z hz; have h0 := HXC.out z hz; go_simp)
                simp only [Act.put, List.setIfInBounds_toArray, List.set_cons_zero, List.set_cons_succ]
                refine wpAnyH_take (i := 8) (oi := { dst := some 75, op := Op.load 61 (Operand.tmp 7), type := 61, pos := "ref.go:174", after := #[], guard := none }) (v := .agg (LA sA dA)) rfl (by kernel_rfl) (by kernel_rfl) (by kernel_rfl) (fun _ _ _ h => h) (Or.inl ⟨by rfl, fun z hz => exec_load_long (.tmp 7) rfl rfl (HST.out.A.stay hz)⟩) HBD.out ?_
                simp only [Act.put, List.setIfInBounds_toArray, List.set_cons_zero, List.set_cons_succ]
                refine wpAnyH_ready (rs := [1, 13, 14]) (by kernel_rfl) (by simp) ?_
                refine AllReadyH.cons rfl (fun K hK => ?_) (AllReadyH.cons rfl (fun K hK => ?_) (AllReadyH.cons rfl (fun K hK => ?_) AllReadyH.nil))
                · go_simp
                  refine (of_is (T : Int) xd HTI.out).mono ?_; rintro _ x1 ⟨ra, rfl, hra, hb⟩
                  have HB2 : Hid (Below wr.heap.size wr x1) := bnx HBD.out hb
                  have HRA : Hid (IsL ra (T : Int)) := hra
                  clear hra
                  clear hb
                  (refine hK _ _ HB2.out ?_; clear hK K; intro _)
                  try simp only [Act.put, List.setIfInBounds_toArray, List.set_cons_zero, List.set_cons_succ]
                  refine wpAnyH_ready (rs := [6, 13, 14]) (by kernel_rfl) (by simp) ?_
                  refine AllReadyH.cons rfl (fun K hK => ?_) (AllReadyH.cons rfl (fun K hK => ?_) (AllReadyH.cons rfl (fun K hK => ?_) AllReadyH.nil))
                  · go_simp
                    refine (of_is (y : Int) x1 HYI.out).mono ?_; rintro _ x3 ⟨rb, rfl, hrb, hb⟩
                    have HB4 : Hid (Below wr.heap.size wr x3) := bnx HB2.out hb
                    have HRB : Hid (IsL rb (y : Int)) := hrb
                    clear hrb
                    clear hb
                    (refine hK _ _ HB4.out ?_; clear hK K; intro _)
                    try simp only [Act.put, List.setIfInBounds_toArray, List.set_cons_zero, List.set_cons_succ]
                    refine wpAnyH_ready (rs := [7, 13, 14]) (by kernel_rfl) (by simp) ?_
                    refine AllReadyH.cons rfl (fun K hK => ?_) (AllReadyH.cons rfl (fun K hK => ?_) (AllReadyH.cons rfl (fun K hK => ?_) AllReadyH.nil))
                    · go_simp
                      refine (times_nat ra rb T y x3 HRA.out HRB.out HNS.out.1 HNS.out.2.1).mono ?_; rintro _ x5 ⟨rp, rfl, hrp, hb⟩
                      have HB6 : Hid (Below wr.heap.size wr x5) := bnx HB4.out hb
                      have HRP : Hid (IsL rp ((T * y : Nat) : Int)) := hrp
                      clear hrp
                      clear hb
                      (refine hK _ _ HB6.out ?_; clear hK K; intro _)
                      try simp only [Act.put, List.setIfInBounds_toArray, List.set_cons_zero, List.set_cons_succ]
                      refine wpAnyH_ready (rs := [9, 13, 14]) (by kernel_rfl) (by simp) ?_
                      refine AllReadyH.cons rfl (fun K hK => ?_) (AllReadyH.cons rfl (fun K hK => ?_) (AllReadyH.cons rfl (fun K hK => ?_) AllReadyH.nil))
                      · go_simp
                        refine (over_qr rp (.agg (LA sA dA)) (T * y) W x5 HRP.out HAL.out HNS.out.2.2.1 HNS.out.2.2.2).mono ?_; rintro _ x7 ⟨sq, dq, dr, rfl, hq, hz, hb⟩
                        have HB8 : Hid (Below wr.heap.size wr x7) := bnx HB6.out hb
                        have HQ : Hid (Dig dq ∧ sgn sq (V dq 16) = ((T * y / W : Nat) : Int)) := hq
                        have HZ : Hid (Dig dr ∧ V dr 16 = T * y % W) := hz
                        clear hq hz
                        clear hb
                        (refine hK _ _ HB8.out ?_; clear hK K; intro _)
                        try simp only [Act.put, List.setIfInBounds_toArray, List.set_cons_zero, List.set_cons_succ]
                        refine wpAnyH_take (i := 10) (oi := { dst := some 66, op := Op.move (Operand.tmp 76), type := 68, pos := "ref.go:174", after := #[{ on := 9, ground := Ground.data }], guard := none }) (v := ?_) rfl (by kernel_rfl) (by kernel_rfl) (by kernel_rfl) (fun _ _ _ h => h) (Or.inl ⟨by rfl, ?_⟩) HB8.out ?_
                        rotate_left
                        · (intro y hy; go_simp; try (with_reducible rfl))
                        simp only [Act.put, List.setIfInBounds_toArray, List.set_cons_zero, List.set_cons_succ]
                        refine wpAnyH_take (i := 11) (oi := { dst := some 77, op := Op.extract (Operand.tmp 66) 0, type := 61, pos := "ref.go:174", after := #[{ on := 10, ground := Ground.data }], guard := none }) (v := ?_) rfl (by kernel_rfl) (by kernel_rfl) (by kernel_rfl) (fun _ _ _ h => h) (Or.inl ⟨by rfl, ?_⟩) HB8.out ?_
                        rotate_left
                        · (intro y hy; go_simp; try (with_reducible rfl))
                        simp only [Act.put, List.setIfInBounds_toArray, List.set_cons_zero, List.set_cons_succ]
                        refine wpAnyH_take (i := 12) (oi := { dst := some 78, op := Op.extract (Operand.tmp 66) 1, type := 61, pos := "ref.go:174", after := #[{ on := 10, ground := Ground.data }, { on := 15, ground := Ground.gcOnly Departure.lateStores }], guard := none }) (v := ?_) rfl (by kernel_rfl) (by kernel_rfl) (by kernel_rfl) (fun _ _ _ h => h) (Or.inl ⟨by rfl, ?_⟩) HB8.out ?_
                        rotate_left
                        · (intro y hy; go_simp; try (with_reducible rfl))
                        simp only [Act.put, List.setIfInBounds_toArray, List.set_cons_zero, List.set_cons_succ]
                        refine wpAnyH_ready (rs := [13, 14]) (by kernel_rfl) (by simp) ?_
                        refine AllReadyH.cons rfl (fun K hK => ?_) (AllReadyH.cons rfl (fun K hK => ?_) AllReadyH.nil)
                        · go_simp
                          have hl := lay1 x7 false (fun _ => 0)
                          have hb : Below x7.heap.size x7 (x7.alloc (.cells #[.bool false, .int .u64 0, .int .u64 0, .int .u64 0, .int .u64 0, .int .u64 0, .int .u64 0, .int .u64 0, .int .u64 0, .int .u64 0, .int .u64 0, .int .u64 0, .int .u64 0, .int .u64 0, .int .u64 0, .int .u64 0, .int .u64 0] 61)) := hl.2
                          obtain ⟨x9, hx⟩ : ∃ x9, x9 = x7.alloc (.cells #[.bool false, .int .u64 0, .int .u64 0, .int .u64 0, .int .u64 0, .int .u64 0, .int .u64 0, .int .u64 0, .int .u64 0, .int .u64 0, .int .u64 0, .int .u64 0, .int .u64 0, .int .u64 0, .int .u64 0, .int .u64 0, .int .u64 0] 61) := ⟨_, rfl⟩
                          rw [← hx] at hb
                          have hl1 : LongAt x9 x7.heap.size false (fun _ => 0) := by rw [hx]; exact hl.1
                          rw [← hx]
                          obtain ⟨bq, hn⟩ : ∃ bq, bq = x7.heap.size := ⟨_, rfl⟩
                          rw [← hn] at hl1
                          rw [← hn]
                          have HB10 : Hid (Below wr.heap.size wr x9) := bnx HB8.out hb
                          have HF11 : Hid (LongAt x9 bq false (fun _ => 0)) := hl1
                          have HGbq : Hid (wr.heap.size ≤ bq ∧ bq = x7.heap.size) := ⟨by rw [hn]; exact HB8.out.size, hn⟩
                          clear hx hl hl1 hn hb
                          (refine hK _ _ HB10.out ?_; clear hK K; intro _)
                          try simp only [Act.put, List.setIfInBounds_toArray, List.set_cons_zero, List.set_cons_succ]
                          refine wpAnyH_ready (rs := [14]) (by kernel_rfl) (by simp) ?_
                          refine AllReadyH.cons rfl (fun K hK => ?_) AllReadyH.nil
                          have HLT : Hid (bq < x9.heap.size) := HF11.out.lt
                          go_simp
                          have hl := lay1 x9 false (fun _ => 0)
                          have hb : Below x9.heap.size x9 (x9.alloc (.cells #[.bool false, .int .u64 0, .int .u64 0, .int .u64 0, .int .u64 0, .int .u64 0, .int .u64 0, .int .u64 0, .int .u64 0, .int .u64 0, .int .u64 0, .int .u64 0, .int .u64 0, .int .u64 0, .int .u64 0, .int .u64 0, .int .u64 0] 61)) := hl.2
                          obtain ⟨x12, hx⟩ : ∃ x12, x12 = x9.alloc (.cells #[.bool false, .int .u64 0, .int .u64 0, .int .u64 0, .int .u64 0, .int .u64 0, .int .u64 0, .int .u64 0, .int .u64 0, .int .u64 0, .int .u64 0, .int .u64 0, .int .u64 0, .int .u64 0, .int .u64 0, .int .u64 0, .int .u64 0] 61) := ⟨_, rfl⟩
                          rw [← hx] at hb
                          have hl1 : LongAt x12 x9.heap.size false (fun _ => 0) := by rw [hx]; exact hl.1
                          rw [← hx]
                          obtain ⟨bz, hn⟩ : ∃ bz, bz = x9.heap.size := ⟨_, rfl⟩
                          rw [← hn] at hl1
                          rw [← hn]
                          have HB13 : Hid (Below wr.heap.size wr x12) := bnx HB10.out hb
                          have HF15 : Hid (LongAt x12 bq false (fun _ => 0)) := HF11.out.stay hb
                          have HF14 : Hid (LongAt x12 bz false (fun _ => 0)) := hl1
                          have HGbz : Hid (wr.heap.size ≤ bz ∧ bz = x9.heap.size) := ⟨by rw [hn]; exact HB10.out.size, hn⟩
                          clear hx hl hl1 hn hb
                          have HNE : Hid (bq ≠ bz) := by have h1 := HLT.out; have h2 := HGbz.out.2; show _ ≠ _; omega
                          (refine hK _ _ HB13.out ?_; clear hK K; intro _)
                          try simp only [Act.put, List.setIfInBounds_toArray, List.set_cons_zero, List.set_cons_succ]
                          refine wpAnyH_ready (rs := [15]) (by kernel_rfl) (by simp) ?_
                          refine AllReadyH.cons rfl (fun K hK => ?_) AllReadyH.nil
                          refine step_store_longY rfl _ _ rfl HF15.out rfl rfl ?_
                          intro x16 hl hX hB
                          have HB17 : Hid (Below wr.heap.size wr x16) := hB _ _ HB13.out HGbq.out.1
                          have HF18 : Hid (LongAt x16 bq sq dq) := hl
                          have HF19 : Hid (LongAt x16 bz false (fun _ => 0)) := (hX bz (fun e => HNE.out e.symm)).trans HF14.out
                          clear hl hX hB
                          (refine hK _ _ HB17.out ?_; clear hK K; intro _)
                          try simp only [Act.put, List.setIfInBounds_toArray, List.set_cons_zero, List.set_cons_succ]
                          refine wpAnyH_ready (rs := [16]) (by kernel_rfl) (by simp) ?_
                          refine AllReadyH.cons rfl (fun K hK => ?_) AllReadyH.nil
                          refine step_store_longY rfl _ _ rfl HF19.out rfl rfl ?_
                          intro x20 hl hX hB
                          have HB21 : Hid (Below wr.heap.size wr x20) := hB _ _ HB17.out HGbz.out.1
                          have HF22 : Hid (LongAt x20 bz false dr) := hl
                          have HF23 : Hid (LongAt x20 bq sq dq) := (hX bq HNE.out).trans HF18.out
                          clear hl hX hB
                          (refine hK _ _ HB21.out ?_; clear hK K; intro _)
                          try simp only [Act.put, List.setIfInBounds_toArray, List.set_cons_zero, List.set_cons_succ]
                          refine wpAnyH_done (by kernel_rfl) ?_ _
                          go_wp2
                          go_meet
                          exact ⟨bq, bz, sq, dq, dr, rfl, rfl, ⟨HF23.out, HF22.out, HB21.out, ⟨HQ.out.1, by rw [HQ.out.2, HYE.out]; rfl⟩, ⟨HZ.out.1, by rw [HZ.out.2, HYE.out]; rfl⟩, HGbq.out.1, HGbz.out.1, HNE.out⟩⟩
                        · go_simp
                          have hl := lay1 x7 false (fun _ => 0)
                          have hb : Below x7.heap.size x7 (x7.alloc (.cells #[.bool false, .int .u64 0, .int .u64 0, .int .u64 0, .int .u64 0, .int .u64 0, .int .u64 0, .int .u64 0, .int .u64 0, .int .u64 0, .int .u64 0, .int .u64 0, .int .u64 0, .int .u64 0, .int .u64 0, .int .u64 0, .int .u64 0] 61)) := hl.2
                          obtain ⟨x24, hx⟩ : ∃ x24, x24 = x7.alloc (.cells #[.bool false, .int .u64 0, .int .u64 0, .int .u64 0, .int .u64 0, .int .u64 0, .int .u64 0, .int .u64 0, .int .u64 0, .int .u64 0, .int .u64 0, .int .u64 0, .int .u64 0, .int .u64 0, .int .u64 0, .int .u64 0, .int .u64 0] 61) := ⟨_, rfl⟩
                          rw [← hx] at hb
                          have hl1 : LongAt x24 x7.heap.size false (fun _ => 0) := by rw [hx]; exact hl.1
                          rw [← hx]
                          obtain ⟨bz, hn⟩ : ∃ bz, bz = x7.heap.size := ⟨_, rfl⟩
                          rw [← hn] at hl1
                          rw [← hn]
                          have HB25 : Hid (Below wr.heap.size wr x24) := bnx HB8.out hb
                          have HF26 : Hid (LongAt x24 bz false (fun _ => 0)) := hl1
                          have HGbz : Hid (wr.heap.size ≤ bz ∧ bz = x7.heap.size) := ⟨by rw [hn]; exact HB8.out.size, hn⟩
                          clear hx hl hl1 hn hb
                          (refine hK _ _ HB25.out ?_; clear hK K; intro _)
                          try simp only [Act.put, List.setIfInBounds_toArray, List.set_cons_zero, List.set_cons_succ]
                          refine wpAnyH_ready (rs := [13]) (by kernel_rfl) (by simp) ?_
                          refine AllReadyH.cons rfl (fun K hK => ?_) AllReadyH.nil
                          have HLT : Hid (bz < x24.heap.size) := HF26.out.lt
                          go_simp
                          have hl := lay1 x24 false (fun _ => 0)
                          have hb : Below x24.heap.size x24 (x24.alloc (.cells #[.bool false, .int .u64 0, .int .u64 0, .int .u64 0, .int .u64 0, .int .u64 0, .int .u64 0, .int .u64 0, .int .u64 0, .int .u64 0, .int .u64 0, .int .u64 0, .int .u64 0, .int .u64 0, .int .u64 0, .int .u64 0, .int .u64 0] 61)) := hl.2
                          obtain ⟨x27, hx⟩ : ∃ x27, x27 = x24.alloc (.cells #[.bool false, .int .u64 0, .int .u64 0, .int .u64 0, .int .u64 0, .int .u64 0, .int .u64 0, .int .u64 0, .int .u64 0, .int .u64 0, .int .u64 0, .int .u64 0, .int .u64 0, .int .u64 0, .int .u64 0, .int .u64 0, .int .u64 0] 61) := ⟨_, rfl⟩
                          rw [← hx] at hb
                          have hl1 : LongAt x27 x24.heap.size false (fun _ => 0) := by rw [hx]; exact hl.1
                          rw [← hx]
                          obtain ⟨bq, hn⟩ : ∃ bq, bq = x24.heap.size := ⟨_, rfl⟩
                          rw [← hn] at hl1
                          rw [← hn]
                          have HB28 : Hid (Below wr.heap.size wr x27) := bnx HB25.out hb
                          have HF30 : Hid (LongAt x27 bz false (fun _ => 0)) := HF26.out.stay hb
                          have HF29 : Hid (LongAt x27 bq false (fun _ => 0)) := hl1
                          have HGbq : Hid (wr.heap.size ≤ bq ∧ bq = x24.heap.size) := ⟨by rw [hn]; exact HB25.out.size, hn⟩
                          clear hx hl hl1 hn hb
                          have HNE : Hid (bq ≠ bz) := by have h1 := HLT.out; have h2 := HGbq.out.2; show _ ≠ _; omega
                          (refine hK _ _ HB28.out ?_; clear hK K; intro _)
                          try simp only [Act.put, List.setIfInBounds_toArray, List.set_cons_zero, List.set_cons_succ]
                          refine wpAnyH_ready (rs := [15]) (by kernel_rfl) (by simp) ?_
                          refine AllReadyH.cons rfl (fun K hK => ?_) AllReadyH.nil
                          refine step_store_longY rfl _ _ rfl HF29.out rfl rfl ?_
                          intro x31 hl hX hB
                          have HB32 : Hid (Below wr.heap.size wr x31) := hB _ _ HB28.out HGbq.out.1
                          have HF33 : Hid (LongAt x31 bq sq dq) := hl
                          have HF34 : Hid (LongAt x31 bz false (fun _ => 0)) := (hX bz (fun e => HNE.out e.symm)).trans HF30.out
                          clear hl hX hB
                          (refine hK _ _ HB32.out ?_; clear hK K; intro _)
                          try simp only [Act.put, List.setIfInBounds_toArray, List.set_cons_zero, List.set_cons_succ]
                          refine wpAnyH_ready (rs := [16]) (by kernel_rfl) (by simp) ?_
                          refine AllReadyH.cons rfl (fun K hK => ?_) AllReadyH.nil
                          refine step_store_longY rfl _ _ rfl HF34.out rfl rfl ?_
                          intro x35 hl hX hB
                          have HB36 : Hid (Below wr.heap.size wr x35) := hB _ _ HB32.out HGbz.out.1
                          have HF37 : Hid (LongAt x35 bz false dr) := hl
                          have HF38 : Hid (LongAt x35 bq sq dq) := (hX bq HNE.out).trans HF33.out
                          clear hl hX hB
                          (refine hK _ _ HB36.out ?_; clear hK K; intro _)
                          try simp only [Act.put, List.setIfInBounds_toArray, List.set_cons_zero, List.set_cons_succ]
                          refine wpAnyH_done (by kernel_rfl) ?_ _
                          go_wp2
                          go_meet
                          exact ⟨bq, bz, sq, dq, dr, rfl, rfl, ⟨HF38.out, HF37.out, HB36.out, ⟨HQ.out.1, by rw [HQ.out.2, HYE.out]; rfl⟩, ⟨HZ.out.1, by rw [HZ.out.2, HYE.out]; rfl⟩, HGbq.out.1, HGbz.out.1, HNE.out⟩⟩
                      · go_simp
                        have hl := lay1 x5 false (fun _ => 0)
                        have hb : Below x5.heap.size x5 (x5.alloc (.cells #[.bool false, .int .u64 0, .int .u64 0, .int .u64 0, .int .u64 0, .int .u64 0, .int .u64 0, .int .u64 0, .int .u64 0, .int .u64 0, .int .u64 0, .int .u64 0, .int .u64 0, .int .u64 0, .int .u64 0, .int .u64 0, .int .u64 0] 61)) := hl.2
                        obtain ⟨x39, hx⟩ : ∃ x39, x39 = x5.alloc (.cells #[.bool false, .int .u64 0, .int .u64 0, .int .u64 0, .int .u64 0, .int .u64 0, .int .u64 0, .int .u64 0, .int .u64 0, .int .u64 0, .int .u64 0, .int .u64 0, .int .u64 0, .int .u64 0, .int .u64 0, .int .u64 0, .int .u64 0] 61) := ⟨_, rfl⟩
                        rw [← hx] at hb
                        have hl1 : LongAt x39 x5.heap.size false (fun _ => 0) := by rw [hx]; exact hl.1
                        rw [← hx]
                        obtain ⟨bq, hn⟩ : ∃ bq, bq = x5.heap.size := ⟨_, rfl⟩
                        rw [← hn] at hl1
                        rw [← hn]
                        have HB40 : Hid (Below wr.heap.size wr x39) := bnx HB6.out hb
                        have HF41 : Hid (LongAt x39 bq false (fun _ => 0)) := hl1
                        have HGbq : Hid (wr.heap.size ≤ bq ∧ bq = x5.heap.size) := ⟨by rw [hn]; exact HB6.out.size, hn⟩
                        clear hx hl hl1 hn hb
                        (refine hK _ _ HB40.out ?_; clear hK K; intro _)
                        try simp only [Act.put, List.setIfInBounds_toArray, List.set_cons_zero, List.set_cons_succ]
                        refine wpAnyH_ready (rs := [9, 14]) (by kernel_rfl) (by simp) ?_
                        refine AllReadyH.cons rfl (fun K hK => ?_) (AllReadyH.cons rfl (fun K hK => ?_) AllReadyH.nil)
                        · go_simp
                          refine (over_qr rp (.agg (LA sA dA)) (T * y) W x39 HRP.out HAL.out HNS.out.2.2.1 HNS.out.2.2.2).mono ?_; rintro _ x42 ⟨sq, dq, dr, rfl, hq, hz, hb⟩
                          have HB43 : Hid (Below wr.heap.size wr x42) := bnx HB40.out hb
                          have HF44 : Hid (LongAt x42 bq false (fun _ => 0)) := HF41.out.stay hb
                          have HQ : Hid (Dig dq ∧ sgn sq (V dq 16) = ((T * y / W : Nat) : Int)) := hq
                          have HZ : Hid (Dig dr ∧ V dr 16 = T * y % W) := hz
                          clear hq hz
                          clear hb
                          (refine hK _ _ HB43.out ?_; clear hK K; intro _)
                          try simp only [Act.put, List.setIfInBounds_toArray, List.set_cons_zero, List.set_cons_succ]
                          refine wpAnyH_take (i := 10) (oi := { dst := some 66, op := Op.move (Operand.tmp 76), type := 68, pos := "ref.go:174", after := #[{ on := 9, ground := Ground.data }], guard := none }) (v := ?_) rfl (by kernel_rfl) (by kernel_rfl) (by kernel_rfl) (fun _ _ _ h => h) (Or.inl ⟨by rfl, ?_⟩) HB43.out ?_
                          rotate_left
                          · (intro y hy; go_simp; try (with_reducible rfl))
                          simp only [Act.put, List.setIfInBounds_toArray, List.set_cons_zero, List.set_cons_succ]
                          refine wpAnyH_take (i := 11) (oi := { dst := some 77, op := Op.extract (Operand.tmp 66) 0, type := 61, pos := "ref.go:174", after := #[{ on := 10, ground := Ground.data }], guard := none }) (v := ?_) rfl (by kernel_rfl) (by kernel_rfl) (by kernel_rfl) (fun _ _ _ h => h) (Or.inl ⟨by rfl, ?_⟩) HB43.out ?_
                          rotate_left
                          · (intro y hy; go_simp; try (with_reducible rfl))
                          simp only [Act.put, List.setIfInBounds_toArray, List.set_cons_zero, List.set_cons_succ]
                          refine wpAnyH_take (i := 12) (oi := { dst := some 78, op := Op.extract (Operand.tmp 66) 1, type := 61, pos := "ref.go:174", after := #[{ on := 10, ground := Ground.data }, { on := 15, ground := Ground.gcOnly Departure.lateStores }], guard := none }) (v := ?_) rfl (by kernel_rfl) (by kernel_rfl) (by kernel_rfl) (fun _ _ _ h => h) (Or.inl ⟨by rfl, ?_⟩) HB43.out ?_
                          rotate_left
                          · (intro y hy; go_simp; try (with_reducible rfl))
                          simp only [Act.put, List.setIfInBounds_toArray, List.set_cons_zero, List.set_cons_succ]
                          refine wpAnyH_ready (rs := [14]) (by kernel_rfl) (by simp) ?_
                          refine AllReadyH.cons rfl (fun K hK => ?_) AllReadyH.nil
                          have HLT : Hid (bq < x42.heap.size) := HF44.out.lt
                          go_simp
                          have hl := lay1 x42 false (fun _ => 0)
                          have hb : Below x42.heap.size x42 (x42.alloc (.cells #[.bool false, .int .u64 0, .int .u64 0, .int .u64 0, .int .u64 0, .int .u64 0, .int .u64 0, .int .u64 0, .int .u64 0, .int .u64 0, .int .u64 0, .int .u64 0, .int .u64 0, .int .u64 0, .int .u64 0, .int .u64 0, .int .u64 0] 61)) := hl.2
                          obtain ⟨x45, hx⟩ : ∃ x45, x45 = x42.alloc (.cells #[.bool false, .int .u64 0, .int .u64 0, .int .u64 0, .int .u64 0, .int .u64 0, .int .u64 0, .int .u64 0, .int .u64 0, .int .u64 0, .int .u64 0, .int .u64 0, .int .u64 0, .int .u64 0, .int .u64 0, .int .u64 0, .int .u64 0] 61) := ⟨_, rfl⟩
                          rw [← hx] at hb
                          have hl1 : LongAt x45 x42.heap.size false (fun _ => 0) := by rw [hx]; exact hl.1
                          rw [← hx]
                          obtain ⟨bz, hn⟩ : ∃ bz, bz = x42.heap.size := ⟨_, rfl⟩
                          rw [← hn] at hl1
                          rw [← hn]
                          have HB46 : Hid (Below wr.heap.size wr x45) := bnx HB43.out hb
                          have HF48 : Hid (LongAt x45 bq false (fun _ => 0)) := HF44.out.stay hb
                          have HF47 : Hid (LongAt x45 bz false (fun _ => 0)) := hl1
                          have HGbz : Hid (wr.heap.size ≤ bz ∧ bz = x42.heap.size) := ⟨by rw [hn]; exact HB43.out.size, hn⟩
                          clear hx hl hl1 hn hb
                          have HNE : Hid (bq ≠ bz) := by have h1 := HLT.out; have h2 := HGbz.out.2; show _ ≠ _; omega
                          (refine hK _ _ HB46.out ?_; clear hK K; intro _)
                          try simp only [Act.put, List.setIfInBounds_toArray, List.set_cons_zero, List.set_cons_succ]
                          refine wpAnyH_ready (rs := [15]) (by kernel_rfl) (by simp) ?_
                          refine AllReadyH.cons rfl (fun K hK => ?_) AllReadyH.nil
                          refine step_store_longY rfl _ _ rfl HF48.out rfl rfl ?_
                          intro x49 hl hX hB
                          have HB50 : Hid (Below wr.heap.size wr x49) := hB _ _ HB46.out HGbq.out.1
                          have HF51 : Hid (LongAt x49 bq sq dq) := hl
                          have HF52 : Hid (LongAt x49 bz false (fun _ => 0)) := (hX bz (fun e => HNE.out e.symm)).trans HF47.out
                          clear hl hX hB
                          (refine hK _ _ HB50.out ?_; clear hK K; intro _)
                          try simp only [Act.put, List.setIfInBounds_toArray, List.set_cons_zero, List.set_cons_succ]
                          refine wpAnyH_ready (rs := [16]) (by kernel_rfl) (by simp) ?_
                          refine AllReadyH.cons rfl (fun K hK => ?_) AllReadyH.nil
                          refine step_store_longY rfl _ _ rfl HF52.out rfl rfl ?_
                          intro x53 hl hX hB
                          have HB54 : Hid (Below wr.heap.size wr x53) := hB _ _ HB50.out HGbz.out.1
                          have HF55 : Hid (LongAt x53 bz false dr) := hl
                          have HF56 : Hid (LongAt x53 bq sq dq) := (hX bq HNE.out).trans HF51.out
                          clear hl hX hB
                          (refine hK _ _ HB54.out ?_; clear hK K; intro _)
                          try simp only [Act.put, List.setIfInBounds_toArray, List.set_cons_zero, List.set_cons_succ]
                          refine wpAnyH_done (by kernel_rfl) ?_ _
                          go_wp2
                          go_meet
                          exact ⟨bq, bz, sq, dq, dr, rfl, rfl, ⟨HF56.out, HF55.out, HB54.out, ⟨HQ.out.1, by rw [HQ.out.2, HYE.out]; rfl⟩, ⟨HZ.out.1, by rw [HZ.out.2, HYE.out]; rfl⟩, HGbq.out.1, HGbz.out.1, HNE.out⟩⟩
                        · have HLT : Hid (bq < x39.heap.size) := HF41.out.lt
                          go_simp
                          have hl := lay1 x39 false (fun _ => 0)
                          have hb : Below x39.heap.size x39 (x39.alloc (.cells #[.bool false, .int .u64 0, .int .u64 0, .int .u64 0, .int .u64 0, .int .u64 0, .int .u64 0, .int .u64 0, .int .u64 0, .int .u64 0, .int .u64 0, .int .u64 0, .int .u64 0, .int .u64 0, .int .u64 0, .int .u64 0, .int .u64 0] 61)) := hl.2
                          obtain ⟨x57, hx⟩ : ∃ x57, x57 = x39.alloc (.cells #[.bool false, .int .u64 0, .int .u64 0, .int .u64 0, .int .u64 0, .int .u64 0, .int .u64 0, .int .u64 0, .int .u64 0, .int .u64 0, .int .u64 0, .int .u64 0, .int .u64 0, .int .u64 0, .int .u64 0, .int .u64 0, .int .u64 0] 61) := ⟨_, rfl⟩
                          rw [← hx] at hb
                          have hl1 : LongAt x57 x39.heap.size false (fun _ => 0) := by rw [hx]; exact hl.1
                          rw [← hx]
                          obtain ⟨bz, hn⟩ : ∃ bz, bz = x39.heap.size := ⟨_, rfl⟩
                          rw [← hn] at hl1
                          rw [← hn]
                          have HB58 : Hid (Below wr.heap.size wr x57) := bnx HB40.out hb
                          have HF60 : Hid (LongAt x57 bq false (fun _ => 0)) := HF41.out.stay hb
                          have HF59 : Hid (LongAt x57 bz false (fun _ => 0)) := hl1
                          have HGbz : Hid (wr.heap.size ≤ bz ∧ bz = x39.heap.size) := ⟨by rw [hn]; exact HB40.out.size, hn⟩
                          clear hx hl hl1 hn hb
                          have HNE : Hid (bq ≠ bz) := by have h1 := HLT.out; have h2 := HGbz.out.2; show _ ≠ _; omega
                          (refine hK _ _ HB58.out ?_; clear hK K; intro _)
                          try simp only [Act.put, List.setIfInBounds_toArray, List.set_cons_zero, List.set_cons_succ]
                          refine wpAnyH_ready (rs := [9]) (by kernel_rfl) (by simp) ?_
                          refine AllReadyH.cons rfl (fun K hK => ?_) AllReadyH.nil
                          go_simp
                          refine (over_qr rp (.agg (LA sA dA)) (T * y) W x57 HRP.out HAL.out HNS.out.2.2.1 HNS.out.2.2.2).mono ?_; rintro _ x61 ⟨sq, dq, dr, rfl, hq, hz, hb⟩
                          have HB62 : Hid (Below wr.heap.size wr x61) := bnx HB58.out hb
                          have HF63 : Hid (LongAt x61 bq false (fun _ => 0)) := HF60.out.stay hb
                          have HF64 : Hid (LongAt x61 bz false (fun _ => 0)) := HF59.out.stay hb
                          have HQ : Hid (Dig dq ∧ sgn sq (V dq 16) = ((T * y / W : Nat) : Int)) := hq
                          have HZ : Hid (Dig dr ∧ V dr 16 = T * y % W) := hz
                          clear hq hz
                          clear hb
                          (refine hK _ _ HB62.out ?_; clear hK K; intro _)
                          try simp only [Act.put, List.setIfInBounds_toArray, List.set_cons_zero, List.set_cons_succ]
                          refine wpAnyH_take (i := 10) (oi := { dst := some 66, op := Op.move (Operand.tmp 76), type := 68, pos := "ref.go:174", after := #[{ on := 9, ground := Ground.data }], guard := none }) (v := ?_) rfl (by kernel_rfl) (by kernel_rfl) (by kernel_rfl) (fun _ _ _ h => h) (Or.inl ⟨by rfl, ?_⟩) HB62.out ?_
                          rotate_left
                          · (intro y hy; go_simp; try (with_reducible rfl))
                          simp only [Act.put, List.setIfInBounds_toArray, List.set_cons_zero, List.set_cons_succ]
                          refine wpAnyH_take (i := 11) (oi := { dst := some 77, op := Op.extract (Operand.tmp 66) 0, type := 61, pos := "ref.go:174", after := #[{ on := 10, ground := Ground.data }], guard := none }) (v := ?_) rfl (by kernel_rfl) (by kernel_rfl) (by kernel_rfl) (fun _ _ _ h => h) (Or.inl ⟨by rfl, ?_⟩) HB62.out ?_
                          rotate_left
                          · (intro y hy; go_simp; try (with_reducible rfl))
                          simp only [Act.put, List.setIfInBounds_toArray, List.set_cons_zero, List.set_cons_succ]
                          refine wpAnyH_take (i := 12) (oi := { dst := some 78, op := Op.extract (Operand.tmp 66) 1, type := 61, pos := "ref.go:174", after := #[{ on := 10, ground := Ground.data }, { on := 15, ground := Ground.gcOnly Departure.lateStores }], guard := none }) (v := ?_) rfl (by kernel_rfl) (by kernel_rfl) (by kernel_rfl) (fun _ _ _ h => h) (Or.inl ⟨by rfl, ?_⟩) HB62.out ?_
                          rotate_left
                          · (intro y hy; go_simp; try (with_reducible rfl))
                          simp only [Act.put, List.setIfInBounds_toArray, List.set_cons_zero, List.set_cons_succ]
                          refine wpAnyH_ready (rs := [15]) (by kernel_rfl) (by simp) ?_
                          refine AllReadyH.cons rfl (fun K hK => ?_) AllReadyH.nil
                          refine step_store_longY rfl _ _ rfl HF63.out rfl rfl ?_
                          intro x65 hl hX hB
                          have HB66 : Hid (Below wr.heap.size wr x65) := hB _ _ HB62.out HGbq.out.1
                          have HF67 : Hid (LongAt x65 bq sq dq) := hl
                          have HF68 : Hid (LongAt x65 bz false (fun _ => 0)) := (hX bz (fun e => HNE.out e.symm)).trans HF64.out
                          clear hl hX hB
                          (refine hK _ _ HB66.out ?_; clear hK K; intro _)
                          try simp only [Act.put, List.setIfInBounds_toArray, List.set_cons_zero, List.set_cons_succ]
                          refine wpAnyH_ready (rs := [16]) (by kernel_rfl) (by simp) ?_
                          refine AllReadyH.cons rfl (fun K hK => ?_) AllReadyH.nil
                          refine step_store_longY rfl _ _ rfl HF68.out rfl rfl ?_
                          intro x69 hl hX hB
                          have HB70 : Hid (Below wr.heap.size wr x69) := hB _ _ HB66.out HGbz.out.1
                          have HF71 : Hid (LongAt x69 bz false dr) := hl
                          have HF72 : Hid (LongAt x69 bq sq dq) := (hX bq HNE.out).trans HF67.out
                          clear hl hX hB
                          (refine hK _ _ HB70.out ?_; clear hK K; intro _)
                          try simp only [Act.put, List.setIfInBounds_toArray, List.set_cons_zero, List.set_cons_succ]
                          refine wpAnyH_done (by kernel_rfl) ?_ _
                          go_wp2
                          go_meet
                          exact ⟨bq, bz, sq, dq, dr, rfl, rfl, ⟨HF72.out, HF71.out, HB70.out, ⟨HQ.out.1, by rw [HQ.out.2, HYE.out]; rfl⟩, ⟨HZ.out.1, by rw [HZ.out.2, HYE.out]; rfl⟩, HGbq.out.1, HGbz.out.1, HNE.out⟩⟩
                      · go_simp
                        have hl := lay1 x5 false (fun _ => 0)
                        have hb : Below x5.heap.size x5 (x5.alloc (.cells #[.bool false, .int .u64 0, .int .u64 0, .int .u64 0, .int .u64 0, .int .u64 0, .int .u64 0, .int .u64 0, .int .u64 0, .int .u64 0, .int .u64 0, .int .u64 0, .int .u64 0, .int .u64 0, .int .u64 0, .int .u64 0, .int .u64 0] 61)) := hl.2
                        obtain ⟨x73, hx⟩ : ∃ x73, x73 = x5.alloc (.cells #[.bool false, .int .u64 0, .int .u64 0, .int .u64 0, .int .u64 0, .int .u64 0, .int .u64 0, .int .u64 0, .int .u64 0, .int .u64 0, .int .u64 0, .int .u64 0, .int .u64 0, .int .u64 0, .int .u64 0, .int .u64 0, .int .u64 0] 61) := ⟨_, rfl⟩
                        rw [← hx] at hb
                        have hl1 : LongAt x73 x5.heap.size false (fun _ => 0) := by rw [hx]; exact hl.1
                        rw [← hx]
                        obtain ⟨bz, hn⟩ : ∃ bz, bz = x5.heap.size := ⟨_, rfl⟩
                        rw [← hn] at hl1
                        rw [← hn]
                        have HB74 : Hid (Below wr.heap.size wr x73) := bnx HB6.out hb
                        have HF75 : Hid (LongAt x73 bz false (fun _ => 0)) := hl1
                        have HGbz : Hid (wr.heap.size ≤ bz ∧ bz = x5.heap.size) := ⟨by rw [hn]; exact HB6.out.size, hn⟩
                        clear hx hl hl1 hn hb
                        (refine hK _ _ HB74.out ?_; clear hK K; intro _)
                        try simp only [Act.put, List.setIfInBounds_toArray, List.set_cons_zero, List.set_cons_succ]
                        refine wpAnyH_ready (rs := [9, 13]) (by kernel_rfl) (by simp) ?_
                        refine AllReadyH.cons rfl (fun K hK => ?_) (AllReadyH.cons rfl (fun K hK => ?_) AllReadyH.nil)
                        · go_simp
                          refine (over_qr rp (.agg (LA sA dA)) (T * y) W x73 HRP.out HAL.out HNS.out.2.2.1 HNS.out.2.2.2).mono ?_; rintro _ x76 ⟨sq, dq, dr, rfl, hq, hz, hb⟩
                          have HB77 : Hid (Below wr.heap.size wr x76) := bnx HB74.out hb
                          have HF78 : Hid (LongAt x76 bz false (fun _ => 0)) := HF75.out.stay hb
                          have HQ : Hid (Dig dq ∧ sgn sq (V dq 16) = ((T * y / W : Nat) : Int)) := hq
                          have HZ : Hid (Dig dr ∧ V dr 16 = T * y % W) := hz
                          clear hq hz
                          clear hb
                          (refine hK _ _ HB77.out ?_; clear hK K; intro _)
                          try simp only [Act.put, List.setIfInBounds_toArray, List.set_cons_zero, List.set_cons_succ]
                          refine wpAnyH_take (i := 10) (oi := { dst := some 66, op := Op.move (Operand.tmp 76), type := 68, pos := "ref.go:174", after := #[{ on := 9, ground := Ground.data }], guard := none }) (v := ?_) rfl (by kernel_rfl) (by kernel_rfl) (by kernel_rfl) (fun _ _ _ h => h) (Or.inl ⟨by rfl, ?_⟩) HB77.out ?_
                          rotate_left
                          · (intro y hy; go_simp; try (with_reducible rfl))
                          simp only [Act.put, List.setIfInBounds_toArray, List.set_cons_zero, List.set_cons_succ]
                          refine wpAnyH_take (i := 11) (oi := { dst := some 77, op := Op.extract (Operand.tmp 66) 0, type := 61, pos := "ref.go:174", after := #[{ on := 10, ground := Ground.data }], guard := none }) (v := ?_) rfl (by kernel_rfl) (by kernel_rfl) (by kernel_rfl) (fun _ _ _ h => h) (Or.inl ⟨by rfl, ?_⟩) HB77.out ?_
                          rotate_left
                          · (intro y hy; go_simp; try (with_reducible rfl))
                          simp only [Act.put, List.setIfInBounds_toArray, List.set_cons_zero, List.set_cons_succ]
                          refine wpAnyH_take (i := 12) (oi := { dst := some 78, op := Op.extract (Operand.tmp 66) 1, type := 61, pos := "ref.go:174", after := #[{ on := 10, ground := Ground.data }, { on := 15, ground := Ground.gcOnly Departure.lateStores }], guard := none }) (v := ?_) rfl (by kernel_rfl) (by kernel_rfl) (by kernel_rfl) (fun _ _ _ h => h) (Or.inl ⟨by rfl, ?_⟩) HB77.out ?_
                          rotate_left
                          · (intro y hy; go_simp; try (with_reducible rfl))
                          simp only [Act.put, List.setIfInBounds_toArray, List.set_cons_zero, List.set_cons_succ]
                          refine wpAnyH_ready (rs := [13]) (by kernel_rfl) (by simp) ?_
                          refine AllReadyH.cons rfl (fun K hK => ?_) AllReadyH.nil
                          have HLT : Hid (bz < x76.heap.size) := HF78.out.lt
                          go_simp
                          have hl := lay1 x76 false (fun _ => 0)
                          have hb : Below x76.heap.size x76 (x76.alloc (.cells #[.bool false, .int .u64 0, .int .u64 0, .int .u64 0, .int .u64 0, .int .u64 0, .int .u64 0, .int .u64 0, .int .u64 0, .int .u64 0, .int .u64 0, .int .u64 0, .int .u64 0, .int .u64 0, .int .u64 0, .int .u64 0, .int .u64 0] 61)) := hl.2
                          obtain ⟨x79, hx⟩ : ∃ x79, x79 = x76.alloc (.cells #[.bool false, .int .u64 0, .int .u64 0, .int .u64 0, .int .u64 0, .int .u64 0, .int .u64 0, .int .u64 0, .int .u64 0, .int .u64 0, .int .u64 0, .int .u64 0, .int .u64 0, .int .u64 0, .int .u64 0, .int .u64 0, .int .u64 0] 61) := ⟨_, rfl⟩
                          rw [← hx] at hb
                          have hl1 : LongAt x79 x76.heap.size false (fun _ => 0) := by rw [hx]; exact hl.1
                          rw [← hx]
                          obtain ⟨bq, hn⟩ : ∃ bq, bq = x76.heap.size := ⟨_, rfl⟩
                          rw [← hn] at hl1
                          rw [← hn]
                          have HB80 : Hid (Below wr.heap.size wr x79) := bnx HB77.out hb
                          have HF82 : Hid (LongAt x79 bz false (fun _ => 0)) := HF78.out.stay hb
                          have HF81 : Hid (LongAt x79 bq false (fun _ => 0)) := hl1
                          have HGbq : Hid (wr.heap.size ≤ bq ∧ bq = x76.heap.size) := ⟨by rw [hn]; exact HB77.out.size, hn⟩
                          clear hx hl hl1 hn hb
                          have HNE : Hid (bq ≠ bz) := by have h1 := HLT.out; have h2 := HGbq.out.2; show _ ≠ _; omega
                          (refine hK _ _ HB80.out ?_; clear hK K; intro _)
                          try simp only [Act.put, List.setIfInBounds_toArray, List.set_cons_zero, List.set_cons_succ]
                          refine wpAnyH_ready (rs := [15]) (by kernel_rfl) (by simp) ?_
                          refine AllReadyH.cons rfl (fun K hK => ?_) AllReadyH.nil
                          refine step_store_longY rfl _ _ rfl HF81.out rfl rfl ?_
                          intro x83 hl hX hB
                          have HB84 : Hid (Below wr.heap.size wr x83) := hB _ _ HB80.out HGbq.out.1
                          have HF85 : Hid (LongAt x83 bq sq dq) := hl
                          have HF86 : Hid (LongAt x83 bz false (fun _ => 0)) := (hX bz (fun e => HNE.out e.symm)).trans HF82.out
                          clear hl hX hB
                          (refine hK _ _ HB84.out ?_; clear hK K; intro _)
                          try simp only [Act.put, List.setIfInBounds_toArray, List.set_cons_zero, List.set_cons_succ]
                          refine wpAnyH_ready (rs := [16]) (by kernel_rfl) (by simp) ?_
                          refine AllReadyH.cons rfl (fun K hK => ?_) AllReadyH.nil
                          refine step_store_longY rfl _ _ rfl HF86.out rfl rfl ?_
                          intro x87 hl hX hB
                          have HB88 : Hid (Below wr.heap.size wr x87) := hB _ _ HB84.out HGbz.out.1
                          have HF89 : Hid (LongAt x87 bz false dr) := hl
                          have HF90 : Hid (LongAt x87 bq sq dq) := (hX bq HNE.out).trans HF85.out
                          clear hl hX hB
                          (refine hK _ _ HB88.out ?_; clear hK K; intro _)
                          try simp only [Act.put, List.setIfInBounds_toArray, List.set_cons_zero, List.set_cons_succ]
                          refine wpAnyH_done (by kernel_rfl) ?_ _
                          go_wp2
                          go_meet
                          exact ⟨bq, bz, sq, dq, dr, rfl, rfl, ⟨HF90.out, HF89.out, HB88.out, ⟨HQ.out.1, by rw [HQ.out.2, HYE.out]; rfl⟩, ⟨HZ.out.1, by rw [HZ.out.2, HYE.out]; rfl⟩, HGbq.out.1, HGbz.out.1, HNE.out⟩⟩
                        · have HLT : Hid (bz < x73.heap.size) := HF75.out.lt
                          go_simp
                          have hl := lay1 x73 false (fun _ => 0)
                          have hb : Below x73.heap.size x73 (x73.alloc (.cells #[.bool false, .int .u64 0, .int .u64 0, .int .u64 0, .int .u64 0, .int .u64 0, .int .u64 0, .int .u64 0, .int .u64 0, .int .u64 0, .int .u64 0, .int .u64 0, .int .u64 0, .int .u64 0, .int .u64 0, .int .u64 0, .int .u64 0] 61)) := hl.2
                          obtain ⟨x91, hx⟩ : ∃ x91, x91 = x73.alloc (.cells #[.bool false, .int .u64 0, .int .u64 0, .int .u64 0, .int .u64 0, .int .u64 0, .int .u64 0, .int .u64 0, .int .u64 0, .int .u64 0, .int .u64 0, .int .u64 0, .int .u64 0, .int .u64 0, .int .u64 0, .int .u64 0, .int .u64 0] 61) := ⟨_, rfl⟩
                          rw [← hx] at hb
                          have hl1 : LongAt x91 x73.heap.size false (fun _ => 0) := by rw [hx]; exact hl.1
                          rw [← hx]
                          obtain ⟨bq, hn⟩ : ∃ bq, bq = x73.heap.size := ⟨_, rfl⟩
                          rw [← hn] at hl1
                          rw [← hn]
                          have HB92 : Hid (Below wr.heap.size wr x91) := bnx HB74.out hb
                          have HF94 : Hid (LongAt x91 bz false (fun _ => 0)) := HF75.out.stay hb
                          have HF93 : Hid (LongAt x91 bq false (fun _ => 0)) := hl1
                          have HGbq : Hid (wr.heap.size ≤ bq ∧ bq = x73.heap.size) := ⟨by rw [hn]; exact HB74.out.size, hn⟩
                          clear hx hl hl1 hn hb
                          have HNE : Hid (bq ≠ bz) := by have h1 := HLT.out; have h2 := HGbq.out.2; show _ ≠ _; omega
                          (refine hK _ _ HB92.out ?_; clear hK K; intro _)
                          try simp only [Act.put, List.setIfInBounds_toArray, List.set_cons_zero, List.set_cons_succ]
                          refine wpAnyH_ready (rs := [9]) (by kernel_rfl) (by simp) ?_
                          refine AllReadyH.cons rfl (fun K hK => ?_) AllReadyH.nil
                          go_simp
                          refine (over_qr rp (.agg (LA sA dA)) (T * y) W x91 HRP.out HAL.out HNS.out.2.2.1 HNS.out.2.2.2).mono ?_; rintro _ x95 ⟨sq, dq, dr, rfl, hq, hz, hb⟩
                          have HB96 : Hid (Below wr.heap.size wr x95) := bnx HB92.out hb
                          have HF97 : Hid (LongAt x95 bz false (fun _ => 0)) := HF94.out.stay hb
                          have HF98 : Hid (LongAt x95 bq false (fun _ => 0)) := HF93.out.stay hb
                          have HQ : Hid (Dig dq ∧ sgn sq (V dq 16) = ((T * y / W : Nat) : Int)) := hq
                          have HZ : Hid (Dig dr ∧ V dr 16 = T * y % W) := hz
                          clear hq hz
                          clear hb
                          (refine hK _ _ HB96.out ?_; clear hK K; intro _)
                          try simp only [Act.put, List.setIfInBounds_toArray, List.set_cons_zero, List.set_cons_succ]
                          refine wpAnyH_take (i := 10) (oi := { dst := some 66, op := Op.move (Operand.tmp 76), type := 68, pos := "ref.go:174", after := #[{ on := 9, ground := Ground.data }], guard := none }) (v := ?_) rfl (by kernel_rfl) (by kernel_rfl) (by kernel_rfl) (fun _ _ _ h => h) (Or.inl ⟨by rfl, ?_⟩) HB96.out ?_
                          rotate_left
                          · (intro y hy; go_simp; try (with_reducible rfl))
                          simp only [Act.put, List.setIfInBounds_toArray, List.set_cons_zero, List.set_cons_succ]
                          refine wpAnyH_take (i := 11) (oi := { dst := some 77, op := Op.extract (Operand.tmp 66) 0, type := 61, pos := "ref.go:174", after := #[{ on := 10, ground := Ground.data }], guard := none }) (v := ?_) rfl (by kernel_rfl) (by kernel_rfl) (by kernel_rfl) (fun _ _ _ h => h) (Or.inl ⟨by rfl, ?_⟩) HB96.out ?_
                          rotate_left
                          · (intro y hy; go_simp; try (with_reducible rfl))
                          simp only [Act.put, List.setIfInBounds_toArray, List.set_cons_zero, List.set_cons_succ]
                          refine wpAnyH_take (i := 12) (oi := { dst := some 78, op := Op.extract (Operand.tmp 66) 1, type := 61, pos := "ref.go:174", after := #[{ on := 10, ground := Ground.data }, { on := 15, ground := Ground.gcOnly Departure.lateStores }], guard := none }) (v := ?_) rfl (by kernel_rfl) (by kernel_rfl) (by kernel_rfl) (fun _ _ _ h => h) (Or.inl ⟨by rfl, ?_⟩) HB96.out ?_
                          rotate_left
                          · (intro y hy; go_simp; try (with_reducible rfl))
                          simp only [Act.put, List.setIfInBounds_toArray, List.set_cons_zero, List.set_cons_succ]
                          refine wpAnyH_ready (rs := [15]) (by kernel_rfl) (by simp) ?_
                          refine AllReadyH.cons rfl (fun K hK => ?_) AllReadyH.nil
                          refine step_store_longY rfl _ _ rfl HF98.out rfl rfl ?_
                          intro x99 hl hX hB
                          have HB100 : Hid (Below wr.heap.size wr x99) := hB _ _ HB96.out HGbq.out.1
                          have HF101 : Hid (LongAt x99 bq sq dq) := hl
                          have HF102 : Hid (LongAt x99 bz false (fun _ => 0)) := (hX bz (fun e => HNE.out e.symm)).trans HF97.out
                          clear hl hX hB
                          (refine hK _ _ HB100.out ?_; clear hK K; intro _)
                          try simp only [Act.put, List.setIfInBounds_toArray, List.set_cons_zero, List.set_cons_succ]
                          refine wpAnyH_ready (rs := [16]) (by kernel_rfl) (by simp) ?_
                          refine AllReadyH.cons rfl (fun K hK => ?_) AllReadyH.nil
                          refine step_store_longY rfl _ _ rfl HF102.out rfl rfl ?_
                          intro x103 hl hX hB
                          have HB104 : Hid (Below wr.heap.size wr x103) := hB _ _ HB100.out HGbz.out.1
                          have HF105 : Hid (LongAt x103 bz false dr) := hl
                          have HF106 : Hid (LongAt x103 bq sq dq) := (hX bq HNE.out).trans HF101.out
                          clear hl hX hB
                          (refine hK _ _ HB104.out ?_; clear hK K; intro _)
                          try simp only [Act.put, List.setIfInBounds_toArray, List.set_cons_zero, List.set_cons_succ]
                          refine wpAnyH_done (by kernel_rfl) ?_ _
                          go_wp2
                          go_meet
                          exact ⟨bq, bz, sq, dq, dr, rfl, rfl, ⟨HF106.out, HF105.out, HB104.out, ⟨HQ.out.1, by rw [HQ.out.2, HYE.out]; rfl⟩, ⟨HZ.out.1, by rw [HZ.out.2, HYE.out]; rfl⟩, HGbq.out.1, HGbz.out.1, HNE.out⟩⟩
                    · go_simp
                      have hl := lay1 x3 false (fun _ => 0)
                      have hb : Below x3.heap.size x3 (x3.alloc (.cells #[.bool false, .int .u64 0, .int .u64 0, .int .u64 0, .int .u64 0, .int .u64 0, .int .u64 0, .int .u64 0, .int .u64 0, .int .u64 0, .int .u64 0, .int .u64 0, .int .u64 0, .int .u64 0, .int .u64 0, .int .u64 0, .int .u64 0] 61)) := hl.2
                      obtain ⟨x107, hx⟩ : ∃ x107, x107 = x3.alloc (.cells #[.bool false, .int .u64 0, .int .u64 0, .int .u64 0, .int .u64 0, .int .u64 0, .int .u64 0, .int .u64 0, .int .u64 0, .int .u64 0, .int .u64 0, .int .u64 0, .int .u64 0, .int .u64 0, .int .u64 0, .int .u64 0, .int .u64 0] 61) := ⟨_, rfl⟩
                      rw [← hx] at hb
                      have hl1 : LongAt x107 x3.heap.size false (fun _ => 0) := by rw [hx]; exact hl.1
                      rw [← hx]
                      obtain ⟨bq, hn⟩ : ∃ bq, bq = x3.heap.size := ⟨_, rfl⟩
                      rw [← hn] at hl1
                      rw [← hn]
                      have HB108 : Hid (Below wr.heap.size wr x107) := bnx HB4.out hb
                      have HF109 : Hid (LongAt x107 bq false (fun _ => 0)) := hl1
                      have HGbq : Hid (wr.heap.size ≤ bq ∧ bq = x3.heap.size) := ⟨by rw [hn]; exact HB4.out.size, hn⟩
                      clear hx hl hl1 hn hb
                      (refine hK _ _ HB108.out ?_; clear hK K; intro _)
                      try simp only [Act.put, List.setIfInBounds_toArray, List.set_cons_zero, List.set_cons_succ]
                      refine wpAnyH_ready (rs := [7, 14]) (by kernel_rfl) (by simp) ?_
                      refine AllReadyH.cons rfl (fun K hK => ?_) (AllReadyH.cons rfl (fun K hK => ?_) AllReadyH.nil)
                      · go_simp
                        refine (times_nat ra rb T y x107 HRA.out HRB.out HNS.out.1 HNS.out.2.1).mono ?_; rintro _ x110 ⟨rp, rfl, hrp, hb⟩
                        have HB111 : Hid (Below wr.heap.size wr x110) := bnx HB108.out hb
                        have HF112 : Hid (LongAt x110 bq false (fun _ => 0)) := HF109.out.stay hb
                        have HRP : Hid (IsL rp ((T * y : Nat) : Int)) := hrp
                        clear hrp
                        clear hb
                        (refine hK _ _ HB111.out ?_; clear hK K; intro _)
                        try simp only [Act.put, List.setIfInBounds_toArray, List.set_cons_zero, List.set_cons_succ]
                        refine wpAnyH_ready (rs := [9, 14]) (by kernel_rfl) (by simp) ?_
                        refine AllReadyH.cons rfl (fun K hK => ?_) (AllReadyH.cons rfl (fun K hK => ?_) AllReadyH.nil)
                        · go_simp
                          refine (over_qr rp (.agg (LA sA dA)) (T * y) W x110 HRP.out HAL.out HNS.out.2.2.1 HNS.out.2.2.2).mono ?_; rintro _ x113 ⟨sq, dq, dr, rfl, hq, hz, hb⟩
                          have HB114 : Hid (Below wr.heap.size wr x113) := bnx HB111.out hb
                          have HF115 : Hid (LongAt x113 bq false (fun _ => 0)) := HF112.out.stay hb
                          have HQ : Hid (Dig dq ∧ sgn sq (V dq 16) = ((T * y / W : Nat) : Int)) := hq
                          have HZ : Hid (Dig dr ∧ V dr 16 = T * y % W) := hz
                          clear hq hz
                          clear hb
                          (refine hK _ _ HB114.out ?_; clear hK K; intro _)
                          try simp only [Act.put, List.setIfInBounds_toArray, List.set_cons_zero, List.set_cons_succ]
                          refine wpAnyH_take (i := 10) (oi := { dst := some 66, op := Op.move (Operand.tmp 76), type := 68, pos := "ref.go:174", after := #[{ on := 9, ground := Ground.data }], guard := none }) (v := ?_) rfl (by kernel_rfl) (by kernel_rfl) (by kernel_rfl) (fun _ _ _ h => h) (Or.inl ⟨by rfl, ?_⟩) HB114.out ?_
                          rotate_left
                          · (intro y hy; go_simp; try (with_reducible rfl))
                          simp only [Act.put, List.setIfInBounds_toArray, List.set_cons_zero, List.set_cons_succ]
                          refine wpAnyH_take (i := 11) (oi := { dst := some 77, op := Op.extract (Operand.tmp 66) 0, type := 61, pos := "ref.go:174", after := #[{ on := 10, ground := Ground.data }], guard := none }) (v := ?_) rfl (by kernel_rfl) (by kernel_rfl) (by kernel_rfl) (fun _ _ _ h => h) (Or.inl ⟨by rfl, ?_⟩) HB114.out ?_
                          rotate_left
                          · (intro y hy; go_simp; try (with_reducible rfl))
                          simp only [Act.put, List.setIfInBounds_toArray, List.set_cons_zero, List.set_cons_succ]
                          refine wpAnyH_take (i := 12) (oi := { dst := some 78, op := Op.extract (Operand.tmp 66) 1, type := 61, pos := "ref.go:174", after := #[{ on := 10, ground := Ground.data }, { on := 15, ground := Ground.gcOnly Departure.lateStores }], guard := none }) (v := ?_) rfl (by kernel_rfl) (by kernel_rfl) (by kernel_rfl) (fun _ _ _ h => h) (Or.inl ⟨by rfl, ?_⟩) HB114.out ?_
                          rotate_left
                          · (intro y hy; go_simp; try (with_reducible rfl))
                          simp only [Act.put, List.setIfInBounds_toArray, List.set_cons_zero, List.set_cons_succ]
                          refine wpAnyH_ready (rs := [14]) (by kernel_rfl) (by simp) ?_
                          refine AllReadyH.cons rfl (fun K hK => ?_) AllReadyH.nil
                          have HLT : Hid (bq < x113.heap.size) := HF115.out.lt
                          go_simp
                          have hl := lay1 x113 false (fun _ => 0)
                          have hb : Below x113.heap.size x113 (x113.alloc (.cells #[.bool false, .int .u64 0, .int .u64 0, .int .u64 0, .int .u64 0, .int .u64 0, .int .u64 0, .int .u64 0, .int .u64 0, .int .u64 0, .int .u64 0, .int .u64 0, .int .u64 0, .int .u64 0, .int .u64 0, .int .u64 0, .int .u64 0] 61)) := hl.2
                          obtain ⟨x116, hx⟩ : ∃ x116, x116 = x113.alloc (.cells #[.bool false, .int .u64 0, .int .u64 0, .int .u64 0, .int .u64 0, .int .u64 0, .int .u64 0, .int .u64 0, .int .u64 0, .int .u64 0, .int .u64 0, .int .u64 0, .int .u64 0, .int .u64 0, .int .u64 0, .int .u64 0, .int .u64 0] 61) := ⟨_, rfl⟩
                          rw [← hx] at hb
                          have hl1 : LongAt x116 x113.heap.size false (fun _ => 0) := by rw [hx]; exact hl.1
                          rw [← hx]
                          obtain ⟨bz, hn⟩ : ∃ bz, bz = x113.heap.size := ⟨_, rfl⟩
                          rw [← hn] at hl1
                          rw [← hn]
                          have HB117 : Hid (Below wr.heap.size wr x116) := bnx HB114.out hb
                          have HF119 : Hid (LongAt x116 bq false (fun _ => 0)) := HF115.out.stay hb
                          have HF118 : Hid (LongAt x116 bz false (fun _ => 0)) := hl1
                          have HGbz : Hid (wr.heap.size ≤ bz ∧ bz = x113.heap.size) := ⟨by rw [hn]; exact HB114.out.size, hn⟩
                          clear hx hl hl1 hn hb
                          have HNE : Hid (bq ≠ bz) := by have h1 := HLT.out; have h2 := HGbz.out.2; show _ ≠ _; omega
                          (refine hK _ _ HB117.out ?_; clear hK K; intro _)
                          try simp only [Act.put, List.setIfInBounds_toArray, List.set_cons_zero, List.set_cons_succ]
                          refine wpAnyH_ready (rs := [15]) (by kernel_rfl) (by simp) ?_
                          refine AllReadyH.cons rfl (fun K hK => ?_) AllReadyH.nil
                          refine step_store_longY rfl _ _ rfl HF119.out rfl rfl ?_
                          intro x120 hl hX hB
                          have HB121 : Hid (Below wr.heap.size wr x120) := hB _ _ HB117.out HGbq.out.1
                          have HF122 : Hid (LongAt x120 bq sq dq) := hl
                          have HF123 : Hid (LongAt x120 bz false (fun _ => 0)) := (hX bz (fun e => HNE.out e.symm)).trans HF118.out
                          clear hl hX hB
                          (refine hK _ _ HB121.out ?_; clear hK K; intro _)
                          try simp only [Act.put, List.setIfInBounds_toArray, List.set_cons_zero, List.set_cons_succ]
                          refine wpAnyH_ready (rs := [16]) (by kernel_rfl) (by simp) ?_
                          refine AllReadyH.cons rfl (fun K hK => ?_) AllReadyH.nil
                          refine step_store_longY rfl _ _ rfl HF123.out rfl rfl ?_
                          intro x124 hl hX hB
                          have HB125 : Hid (Below wr.heap.size wr x124) := hB _ _ HB121.out HGbz.out.1
                          have HF126 : Hid (LongAt x124 bz false dr) := hl
                          have HF127 : Hid (LongAt x124 bq sq dq) := (hX bq HNE.out).trans HF122.out
                          clear hl hX hB
                          (refine hK _ _ HB125.out ?_; clear hK K; intro _)
                          try simp only [Act.put, List.setIfInBounds_toArray, List.set_cons_zero, List.set_cons_succ]
                          refine wpAnyH_done (by kernel_rfl) ?_ _
                          go_wp2
                          go_meet
                          exact ⟨bq, bz, sq, dq, dr, rfl, rfl, ⟨HF127.out, HF126.out, HB125.out, ⟨HQ.out.1, by rw [HQ.out.2, HYE.out]; rfl⟩, ⟨HZ.out.1, by rw [HZ.out.2, HYE.out]; rfl⟩, HGbq.out.1, HGbz.out.1, HNE.out⟩⟩
                        · have HLT : Hid (bq < x110.heap.size) := HF112.out.lt
                          go_simp
                          have hl := lay1 x110 false (fun _ => 0)
                          have hb : Below x110.heap.size x110 (x110.alloc (.cells #[.bool false, .int .u64 0, .int .u64 0, .int .u64 0, .int .u64 0, .int .u64 0, .int .u64 0, .int .u64 0, .int .u64 0, .int .u64 0, .int .u64 0, .int .u64 0, .int .u64 0, .int .u64 0, .int .u64 0, .int .u64 0, .int .u64 0] 61)) := hl.2
                          obtain ⟨x128, hx⟩ : ∃ x128, x128 = x110.alloc (.cells #[.bool false, .int .u64 0, .int .u64 0, .int .u64 0, .int .u64 0, .int .u64 0, .int .u64 0, .int .u64 0, .int .u64 0, .int .u64 0, .int .u64 0, .int .u64 0, .int .u64 0, .int .u64 0, .int .u64 0, .int .u64 0, .int .u64 0] 61) := ⟨_, rfl⟩
                          rw [← hx] at hb
                          have hl1 : LongAt x128 x110.heap.size false (fun _ => 0) := by rw [hx]; exact hl.1
                          rw [← hx]
                          obtain ⟨bz, hn⟩ : ∃ bz, bz = x110.heap.size := ⟨_, rfl⟩
                          rw [← hn] at hl1
                          rw [← hn]
                          have HB129 : Hid (Below wr.heap.size wr x128) := bnx HB111.out hb
                          have HF131 : Hid (LongAt x128 bq false (fun _ => 0)) := HF112.out.stay hb
                          have HF130 : Hid (LongAt x128 bz false (fun _ => 0)) := hl1
                          have HGbz : Hid (wr.heap.size ≤ bz ∧ bz = x110.heap.size) := ⟨by rw [hn]; exact HB111.out.size, hn⟩
                          clear hx hl hl1 hn hb
                          have HNE : Hid (bq ≠ bz) := by have h1 := HLT.out; have h2 := HGbz.out.2; show _ ≠ _; omega
                          (refine hK _ _ HB129.out ?_; clear hK K; intro _)
                          try simp only [Act.put, List.setIfInBounds_toArray, List.set_cons_zero, List.set_cons_succ]
                          refine wpAnyH_ready (rs := [9]) (by kernel_rfl) (by simp) ?_
                          refine AllReadyH.cons rfl (fun K hK => ?_) AllReadyH.nil
                          go_simp
                          refine (over_qr rp (.agg (LA sA dA)) (T * y) W x128 HRP.out HAL.out HNS.out.2.2.1 HNS.out.2.2.2).mono ?_; rintro _ x132 ⟨sq, dq, dr, rfl, hq, hz, hb⟩
                          have HB133 : Hid (Below wr.heap.size wr x132) := bnx HB129.out hb
                          have HF134 : Hid (LongAt x132 bq false (fun _ => 0)) := HF131.out.stay hb
                          have HF135 : Hid (LongAt x132 bz false (fun _ => 0)) := HF130.out.stay hb
                          have HQ : Hid (Dig dq ∧ sgn sq (V dq 16) = ((T * y / W : Nat) : Int)) := hq
                          have HZ : Hid (Dig dr ∧ V dr 16 = T * y % W) := hz
                          clear hq hz
                          clear hb
                          (refine hK _ _ HB133.out ?_; clear hK K; intro _)
                          try simp only [Act.put, List.setIfInBounds_toArray, List.set_cons_zero, List.set_cons_succ]
                          refine wpAnyH_take (i := 10) (oi := { dst := some 66, op := Op.move (Operand.tmp 76), type := 68, pos := "ref.go:174", after := #[{ on := 9, ground := Ground.data }], guard := none }) (v := ?_) rfl (by kernel_rfl) (by kernel_rfl) (by kernel_rfl) (fun _ _ _ h => h) (Or.inl ⟨by rfl, ?_⟩) HB133.out ?_
                          rotate_left
                          · (intro y hy; go_simp; try (with_reducible rfl))
                          simp only [Act.put, List.setIfInBounds_toArray, List.set_cons_zero, List.set_cons_succ]
                          refine wpAnyH_take (i := 11) (oi := { dst := some 77, op := Op.extract (Operand.tmp 66) 0, type := 61, pos := "ref.go:174", after := #[{ on := 10, ground := Ground.data }], guard := none }) (v := ?_) rfl (by kernel_rfl) (by kernel_rfl) (by kernel_rfl) (fun _ _ _ h => h) (Or.inl ⟨by rfl, ?_⟩) HB133.out ?_
                          rotate_left
                          · (intro y hy; go_simp; try (with_reducible rfl))
                          simp only [Act.put, List.setIfInBounds_toArray, List.set_cons_zero, List.set_cons_succ]
                          refine wpAnyH_take (i := 12) (oi := { dst := some 78, op := Op.extract (Operand.tmp 66) 1, type := 61, pos := "ref.go:174", after := #[{ on := 10, ground := Ground.data }, { on := 15, ground := Ground.gcOnly Departure.lateStores }], guard := none }) (v := ?_) rfl (by kernel_rfl) (by kernel_rfl) (by kernel_rfl) (fun _ _ _ h => h) (Or.inl ⟨by rfl, ?_⟩) HB133.out ?_
                          rotate_left
                          · (intro y hy; go_simp; try (with_reducible rfl))
                          simp only [Act.put, List.setIfInBounds_toArray, List.set_cons_zero, List.set_cons_succ]
                          refine wpAnyH_ready (rs := [15]) (by kernel_rfl) (by simp) ?_
                          refine AllReadyH.cons rfl (fun K hK => ?_) AllReadyH.nil
                          refine step_store_longY rfl _ _ rfl HF134.out rfl rfl ?_
                          intro x136 hl hX hB
                          have HB137 : Hid (Below wr.heap.size wr x136) := hB _ _ HB133.out HGbq.out.1
                          have HF138 : Hid (LongAt x136 bq sq dq) := hl
                          have HF139 : Hid (LongAt x136 bz false (fun _ => 0)) := (hX bz (fun e => HNE.out e.symm)).trans HF135.out
                          clear hl hX hB
                          (refine hK _ _ HB137.out ?_; clear hK K; intro _)
                          try simp only [Act.put, List.setIfInBounds_toArray, List.set_cons_zero, List.set_cons_succ]
                          refine wpAnyH_ready (rs := [16]) (by kernel_rfl) (by simp) ?_
                          refine AllReadyH.cons rfl (fun K hK => ?_) AllReadyH.nil
                          refine step_store_longY rfl _ _ rfl HF139.out rfl rfl ?_
                          intro x140 hl hX hB
                          have HB141 : Hid (Below wr.heap.size wr x140) := hB _ _ HB137.out HGbz.out.1
                          have HF142 : Hid (LongAt x140 bz false dr) := hl
                          have HF143 : Hid (LongAt x140 bq sq dq) := (hX bq HNE.out).trans HF138.out
                          clear hl hX hB
                          (refine hK _ _ HB141.out ?_; clear hK K; intro _)
                          try simp only [Act.put, List.setIfInBounds_toArray, List.set_cons_zero, List.set_cons_succ]
                          refine wpAnyH_done (by kernel_rfl) ?_ _
                          go_wp2
                          go_meet
                          exact ⟨bq, bz, sq, dq, dr, rfl, rfl, ⟨HF143.out, HF142.out, HB141.out, ⟨HQ.out.1, by rw [HQ.out.2, HYE.out]; rfl⟩, ⟨HZ.out.1, by rw [HZ.out.2, HYE.out]; rfl⟩, HGbq.out.1, HGbz.out.1, HNE.out⟩⟩
                      · have HLT : Hid (bq < x107.heap.size) := HF109.out.lt
                        go_simp
                        have hl := lay1 x107 false (fun _ => 0)
                        have hb : Below x107.heap.size x107 (x107.alloc (.cells #[.bool false, .int .u64 0, .int .u64 0, .int .u64 0, .int .u64 0, .int .u64 0, .int .u64 0, .int .u64 0, .int .u64 0, .int .u64 0, .int .u64 0, .int .u64 0, .int .u64 0, .int .u64 0, .int .u64 0, .int .u64 0, .int .u64 0] 61)) := hl.2
                        obtain ⟨x144, hx⟩ : ∃ x144, x144 = x107.alloc (.cells #[.bool false, .int .u64 0, .int .u64 0, .int .u64 0, .int .u64 0, .int .u64 0, .int .u64 0, .int .u64 0, .int .u64 0, .int .u64 0, .int .u64 0, .int .u64 0, .int .u64 0, .int .u64 0, .int .u64 0, .int .u64 0, .int .u64 0] 61) := ⟨_, rfl⟩
                        rw [← hx] at hb
                        have hl1 : LongAt x144 x107.heap.size false (fun _ => 0) := by rw [hx]; exact hl.1
                        rw [← hx]
                        obtain ⟨bz, hn⟩ : ∃ bz, bz = x107.heap.size := ⟨_, rfl⟩
                        rw [← hn] at hl1
                        rw [← hn]
                        have HB145 : Hid (Below wr.heap.size wr x144) := bnx HB108.out hb
                        have HF147 : Hid (LongAt x144 bq false (fun _ => 0)) := HF109.out.stay hb
                        have HF146 : Hid (LongAt x144 bz false (fun _ => 0)) := hl1
                        have HGbz : Hid (wr.heap.size ≤ bz ∧ bz = x107.heap.size) := ⟨by rw [hn]; exact HB108.out.size, hn⟩
                        clear hx hl hl1 hn hb
                        have HNE : Hid (bq ≠ bz) := by have h1 := HLT.out; have h2 := HGbz.out.2; show _ ≠ _; omega
                        (refine hK _ _ HB145.out ?_; clear hK K; intro _)
                        try simp only [Act.put, List.setIfInBounds_toArray, List.set_cons_zero, List.set_cons_succ]
                        refine wpAnyH_ready (rs := [7]) (by kernel_rfl) (by simp) ?_
                        refine AllReadyH.cons rfl (fun K hK => ?_) AllReadyH.nil
                        go_simp
                        refine (times_nat ra rb T y x144 HRA.out HRB.out HNS.out.1 HNS.out.2.1).mono ?_; rintro _ x148 ⟨rp, rfl, hrp, hb⟩
                        have HB149 : Hid (Below wr.heap.size wr x148) := bnx HB145.out hb
                        have HF150 : Hid (LongAt x148 bq false (fun _ => 0)) := HF147.out.stay hb
                        have HF151 : Hid (LongAt x148 bz false (fun _ => 0)) := HF146.out.stay hb
                        have HRP : Hid (IsL rp ((T * y : Nat) : Int)) := hrp
                        clear hrp
                        clear hb
                        (refine hK _ _ HB149.out ?_; clear hK K; intro _)
                        try simp only [Act.put, List.setIfInBounds_toArray, List.set_cons_zero, List.set_cons_succ]
                        refine wpAnyH_ready (rs := [9]) (by kernel_rfl) (by simp) ?_
                        refine AllReadyH.cons rfl (fun K hK => ?_) AllReadyH.nil
                        go_simp
                        refine (over_qr rp (.agg (LA sA dA)) (T * y) W x148 HRP.out HAL.out HNS.out.2.2.1 HNS.out.2.2.2).mono ?_; rintro _ x152 ⟨sq, dq, dr, rfl, hq, hz, hb⟩
                        have HB153 : Hid (Below wr.heap.size wr x152) := bnx HB149.out hb
                        have HF154 : Hid (LongAt x152 bq false (fun _ => 0)) := HF150.out.stay hb
                        have HF155 : Hid (LongAt x152 bz false (fun _ => 0)) := HF151.out.stay hb
                        have HQ : Hid (Dig dq ∧ sgn sq (V dq 16) = ((T * y / W : Nat) : Int)) := hq
                        have HZ : Hid (Dig dr ∧ V dr 16 = T * y % W) := hz
                        clear hq hz
                        clear hb
                        (refine hK _ _ HB153.out ?_; clear hK K; intro _)
                        try simp only [Act.put, List.setIfInBounds_toArray, List.set_cons_zero, List.set_cons_succ]
                        refine wpAnyH_take (i := 10) (oi := { dst := some 66, op := Op.move (Operand.tmp 76), type := 68, pos := "ref.go:174", after := #[{ on := 9, ground := Ground.data }], guard := none }) (v := ?_) rfl (by kernel_rfl) (by kernel_rfl) (by kernel_rfl) (fun _ _ _ h => h) (Or.inl ⟨by rfl, ?_⟩) HB153.out ?_
                        rotate_left
                        · (intro y hy; go_simp; try (with_reducible rfl))
                        simp only [Act.put, List.setIfInBounds_toArray, List.set_cons_zero, List.set_cons_succ]
                        refine wpAnyH_take (i := 11) (oi := { dst := some 77, op := Op.extract (Operand.tmp 66) 0, type := 61, pos := "ref.go:174", after := #[{ on := 10, ground := Ground.data }], guard := none }) (v := ?_) rfl (by kernel_rfl) (by kernel_rfl) (by kernel_rfl) (fun _ _ _ h => h) (Or.inl ⟨by rfl, ?_⟩) HB153.out ?_
                        rotate_left
                        · (intro y hy; go_simp; try (with_reducible rfl))
                        simp only [Act.put, List.setIfInBounds_toArray, List.set_cons_zero, List.set_cons_succ]
                        refine wpAnyH_take (i := 12) (oi := { dst := some 78, op := Op.extract (Operand.tmp 66) 1, type := 61, pos := "ref.go:174", after := #[{ on := 10, ground := Ground.data }, { on := 15, ground := Ground.gcOnly Departure.lateStores }], guard := none }) (v := ?_) rfl (by kernel_rfl) (by kernel_rfl) (by kernel_rfl) (fun _ _ _ h => h) (Or.inl ⟨by rfl, ?_⟩) HB153.out ?_
                        rotate_left
                        · (intro y hy; go_simp; try (with_reducible rfl))
                        simp only [Act.put, List.setIfInBounds_toArray, List.set_cons_zero, List.set_cons_succ]
                        refine wpAnyH_ready (rs := [15]) (by kernel_rfl) (by simp) ?_
                        refine AllReadyH.cons rfl (fun K hK => ?_) AllReadyH.nil
                        refine step_store_longY rfl _ _ rfl HF154.out rfl rfl ?_
                        intro x156 hl hX hB
                        have HB157 : Hid (Below wr.heap.size wr x156) := hB _ _ HB153.out HGbq.out.1
                        have HF158 : Hid (LongAt x156 bq sq dq) := hl
                        have HF159 : Hid (LongAt x156 bz false (fun _ => 0)) := (hX bz (fun e => HNE.out e.symm)).trans HF155.out
                        clear hl hX hB
                        (refine hK _ _ HB157.out ?_; clear hK K; intro _)
                        try simp only [Act.put, List.setIfInBounds_toArray, List.set_cons_zero, List.set_cons_succ]
                        refine wpAnyH_ready (rs := [16]) (by kernel_rfl) (by simp) ?_
                        refine AllReadyH.cons rfl (fun K hK => ?_) AllReadyH.nil
                        refine step_store_longY rfl _ _ rfl HF159.out rfl rfl ?_
                        intro x160 hl hX hB
                        have HB161 : Hid (Below wr.heap.size wr x160) := hB _ _ HB157.out HGbz.out.1
                        have HF162 : Hid (LongAt x160 bz false dr) := hl
                        have HF163 : Hid (LongAt x160 bq sq dq) := (hX bq HNE.out).trans HF158.out
                        clear hl hX hB
                        (refine hK _ _ HB161.out ?_; clear hK K; intro _)
                        try simp only [Act.put, List.setIfInBounds_toArray, List.set_cons_zero, List.set_cons_succ]
                        refine wpAnyH_done (by kernel_rfl) ?_ _
                        go_wp2
                        go_meet
                        exact ⟨bq, bz, sq, dq, dr, rfl, rfl, ⟨HF163.out, HF162.out, HB161.out, ⟨HQ.out.1, by rw [HQ.out.2, HYE.out]; rfl⟩, ⟨HZ.out.1, by rw [HZ.out.2, HYE.out]; rfl⟩, HGbq.out.1, HGbz.out.1, HNE.out⟩⟩
                    · go_simp
                      have hl := lay1 x3 false (fun _ => 0)
                      have hb : Below x3.heap.size x3 (x3.alloc (.cells #[.bool false, .int .u64 0, .int .u64 0, .int .u64 0, .int .u64 0, .int .u64 0, .int .u64 0, .int .u64 0, .int .u64 0, .int .u64 0, .int .u64 0, .int .u64 0, .int .u64 0, .int .u64 0, .int .u64 0, .int .u64 0, .int .u64 0] 61)) := hl.2
                      obtain ⟨x164, hx⟩ : ∃ x164, x164 = x3.alloc (.cells #[.bool false, .int .u64 0, .int .u64 0, .int .u64 0, .int .u64 0, .int .u64 0, .int .u64 0, .int .u64 0, .int .u64 0, .int .u64 0, .int .u64 0, .int .u64 0, .int .u64 0, .int .u64 0, .int .u64 0, .int .u64 0, .int .u64 0] 61) := ⟨_, rfl⟩
                      rw [← hx] at hb
                      have hl1 : LongAt x164 x3.heap.size false (fun _ => 0) := by rw [hx]; exact hl.1
                      rw [← hx]
                      obtain ⟨bz, hn⟩ : ∃ bz, bz = x3.heap.size := ⟨_, rfl⟩
                      rw [← hn] at hl1
                      rw [← hn]
                      have HB165 : Hid (Below wr.heap.size wr x164) := bnx HB4.out hb
                      have HF166 : Hid (LongAt x164 bz false (fun _ => 0)) := hl1
                      have HGbz : Hid (wr.heap.size ≤ bz ∧ bz = x3.heap.size) := ⟨by rw [hn]; exact HB4.out.size, hn⟩
                      clear hx hl hl1 hn hb
                      (refine hK _ _ HB165.out ?_; clear hK K; intro _)
                      try simp only [Act.put, List.setIfInBounds_toArray, List.set_cons_zero, List.set_cons_succ]
                      refine wpAnyH_ready (rs := [7, 13]) (by kernel_rfl) (by simp) ?_
                      refine AllReadyH.cons rfl (fun K hK => ?_) (AllReadyH.cons rfl (fun K hK => ?_) AllReadyH.nil)
                      · go_simp
                        refine (times_nat ra rb T y x164 HRA.out HRB.out HNS.out.1 HNS.out.2.1).mono ?_; rintro _ x167 ⟨rp, rfl, hrp, hb⟩
                        have HB168 : Hid (Below wr.heap.size wr x167) := bnx HB165.out hb
                        have HF169 : Hid (LongAt x167 bz false (fun _ => 0)) := HF166.out.stay hb
                        have HRP : Hid (IsL rp ((T * y : Nat) : Int)) := hrp
                        clear hrp
                        clear hb
                        (refine hK _ _ HB168.out ?_; clear hK K; intro _)
                        try simp only [Act.put, List.setIfInBounds_toArray, List.set_cons_zero, List.set_cons_succ]
                        refine wpAnyH_ready (rs := [9, 13]) (by kernel_rfl) (by simp) ?_
                        refine AllReadyH.cons rfl (fun K hK => ?_) (AllReadyH.cons rfl (fun K hK => ?_) AllReadyH.nil)
                        · go_simp
                          refine (over_qr rp (.agg (LA sA dA)) (T * y) W x167 HRP.out HAL.out HNS.out.2.2.1 HNS.out.2.2.2).mono ?_; rintro _ x170 ⟨sq, dq, dr, rfl, hq, hz, hb⟩
                          have HB171 : Hid (Below wr.heap.size wr x170) := bnx HB168.out hb
                          have HF172 : Hid (LongAt x170 bz false (fun _ => 0)) := HF169.out.stay hb
                          have HQ : Hid (Dig dq ∧ sgn sq (V dq 16) = ((T * y / W : Nat) : Int)) := hq
                          have HZ : Hid (Dig dr ∧ V dr 16 = T * y % W) := hz
                          clear hq hz
                          clear hb
                          (refine hK _ _ HB171.out ?_; clear hK K; intro _)
                          try simp only [Act.put, List.setIfInBounds_toArray, List.set_cons_zero, List.set_cons_succ]
                          refine wpAnyH_take (i := 10) (oi := { dst := some 66, op := Op.move (Operand.tmp 76), type := 68, pos := "ref.go:174", after := #[{ on := 9, ground := Ground.data }], guard := none }) (v := ?_) rfl (by kernel_rfl) (by kernel_rfl) (by kernel_rfl) (fun _ _ _ h => h) (Or.inl ⟨by rfl, ?_⟩) HB171.out ?_
                          rotate_left
                          · (intro y hy; go_simp; try (with_reducible rfl))
                          simp only [Act.put, List.setIfInBounds_toArray, List.set_cons_zero, List.set_cons_succ]
                          refine wpAnyH_take (i := 11) (oi := { dst := some 77, op := Op.extract (Operand.tmp 66) 0, type := 61, pos := "ref.go:174", after := #[{ on := 10, ground := Ground.data }], guard := none }) (v := ?_) rfl (by kernel_rfl) (by kernel_rfl) (by kernel_rfl) (fun _ _ _ h => h) (Or.inl ⟨by rfl, ?_⟩) HB171.out ?_
                          rotate_left
                          · (intro y hy; go_simp; try (with_reducible rfl))
                          simp only [Act.put, List.setIfInBounds_toArray, List.set_cons_zero, List.set_cons_succ]
                          refine wpAnyH_take (i := 12) (oi := { dst := some 78, op := Op.extract (Operand.tmp 66) 1, type := 61, pos := "ref.go:174", after := #[{ on := 10, ground := Ground.data }, { on := 15, ground := Ground.gcOnly Departure.lateStores }], guard := none }) (v := ?_) rfl (by kernel_rfl) (by kernel_rfl) (by kernel_rfl) (fun _ _ _ h => h) (Or.inl ⟨by rfl, ?_⟩) HB171.out ?_
                          rotate_left
                          · (intro y hy; go_simp; try (with_reducible rfl))
                          simp only [Act.put, List.setIfInBounds_toArray, List.set_cons_zero, List.set_cons_succ]
                          refine wpAnyH_ready (rs := [13]) (by kernel_rfl) (by simp) ?_
                          refine AllReadyH.cons rfl (fun K hK => ?_) AllReadyH.nil
                          have HLT : Hid (bz < x170.heap.size) := HF172.out.lt
                          go_simp
                          have hl := lay1 x170 false (fun _ => 0)
                          have hb : Below x170.heap.size x170 (x170.alloc (.cells #[.bool false, .int .u64 0, .int .u64 0, .int .u64 0, .int .u64 0, .int .u64 0, .int .u64 0, .int .u64 0, .int .u64 0, .int .u64 0, .int .u64 0, .int .u64 0, .int .u64 0, .int .u64 0, .int .u64 0, .int .u64 0, .int .u64 0] 61)) := hl.2
                          obtain ⟨x173, hx⟩ : ∃ x173, x173 = x170.alloc (.cells #[.bool false, .int .u64 0, .int .u64 0, .int .u64 0, .int .u64 0, .int .u64 0, .int .u64 0, .int .u64 0, .int .u64 0, .int .u64 0, .int .u64 0, .int .u64 0, .int .u64 0, .int .u64 0, .int .u64 0, .int .u64 0, .int .u64 0] 61) := ⟨_, rfl⟩
                          rw [← hx] at hb
                          have hl1 : LongAt x173 x170.heap.size false (fun _ => 0) := by rw [hx]; exact hl.1
                          rw [← hx]
                          obtain ⟨bq, hn⟩ : ∃ bq, bq = x170.heap.size := ⟨_, rfl⟩
                          rw [← hn] at hl1
                          rw [← hn]
                          have HB174 : Hid (Below wr.heap.size wr x173) := bnx HB171.out hb
                          have HF176 : Hid (LongAt x173 bz false (fun _ => 0)) := HF172.out.stay hb
                          have HF175 : Hid (LongAt x173 bq false (fun _ => 0)) := hl1
                          have HGbq : Hid (wr.heap.size ≤ bq ∧ bq = x170.heap.size) := ⟨by rw [hn]; exact HB171.out.size, hn⟩
                          clear hx hl hl1 hn hb
                          have HNE : Hid (bq ≠ bz) := by have h1 := HLT.out; have h2 := HGbq.out.2; show _ ≠ _; omega
                          (refine hK _ _ HB174.out ?_; clear hK K; intro _)
                          try simp only [Act.put, List.setIfInBounds_toArray, List.set_cons_zero, List.set_cons_succ]
                          refine wpAnyH_ready (rs := [15]) (by kernel_rfl) (by simp) ?_
                          refine AllReadyH.cons rfl (fun K hK => ?_) AllReadyH.nil
                          refine step_store_longY rfl _ _ rfl HF175.out rfl rfl ?_
                          intro x177 hl hX hB
                          have HB178 : Hid (Below wr.heap.size wr x177) := hB _ _ HB174.out HGbq.out.1
                          have HF179 : Hid (LongAt x177 bq sq dq) := hl
                          have HF180 : Hid (LongAt x177 bz false (fun _ => 0)) := (hX bz (fun e => HNE.out e.symm)).trans HF176.out
                          clear hl hX hB
                          (refine hK _ _ HB178.out ?_; clear hK K; intro _)
                          try simp only [Act.put, List.setIfInBounds_toArray, List.set_cons_zero, List.set_cons_succ]
                          refine wpAnyH_ready (rs := [16]) (by kernel_rfl) (by simp) ?_
                          refine AllReadyH.cons rfl (fun K hK => ?_) AllReadyH.nil
                          refine step_store_longY rfl _ _ rfl HF180.out rfl rfl ?_
                          intro x181 hl hX hB
                          have HB182 : Hid (Below wr.heap.size wr x181) := hB _ _ HB178.out HGbz.out.1
                          have HF183 : Hid (LongAt x181 bz false dr) := hl
                          have HF184 : Hid (LongAt x181 bq sq dq) := (hX bq HNE.out).trans HF179.out
                          clear hl hX hB
                          (refine hK _ _ HB182.out ?_; clear hK K; intro _)
                          try simp only [Act.put, List.setIfInBounds_toArray, List.set_cons_zero, List.set_cons_succ]
                          refine wpAnyH_done (by kernel_rfl) ?_ _
                          go_wp2
                          go_meet
                          exact ⟨bq, bz, sq, dq, dr, rfl, rfl, ⟨HF184.out, HF183.out, HB182.out, ⟨HQ.out.1, by rw [HQ.out.2, HYE.out]; rfl⟩, ⟨HZ.out.1, by rw [HZ.out.2, HYE.out]; rfl⟩, HGbq.out.1, HGbz.out.1, HNE.out⟩⟩
                        · have HLT : Hid (bz < x167.heap.size) := HF169.out.lt
                          go_simp
                          have hl := lay1 x167 false (fun _ => 0)
                          have hb : Below x167.heap.size x167 (x167.alloc (.cells #[.bool false, .int .u64 0, .int .u64 0, .int .u64 0, .int .u64 0, .int .u64 0, .int .u64 0, .int .u64 0, .int .u64 0, .int .u64 0, .int .u64 0, .int .u64 0, .int .u64 0, .int .u64 0, .int .u64 0, .int .u64 0, .int .u64 0] 61)) := hl.2
                          obtain ⟨x185, hx⟩ : ∃ x185, x185 = x167.alloc (.cells #[.bool false, .int .u64 0, .int .u64 0, .int .u64 0, .int .u64 0, .int .u64 0, .int .u64 0, .int .u64 0, .int .u64 0, .int .u64 0, .int .u64 0, .int .u64 0, .int .u64 0, .int .u64 0, .int .u64 0, .int .u64 0, .int .u64 0] 61) := ⟨_, rfl⟩
                          rw [← hx] at hb
                          have hl1 : LongAt x185 x167.heap.size false (fun _ => 0) := by rw [hx]; exact hl.1
                          rw [← hx]
                          obtain ⟨bq, hn⟩ : ∃ bq, bq = x167.heap.size := ⟨_, rfl⟩
                          rw [← hn] at hl1
                          rw [← hn]
                          have HB186 : Hid (Below wr.heap.size wr x185) := bnx HB168.out hb
                          have HF188 : Hid (LongAt x185 bz false (fun _ => 0)) := HF169.out.stay hb
                          have HF187 : Hid (LongAt x185 bq false (fun _ => 0)) := hl1
                          have HGbq : Hid (wr.heap.size ≤ bq ∧ bq = x167.heap.size) := ⟨by rw [hn]; exact HB168.out.size, hn⟩
                          clear hx hl hl1 hn hb
                          have HNE : Hid (bq ≠ bz) := by have h1 := HLT.out; have h2 := HGbq.out.2; show _ ≠ _; omega
                          (refine hK _ _ HB186.out ?_; clear hK K; intro _)
                          try simp only [Act.put, List.setIfInBounds_toArray, List.set_cons_zero, List.set_cons_succ]
                          refine wpAnyH_ready (rs := [9]) (by kernel_rfl) (by simp) ?_
                          refine AllReadyH.cons rfl (fun K hK => ?_) AllReadyH.nil
                          go_simp
                          refine (over_qr rp (.agg (LA sA dA)) (T * y) W x185 HRP.out HAL.out HNS.out.2.2.1 HNS.out.2.2.2).mono ?_; rintro _ x189 ⟨sq, dq, dr, rfl, hq, hz, hb⟩
                          have HB190 : Hid (Below wr.heap.size wr x189) := bnx HB186.out hb
                          have HF191 : Hid (LongAt x189 bz false (fun _ => 0)) := HF188.out.stay hb
                          have HF192 : Hid (LongAt x189 bq false (fun _ => 0)) := HF187.out.stay hb
                          have HQ : Hid (Dig dq ∧ sgn sq (V dq 16) = ((T * y / W : Nat) : Int)) := hq
                          have HZ : Hid (Dig dr ∧ V dr 16 = T * y % W) := hz
                          clear hq hz
                          clear hb
                          (refine hK _ _ HB190.out ?_; clear hK K; intro _)
                          try simp only [Act.put, List.setIfInBounds_toArray, List.set_cons_zero, List.set_cons_succ]
                          refine wpAnyH_take (i := 10) (oi := { dst := some 66, op := Op.move (Operand.tmp 76), type := 68, pos := "ref.go:174", after := #[{ on := 9, ground := Ground.data }], guard := none }) (v := ?_) rfl (by kernel_rfl) (by kernel_rfl) (by kernel_rfl) (fun _ _ _ h => h) (Or.inl ⟨by rfl, ?_⟩) HB190.out ?_
                          rotate_left
                          · (intro y hy; go_simp; try (with_reducible rfl))
                          simp only [Act.put, List.setIfInBounds_toArray, List.set_cons_zero, List.set_cons_succ]
                          refine wpAnyH_take (i := 11) (oi := { dst := some 77, op := Op.extract (Operand.tmp 66) 0, type := 61, pos := "ref.go:174", after := #[{ on := 10, ground := Ground.data }], guard := none }) (v := ?_) rfl (by kernel_rfl) (by kernel_rfl) (by kernel_rfl) (fun _ _ _ h => h) (Or.inl ⟨by rfl, ?_⟩) HB190.out ?_
                          rotate_left
                          · (intro y hy; go_simp; try (with_reducible rfl))
                          simp only [Act.put, List.setIfInBounds_toArray, List.set_cons_zero, List.set_cons_succ]
                          refine wpAnyH_take (i := 12) (oi := { dst := some 78, op := Op.extract (Operand.tmp 66) 1, type := 61, pos := "ref.go:174", after := #[{ on := 10, ground := Ground.data }, { on := 15, ground := Ground.gcOnly Departure.lateStores }], guard := none }) (v := ?_) rfl (by kernel_rfl) (by kernel_rfl) (by kernel_rfl) (fun _ _ _ h => h) (Or.inl ⟨by rfl, ?_⟩) HB190.out ?_
                          rotate_left
                          · (intro y hy; go_simp; try (with_reducible rfl))
                          simp only [Act.put, List.setIfInBounds_toArray, List.set_cons_zero, List.set_cons_succ]
                          refine wpAnyH_ready (rs := [15]) (by kernel_rfl) (by simp) ?_
                          refine AllReadyH.cons rfl (fun K hK => ?_) AllReadyH.nil
                          refine step_store_longY rfl _ _ rfl HF192.out rfl rfl ?_
                          intro x193 hl hX hB
                          have HB194 : Hid (Below wr.heap.size wr x193) := hB _ _ HB190.out HGbq.out.1
                          have HF195 : Hid (LongAt x193 bq sq dq) := hl
                          have HF196 : Hid (LongAt x193 bz false (fun _ => 0)) := (hX bz (fun e => HNE.out e.symm)).trans HF191.out
                          clear hl hX hB
                          (refine hK _ _ HB194.out ?_; clear hK K; intro _)
                          try simp only [Act.put, List.setIfInBounds_toArray, List.set_cons_zero, List.set_cons_succ]
                          refine wpAnyH_ready (rs := [16]) (by kernel_rfl) (by simp) ?_
                          refine AllReadyH.cons rfl (fun K hK => ?_) AllReadyH.nil
                          refine step_store_longY rfl _ _ rfl HF196.out rfl rfl ?_
                          intro x197 hl hX hB
                          have HB198 : Hid (Below wr.heap.size wr x197) := hB _ _ HB194.out HGbz.out.1
                          have HF199 : Hid (LongAt x197 bz false dr) := hl
                          have HF200 : Hid (LongAt x197 bq sq dq) := (hX bq HNE.out).trans HF195.out
                          clear hl hX hB
                          (refine hK _ _ HB198.out ?_; clear hK K; intro _)
                          try simp only [Act.put, List.setIfInBounds_toArray, List.set_cons_zero, List.set_cons_succ]
                          refine wpAnyH_done (by kernel_rfl) ?_ _
                          go_wp2
                          go_meet
                          exact ⟨bq, bz, sq, dq, dr, rfl, rfl, ⟨HF200.out, HF199.out, HB198.out, ⟨HQ.out.1, by rw [HQ.out.2, HYE.out]; rfl⟩, ⟨HZ.out.1, by rw [HZ.out.2, HYE.out]; rfl⟩, HGbq.out.1, HGbz.out.1, HNE.out⟩⟩
                      · have HLT : Hid (bz < x164.heap.size) := HF166.out.lt
                        go_simp
                        have hl := lay1 x164 false (fun _ => 0)
                        have hb : Below x164.heap.size x164 (x164.alloc (.cells #[.bool false, .int .u64 0, .int .u64 0, .int .u64 0, .int .u64 0, .int .u64 0, .int .u64 0, .int .u64 0, .int .u64 0, .int .u64 0, .int .u64 0, .int .u64 0, .int .u64 0, .int .u64 0, .int .u64 0, .int .u64 0, .int .u64 0] 61)) := hl.2
                        obtain ⟨x201, hx⟩ : ∃ x201, x201 = x164.alloc (.cells #[.bool false, .int .u64 0, .int .u64 0, .int .u64 0, .int .u64 0, .int .u64 0, .int .u64 0, .int .u64 0, .int .u64 0, .int .u64 0, .int .u64 0, .int .u64 0, .int .u64 0, .int .u64 0, .int .u64 0, .int .u64 0, .int .u64 0] 61) := ⟨_, rfl⟩
                        rw [← hx] at hb
                        have hl1 : LongAt x201 x164.heap.size false (fun _ => 0) := by rw [hx]; exact hl.1
                        rw [← hx]
                        obtain ⟨bq, hn⟩ : ∃ bq, bq = x164.heap.size := ⟨_, rfl⟩
                        rw [← hn] at hl1
                        rw [← hn]
                        have HB202 : Hid (Below wr.heap.size wr x201) := bnx HB165.out hb
                        have HF204 : Hid (LongAt x201 bz false (fun _ => 0)) := HF166.out.stay hb
                        have HF203 : Hid (LongAt x201 bq false (fun _ => 0)) := hl1
                        have HGbq : Hid (wr.heap.size ≤ bq ∧ bq = x164.heap.size) := ⟨by rw [hn]; exact HB165.out.size, hn⟩
                        clear hx hl hl1 hn hb
                        have HNE : Hid (bq ≠ bz) := by have h1 := HLT.out; have h2 := HGbq.out.2; show _ ≠ _; omega
                        (refine hK _ _ HB202.out ?_; clear hK K; intro _)
                        try simp only [Act.put, List.setIfInBounds_toArray, List.set_cons_zero, List.set_cons_succ]
                        refine wpAnyH_ready (rs := [7]) (by kernel_rfl) (by simp) ?_
                        refine AllReadyH.cons rfl (fun K hK => ?_) AllReadyH.nil
                        go_simp
                        refine (times_nat ra rb T y x201 HRA.out HRB.out HNS.out.1 HNS.out.2.1).mono ?_; rintro _ x205 ⟨rp, rfl, hrp, hb⟩
                        have HB206 : Hid (Below wr.heap.size wr x205) := bnx HB202.out hb
                        have HF207 : Hid (LongAt x205 bz false (fun _ => 0)) := HF204.out.stay hb
                        have HF208 : Hid (LongAt x205 bq false (fun _ => 0)) := HF203.out.stay hb
                        have HRP : Hid (IsL rp ((T * y : Nat) : Int)) := hrp
                        clear hrp
                        clear hb
                        (refine hK _ _ HB206.out ?_; clear hK K; intro _)
                        try simp only [Act.put, List.setIfInBounds_toArray, List.set_cons_zero, List.set_cons_succ]
                        refine wpAnyH_ready (rs := [9]) (by kernel_rfl) (by simp) ?_
                        refine AllReadyH.cons rfl (fun K hK => ?_) AllReadyH.nil
                        go_simp
                        refine (over_qr rp (.agg (LA sA dA)) (T * y) W x205 HRP.out HAL.out HNS.out.2.2.1 HNS.out.2.2.2).mono ?_; rintro _ x209 ⟨sq, dq, dr, rfl, hq, hz, hb⟩
                        have HB210 : Hid (Below wr.heap.size wr x209) := bnx HB206.out hb
                        have HF211 : Hid (LongAt x209 bz false (fun _ => 0)) := HF207.out.stay hb
                        have HF212 : Hid (LongAt x209 bq false (fun _ => 0)) := HF208.out.stay hb
                        have HQ : Hid (Dig dq ∧ sgn sq (V dq 16) = ((T * y / W : Nat) : Int)) := hq
                        have HZ : Hid (Dig dr ∧ V dr 16 = T * y % W) := hz
                        clear hq hz
                        clear hb
                        (refine hK _ _ HB210.out ?_; clear hK K; intro _)
                        try simp only [Act.put, List.setIfInBounds_toArray, List.set_cons_zero, List.set_cons_succ]
                        refine wpAnyH_take (i := 10) (oi := { dst := some 66, op := Op.move (Operand.tmp 76), type := 68, pos := "ref.go:174", after := #[{ on := 9, ground := Ground.data }], guard := none }) (v := ?_) rfl (by kernel_rfl) (by kernel_rfl) (by kernel_rfl) (fun _ _ _ h => h) (Or.inl ⟨by rfl, ?_⟩) HB210.out ?_
                        rotate_left
                        · (intro y hy; go_simp; try (with_reducible rfl))
                        simp only [Act.put, List.setIfInBounds_toArray, List.set_cons_zero, List.set_cons_succ]
                        refine wpAnyH_take (i := 11) (oi := { dst := some 77, op := Op.extract (Operand.tmp 66) 0, type := 61, pos := "ref.go:174", after := #[{ on := 10, ground := Ground.data }], guard := none }) (v := ?_) rfl (by kernel_rfl) (by kernel_rfl) (by kernel_rfl) (fun _ _ _ h => h) (Or.inl ⟨by rfl, ?_⟩) HB210.out ?_
                        rotate_left
                        · (intro y hy; go_simp; try (with_reducible rfl))
                        simp only [Act.put, List.setIfInBounds_toArray, List.set_cons_zero, List.set_cons_succ]
                        refine wpAnyH_take (i := 12) (oi := { dst := some 78, op := Op.extract (Operand.tmp 66) 1, type := 61, pos := "ref.go:174", after := #[{ on := 10, ground := Ground.data }, { on := 15, ground := Ground.gcOnly Departure.lateStores }], guard := none }) (v := ?_) rfl (by kernel_rfl) (by kernel_rfl) (by kernel_rfl) (fun _ _ _ h => h) (Or.inl ⟨by rfl, ?_⟩) HB210.out ?_
                        rotate_left
                        · (intro y hy; go_simp; try (with_reducible rfl))
                        simp only [Act.put, List.setIfInBounds_toArray, List.set_cons_zero, List.set_cons_succ]
                        refine wpAnyH_ready (rs := [15]) (by kernel_rfl) (by simp) ?_
                        refine AllReadyH.cons rfl (fun K hK => ?_) AllReadyH.nil
                        refine step_store_longY rfl _ _ rfl HF212.out rfl rfl ?_
                        intro x213 hl hX hB
                        have HB214 : Hid (Below wr.heap.size wr x213) := hB _ _ HB210.out HGbq.out.1
                        have HF215 : Hid (LongAt x213 bq sq dq) := hl
                        have HF216 : Hid (LongAt x213 bz false (fun _ => 0)) := (hX bz (fun e => HNE.out e.symm)).trans HF211.out
                        clear hl hX hB
                        (refine hK _ _ HB214.out ?_; clear hK K; intro _)
                        try simp only [Act.put, List.setIfInBounds_toArray, List.set_cons_zero, List.set_cons_succ]
                        refine wpAnyH_ready (rs := [16]) (by kernel_rfl) (by simp) ?_
                        refine AllReadyH.cons rfl (fun K hK => ?_) AllReadyH.nil
                        refine step_store_longY rfl _ _ rfl HF216.out rfl rfl ?_
                        intro x217 hl hX hB
                        have HB218 : Hid (Below wr.heap.size wr x217) := hB _ _ HB214.out HGbz.out.1
                        have HF219 : Hid (LongAt x217 bz false dr) := hl
                        have HF220 : Hid (LongAt x217 bq sq dq) := (hX bq HNE.out).trans HF215.out
                        clear hl hX hB
                        (refine hK _ _ HB218.out ?_; clear hK K; intro _)
                        try simp only [Act.put, List.setIfInBounds_toArray, List.set_cons_zero, List.set_cons_succ]
                        refine wpAnyH_done (by kernel_rfl) ?_ _
                        go_wp2
                        go_meet
                        exact ⟨bq, bz, sq, dq, dr, rfl, rfl, ⟨HF220.out, HF219.out, HB218.out, ⟨HQ.out.1, by rw [HQ.out.2, HYE.out]; rfl⟩, ⟨HZ.out.1, by rw [HZ.out.2, HYE.out]; rfl⟩, HGbq.out.1, HGbz.out.1, HNE.out⟩⟩
                  · go_simp
                    have hl := lay1 x1 false (fun _ => 0)
                    have hb : Below x1.heap.size x1 (x1.alloc (.cells #[.bool false, .int .u64 0, .int .u64 0, .int .u64 0, .int .u64 0, .int .u64 0, .int .u64 0, .int .u64 0, .int .u64 0, .int .u64 0, .int .u64 0, .int .u64 0, .int .u64 0, .int .u64 0, .int .u64 0, .int .u64 0, .int .u64 0] 61)) := hl.2
                    obtain ⟨x221, hx⟩ : ∃ x221, x221 = x1.alloc (.cells #[.bool false, .int .u64 0, .int .u64 0, .int .u64 0, .int .u64 0, .int .u64 0, .int .u64 0, .int .u64 0, .int .u64 0, .int .u64 0, .int .u64 0, .int .u64 0, .int .u64 0, .int .u64 0, .int .u64 0, .int .u64 0, .int .u64 0] 61) := ⟨_, rfl⟩
                    rw [← hx] at hb
                    have hl1 : LongAt x221 x1.heap.size false (fun _ => 0) := by rw [hx]; exact hl.1
                    rw [← hx]
                    obtain ⟨bq, hn⟩ : ∃ bq, bq = x1.heap.size := ⟨_, rfl⟩
                    rw [← hn] at hl1
                    rw [← hn]
                    have HB222 : Hid (Below wr.heap.size wr x221) := bnx HB2.out hb
                    have HF223 : Hid (LongAt x221 bq false (fun _ => 0)) := hl1
                    have HGbq : Hid (wr.heap.size ≤ bq ∧ bq = x1.heap.size) := ⟨by rw [hn]; exact HB2.out.size, hn⟩
                    clear hx hl hl1 hn hb
                    (refine hK _ _ HB222.out ?_; clear hK K; intro _)
                    try simp only [Act.put, List.setIfInBounds_toArray, List.set_cons_zero, List.set_cons_succ]
                    refine wpAnyH_ready (rs := [6, 14]) (by kernel_rfl) (by simp) ?_
                    refine AllReadyH.cons rfl (fun K hK => ?_) (AllReadyH.cons rfl (fun K hK => ?_) AllReadyH.nil)
                    · go_simp
                      refine (of_is (y : Int) x221 HYI.out).mono ?_; rintro _ x224 ⟨rb, rfl, hrb, hb⟩
                      have HB225 : Hid (Below wr.heap.size wr x224) := bnx HB222.out hb
                      have HF226 : Hid (LongAt x224 bq false (fun _ => 0)) := HF223.out.stay hb
                      have HRB : Hid (IsL rb (y : Int)) := hrb
                      clear hrb
                      clear hb
                      (refine hK _ _ HB225.out ?_; clear hK K; intro _)
                      try simp only [Act.put, List.setIfInBounds_toArray, List.set_cons_zero, List.set_cons_succ]
                      refine wpAnyH_ready (rs := [7, 14]) (by kernel_rfl) (by simp) ?_
                      refine AllReadyH.cons rfl (fun K hK => ?_) (AllReadyH.cons rfl (fun K hK => ?_) AllReadyH.nil)
                      · go_simp
                        refine (times_nat ra rb T y x224 HRA.out HRB.out HNS.out.1 HNS.out.2.1).mono ?_; rintro _ x227 ⟨rp, rfl, hrp, hb⟩
                        have HB228 : Hid (Below wr.heap.size wr x227) := bnx HB225.out hb
                        have HF229 : Hid (LongAt x227 bq false (fun _ => 0)) := HF226.out.stay hb
                        have HRP : Hid (IsL rp ((T * y : Nat) : Int)) := hrp
                        clear hrp
                        clear hb
                        (refine hK _ _ HB228.out ?_; clear hK K; intro _)
                        try simp only [Act.put, List.setIfInBounds_toArray, List.set_cons_zero, List.set_cons_succ]
                        refine wpAnyH_ready (rs := [9, 14]) (by kernel_rfl) (by simp) ?_
                        refine AllReadyH.cons rfl (fun K hK => ?_) (AllReadyH.cons rfl (fun K hK => ?_) AllReadyH.nil)
                        · go_simp
                          refine (over_qr rp (.agg (LA sA dA)) (T * y) W x227 HRP.out HAL.out HNS.out.2.2.1 HNS.out.2.2.2).mono ?_; rintro _ x230 ⟨sq, dq, dr, rfl, hq, hz, hb⟩
                          have HB231 : Hid (Below wr.heap.size wr x230) := bnx HB228.out hb
                          have HF232 : Hid (LongAt x230 bq false (fun _ => 0)) := HF229.out.stay hb
                          have HQ : Hid (Dig dq ∧ sgn sq (V dq 16) = ((T * y / W : Nat) : Int)) := hq
                          have HZ : Hid (Dig dr ∧ V dr 16 = T * y % W) := hz
                          clear hq hz
                          clear hb
                          (refine hK _ _ HB231.out ?_; clear hK K; intro _)
                          try simp only [Act.put, List.setIfInBounds_toArray, List.set_cons_zero, List.set_cons_succ]
                          refine wpAnyH_take (i := 10) (oi := { dst := some 66, op := Op.move (Operand.tmp 76), type := 68, pos := "ref.go:174", after := #[{ on := 9, ground := Ground.data }], guard := none }) (v := ?_) rfl (by kernel_rfl) (by kernel_rfl) (by kernel_rfl) (fun _ _ _ h => h) (Or.inl ⟨by rfl, ?_⟩) HB231.out ?_
                          rotate_left
                          · (intro y hy; go_simp; try (with_reducible rfl))
                          simp only [Act.put, List.setIfInBounds_toArray, List.set_cons_zero, List.set_cons_succ]
                          refine wpAnyH_take (i := 11) (oi := { dst := some 77, op := Op.extract (Operand.tmp 66) 0, type := 61, pos := "ref.go:174", after := #[{ on := 10, ground := Ground.data }], guard := none }) (v := ?_) rfl (by kernel_rfl) (by kernel_rfl) (by kernel_rfl) (fun _ _ _ h => h) (Or.inl ⟨by rfl, ?_⟩) HB231.out ?_
                          rotate_left
                          · (intro y hy; go_simp; try (with_reducible rfl))
                          simp only [Act.put, List.setIfInBounds_toArray, List.set_cons_zero, List.set_cons_succ]
                          refine wpAnyH_take (i := 12) (oi := { dst := some 78, op := Op.extract (Operand.tmp 66) 1, type := 61, pos := "ref.go:174", after := #[{ on := 10, ground := Ground.data }, { on := 15, ground := Ground.gcOnly Departure.lateStores }], guard := none }) (v := ?_) rfl (by kernel_rfl) (by kernel_rfl) (by kernel_rfl) (fun _ _ _ h => h) (Or.inl ⟨by rfl, ?_⟩) HB231.out ?_
                          rotate_left
                          · (intro y hy; go_simp; try (with_reducible rfl))
                          simp only [Act.put, List.setIfInBounds_toArray, List.set_cons_zero, List.set_cons_succ]
                          refine wpAnyH_ready (rs := [14]) (by kernel_rfl) (by simp) ?_
                          refine AllReadyH.cons rfl (fun K hK => ?_) AllReadyH.nil
                          have HLT : Hid (bq < x230.heap.size) := HF232.out.lt
                          go_simp
                          have hl := lay1 x230 false (fun _ => 0)
                          have hb : Below x230.heap.size x230 (x230.alloc (.cells #[.bool false, .int .u64 0, .int .u64 0, .int .u64 0, .int .u64 0, .int .u64 0, .int .u64 0, .int .u64 0, .int .u64 0, .int .u64 0, .int .u64 0, .int .u64 0, .int .u64 0, .int .u64 0, .int .u64 0, .int .u64 0, .int .u64 0] 61)) := hl.2
                          obtain ⟨x233, hx⟩ : ∃ x233, x233 = x230.alloc (.cells #[.bool false, .int .u64 0, .int .u64 0, .int .u64 0, .int .u64 0, .int .u64 0, .int .u64 0, .int .u64 0, .int .u64 0, .int .u64 0, .int .u64 0, .int .u64 0, .int .u64 0, .int .u64 0, .int .u64 0, .int .u64 0, .int .u64 0] 61) := ⟨_, rfl⟩
                          rw [← hx] at hb
                          have hl1 : LongAt x233 x230.heap.size false (fun _ => 0) := by rw [hx]; exact hl.1
                          rw [← hx]
                          obtain ⟨bz, hn⟩ : ∃ bz, bz = x230.heap.size := ⟨_, rfl⟩
                          rw [← hn] at hl1
                          rw [← hn]
                          have HB234 : Hid (Below wr.heap.size wr x233) := bnx HB231.out hb
                          have HF236 : Hid (LongAt x233 bq false (fun _ => 0)) := HF232.out.stay hb
                          have HF235 : Hid (LongAt x233 bz false (fun _ => 0)) := hl1
                          have HGbz : Hid (wr.heap.size ≤ bz ∧ bz = x230.heap.size) := ⟨by rw [hn]; exact HB231.out.size, hn⟩
                          clear hx hl hl1 hn hb
                          have HNE : Hid (bq ≠ bz) := by have h1 := HLT.out; have h2 := HGbz.out.2; show _ ≠ _; omega
                          (refine hK _ _ HB234.out ?_; clear hK K; intro _)
                          try simp only [Act.put, List.setIfInBounds_toArray, List.set_cons_zero, List.set_cons_succ]
                          refine wpAnyH_ready (rs := [15]) (by kernel_rfl) (by simp) ?_
                          refine AllReadyH.cons rfl (fun K hK => ?_) AllReadyH.nil
                          refine step_store_longY rfl _ _ rfl HF236.out rfl rfl ?_
                          intro x237 hl hX hB
                          have HB238 : Hid (Below wr.heap.size wr x237) := hB _ _ HB234.out HGbq.out.1
                          have HF239 : Hid (LongAt x237 bq sq dq) := hl
                          have HF240 : Hid (LongAt x237 bz false (fun _ => 0)) := (hX bz (fun e => HNE.out e.symm)).trans HF235.out
                          clear hl hX hB
                          (refine hK _ _ HB238.out ?_; clear hK K; intro _)
                          try simp only [Act.put, List.setIfInBounds_toArray, List.set_cons_zero, List.set_cons_succ]
                          refine wpAnyH_ready (rs := [16]) (by kernel_rfl) (by simp) ?_
                          refine AllReadyH.cons rfl (fun K hK => ?_) AllReadyH.nil
                          refine step_store_longY rfl _ _ rfl HF240.out rfl rfl ?_
                          intro x241 hl hX hB
                          have HB242 : Hid (Below wr.heap.size wr x241) := hB _ _ HB238.out HGbz.out.1
                          have HF243 : Hid (LongAt x241 bz false dr) := hl
                          have HF244 : Hid (LongAt x241 bq sq dq) := (hX bq HNE.out).trans HF239.out
                          clear hl hX hB
                          (refine hK _ _ HB242.out ?_; clear hK K; intro _)
                          try simp only [Act.put, List.setIfInBounds_toArray, List.set_cons_zero, List.set_cons_succ]
                          refine wpAnyH_done (by kernel_rfl) ?_ _
                          go_wp2
                          go_meet
                          exact ⟨bq, bz, sq, dq, dr, rfl, rfl, ⟨HF244.out, HF243.out, HB242.out, ⟨HQ.out.1, by rw [HQ.out.2, HYE.out]; rfl⟩, ⟨HZ.out.1, by rw [HZ.out.2, HYE.out]; rfl⟩, HGbq.out.1, HGbz.out.1, HNE.out⟩⟩
                        · have HLT : Hid (bq < x227.heap.size) := HF229.out.lt
                          go_simp
                          have hl := lay1 x227 false (fun _ => 0)
                          have hb : Below x227.heap.size x227 (x227.alloc (.cells #[.bool false, .int .u64 0, .int .u64 0, .int .u64 0, .int .u64 0, .int .u64 0, .int .u64 0, .int .u64 0, .int .u64 0, .int .u64 0, .int .u64 0, .int .u64 0, .int .u64 0, .int .u64 0, .int .u64 0, .int .u64 0, .int .u64 0] 61)) := hl.2
                          obtain ⟨x245, hx⟩ : ∃ x245, x245 = x227.alloc (.cells #[.bool false, .int .u64 0, .int .u64 0, .int .u64 0, .int .u64 0, .int .u64 0, .int .u64 0, .int .u64 0, .int .u64 0, .int .u64 0, .int .u64 0, .int .u64 0, .int .u64 0, .int .u64 0, .int .u64 0, .int .u64 0, .int .u64 0] 61) := ⟨_, rfl⟩
                          rw [← hx] at hb
                          have hl1 : LongAt x245 x227.heap.size false (fun _ => 0) := by rw [hx]; exact hl.1
                          rw [← hx]
                          obtain ⟨bz, hn⟩ : ∃ bz, bz = x227.heap.size := ⟨_, rfl⟩
                          rw [← hn] at hl1
                          rw [← hn]
                          have HB246 : Hid (Below wr.heap.size wr x245) := bnx HB228.out hb
                          have HF248 : Hid (LongAt x245 bq false (fun _ => 0)) := HF229.out.stay hb
                          have HF247 : Hid (LongAt x245 bz false (fun _ => 0)) := hl1
                          have HGbz : Hid (wr.heap.size ≤ bz ∧ bz = x227.heap.size) := ⟨by rw [hn]; exact HB228.out.size, hn⟩
                          clear hx hl hl1 hn hb
                          have HNE : Hid (bq ≠ bz) := by have h1 := HLT.out; have h2 := HGbz.out.2; show _ ≠ _; omega
                          (refine hK _ _ HB246.out ?_; clear hK K; intro _)
                          try simp only [Act.put, List.setIfInBounds_toArray, List.set_cons_zero, List.set_cons_succ]
                          refine wpAnyH_ready (rs := [9]) (by kernel_rfl) (by simp) ?_
                          refine AllReadyH.cons rfl (fun K hK => ?_) AllReadyH.nil
                          go_simp
                          refine (over_qr rp (.agg (LA sA dA)) (T * y) W x245 HRP.out HAL.out HNS.out.2.2.1 HNS.out.2.2.2).mono ?_; rintro _ x249 ⟨sq, dq, dr, rfl, hq, hz, hb⟩
                          have HB250 : Hid (Below wr.heap.size wr x249) := bnx HB246.out hb
                          have HF251 : Hid (LongAt x249 bq false (fun _ => 0)) := HF248.out.stay hb
                          have HF252 : Hid (LongAt x249 bz false (fun _ => 0)) := HF247.out.stay hb
                          have HQ : Hid (Dig dq ∧ sgn sq (V dq 16) = ((T * y / W : Nat) : Int)) := hq
                          have HZ : Hid (Dig dr ∧ V dr 16 = T * y % W) := hz
                          clear hq hz
                          clear hb
                          (refine hK _ _ HB250.out ?_; clear hK K; intro _)
                          try simp only [Act.put, List.setIfInBounds_toArray, List.set_cons_zero, List.set_cons_succ]
                          refine wpAnyH_take (i := 10) (oi := { dst := some 66, op := Op.move (Operand.tmp 76), type := 68, pos := "ref.go:174", after := #[{ on := 9, ground := Ground.data }], guard := none }) (v := ?_) rfl (by kernel_rfl) (by kernel_rfl) (by kernel_rfl) (fun _ _ _ h => h) (Or.inl ⟨by rfl, ?_⟩) HB250.out ?_
                          rotate_left
                          · (intro y hy; go_simp; try (with_reducible rfl))
                          simp only [Act.put, List.setIfInBounds_toArray, List.set_cons_zero, List.set_cons_succ]
                          refine wpAnyH_take (i := 11) (oi := { dst := some 77, op := Op.extract (Operand.tmp 66) 0, type := 61, pos := "ref.go:174", after := #[{ on := 10, ground := Ground.data }], guard := none }) (v := ?_) rfl (by kernel_rfl) (by kernel_rfl) (by kernel_rfl) (fun _ _ _ h => h) (Or.inl ⟨by rfl, ?_⟩) HB250.out ?_
                          rotate_left
                          · (intro y hy; go_simp; try (with_reducible rfl))
                          simp only [Act.put, List.setIfInBounds_toArray, List.set_cons_zero, List.set_cons_succ]
                          refine wpAnyH_take (i := 12) (oi := { dst := some 78, op := Op.extract (Operand.tmp 66) 1, type := 61, pos := "ref.go:174", after := #[{ on := 10, ground := Ground.data }, { on := 15, ground := Ground.gcOnly Departure.lateStores }], guard := none }) (v := ?_) rfl (by kernel_rfl) (by kernel_rfl) (by kernel_rfl) (fun _ _ _ h => h) (Or.inl ⟨by rfl, ?_⟩) HB250.out ?_
                          rotate_left
                          · (intro y hy; go_simp; try (with_reducible rfl))
                          simp only [Act.put, List.setIfInBounds_toArray, List.set_cons_zero, List.set_cons_succ]
                          refine wpAnyH_ready (rs := [15]) (by kernel_rfl) (by simp) ?_
                          refine AllReadyH.cons rfl (fun K hK => ?_) AllReadyH.nil
                          refine step_store_longY rfl _ _ rfl HF251.out rfl rfl ?_
                          intro x253 hl hX hB
                          have HB254 : Hid (Below wr.heap.size wr x253) := hB _ _ HB250.out HGbq.out.1
                          have HF255 : Hid (LongAt x253 bq sq dq) := hl
                          have HF256 : Hid (LongAt x253 bz false (fun _ => 0)) := (hX bz (fun e => HNE.out e.symm)).trans HF252.out
                          clear hl hX hB
                          (refine hK _ _ HB254.out ?_; clear hK K; intro _)
                          try simp only [Act.put, List.setIfInBounds_toArray, List.set_cons_zero, List.set_cons_succ]
                          refine wpAnyH_ready (rs := [16]) (by kernel_rfl) (by simp) ?_
                          refine AllReadyH.cons rfl (fun K hK => ?_) AllReadyH.nil
                          refine step_store_longY rfl _ _ rfl HF256.out rfl rfl ?_
                          intro x257 hl hX hB
                          have HB258 : Hid (Below wr.heap.size wr x257) := hB _ _ HB254.out HGbz.out.1
                          have HF259 : Hid (LongAt x257 bz false dr) := hl
                          have HF260 : Hid (LongAt x257 bq sq dq) := (hX bq HNE.out).trans HF255.out
                          clear hl hX hB
                          (refine hK _ _ HB258.out ?_; clear hK K; intro _)
                          try simp only [Act.put, List.setIfInBounds_toArray, List.set_cons_zero, List.set_cons_succ]
                          refine wpAnyH_done (by kernel_rfl) ?_ _
                          go_wp2
                          go_meet
                          exact ⟨bq, bz, sq, dq, dr, rfl, rfl, ⟨HF260.out, HF259.out, HB258.out, ⟨HQ.out.1, by rw [HQ.out.2, HYE.out]; rfl⟩, ⟨HZ.out.1, by rw [HZ.out.2, HYE.out]; rfl⟩, HGbq.out.1, HGbz.out.1, HNE.out⟩⟩
                      · have HLT : Hid (bq < x224.heap.size) := HF226.out.lt
                        go_simp
                        have hl := lay1 x224 false (fun _ => 0)
                        have hb : Below x224.heap.size x224 (x224.alloc (.cells #[.bool false, .int .u64 0, .int .u64 0, .int .u64 0, .int .u64 0, .int .u64 0, .int .u64 0, .int .u64 0, .int .u64 0, .int .u64 0, .int .u64 0, .int .u64 0, .int .u64 0, .int .u64 0, .int .u64 0, .int .u64 0, .int .u64 0] 61)) := hl.2
                        obtain ⟨x261, hx⟩ : ∃ x261, x261 = x224.alloc (.cells #[.bool false, .int .u64 0, .int .u64 0, .int .u64 0, .int .u64 0, .int .u64 0, .int .u64 0, .int .u64 0, .int .u64 0, .int .u64 0, .int .u64 0, .int .u64 0, .int .u64 0, .int .u64 0, .int .u64 0, .int .u64 0, .int .u64 0] 61) := ⟨_, rfl⟩
                        rw [← hx] at hb
                        have hl1 : LongAt x261 x224.heap.size false (fun _ => 0) := by rw [hx]; exact hl.1
                        rw [← hx]
                        obtain ⟨bz, hn⟩ : ∃ bz, bz = x224.heap.size := ⟨_, rfl⟩
                        rw [← hn] at hl1
                        rw [← hn]
                        have HB262 : Hid (Below wr.heap.size wr x261) := bnx HB225.out hb
                        have HF264 : Hid (LongAt x261 bq false (fun _ => 0)) := HF226.out.stay hb
                        have HF263 : Hid (LongAt x261 bz false (fun _ => 0)) := hl1
                        have HGbz : Hid (wr.heap.size ≤ bz ∧ bz = x224.heap.size) := ⟨by rw [hn]; exact HB225.out.size, hn⟩
                        clear hx hl hl1 hn hb
                        have HNE : Hid (bq ≠ bz) := by have h1 := HLT.out; have h2 := HGbz.out.2; show _ ≠ _; omega
                        (refine hK _ _ HB262.out ?_; clear hK K; intro _)
                        try simp only [Act.put, List.setIfInBounds_toArray, List.set_cons_zero, List.set_cons_succ]
                        refine wpAnyH_ready (rs := [7]) (by kernel_rfl) (by simp) ?_
                        refine AllReadyH.cons rfl (fun K hK => ?_) AllReadyH.nil
                        go_simp
                        refine (times_nat ra rb T y x261 HRA.out HRB.out HNS.out.1 HNS.out.2.1).mono ?_; rintro _ x265 ⟨rp, rfl, hrp, hb⟩
                        have HB266 : Hid (Below wr.heap.size wr x265) := bnx HB262.out hb
                        have HF267 : Hid (LongAt x265 bq false (fun _ => 0)) := HF264.out.stay hb
                        have HF268 : Hid (LongAt x265 bz false (fun _ => 0)) := HF263.out.stay hb
                        have HRP : Hid (IsL rp ((T * y : Nat) : Int)) := hrp
                        clear hrp
                        clear hb
                        (refine hK _ _ HB266.out ?_; clear hK K; intro _)
                        try simp only [Act.put, List.setIfInBounds_toArray, List.set_cons_zero, List.set_cons_succ]
                        refine wpAnyH_ready (rs := [9]) (by kernel_rfl) (by simp) ?_
                        refine AllReadyH.cons rfl (fun K hK => ?_) AllReadyH.nil
                        go_simp
                        refine (over_qr rp (.agg (LA sA dA)) (T * y) W x265 HRP.out HAL.out HNS.out.2.2.1 HNS.out.2.2.2).mono ?_; rintro _ x269 ⟨sq, dq, dr, rfl, hq, hz, hb⟩
                        have HB270 : Hid (Below wr.heap.size wr x269) := bnx HB266.out hb
                        have HF271 : Hid (LongAt x269 bq false (fun _ => 0)) := HF267.out.stay hb
                        have HF272 : Hid (LongAt x269 bz false (fun _ => 0)) := HF268.out.stay hb
                        have HQ : Hid (Dig dq ∧ sgn sq (V dq 16) = ((T * y / W : Nat) : Int)) := hq
                        have HZ : Hid (Dig dr ∧ V dr 16 = T * y % W) := hz
                        clear hq hz
                        clear hb
                        (refine hK _ _ HB270.out ?_; clear hK K; intro _)
                        try simp only [Act.put, List.setIfInBounds_toArray, List.set_cons_zero, List.set_cons_succ]
                        refine wpAnyH_take (i := 10) (oi := { dst := some 66, op := Op.move (Operand.tmp 76), type := 68, pos := "ref.go:174", after := #[{ on := 9, ground := Ground.data }], guard := none }) (v := ?_) rfl (by kernel_rfl) (by kernel_rfl) (by kernel_rfl) (fun _ _ _ h => h) (Or.inl ⟨by rfl, ?_⟩) HB270.out ?_
                        rotate_left
                        · (intro y hy; go_simp; try (with_reducible rfl))
                        simp only [Act.put, List.setIfInBounds_toArray, List.set_cons_zero, List.set_cons_succ]
                        refine wpAnyH_take (i := 11) (oi := { dst := some 77, op := Op.extract (Operand.tmp 66) 0, type := 61, pos := "ref.go:174", after := #[{ on := 10, ground := Ground.data }], guard := none }) (v := ?_) rfl (by kernel_rfl) (by kernel_rfl) (by kernel_rfl) (fun _ _ _ h => h) (Or.inl ⟨by rfl, ?_⟩) HB270.out ?_
                        rotate_left
                        · (intro y hy; go_simp; try (with_reducible rfl))
                        simp only [Act.put, List.setIfInBounds_toArray, List.set_cons_zero, List.set_cons_succ]
                        refine wpAnyH_take (i := 12) (oi := { dst := some 78, op := Op.extract (Operand.tmp 66) 1, type := 61, pos := "ref.go:174", after := #[{ on := 10, ground := Ground.data }, { on := 15, ground := Ground.gcOnly Departure.lateStores }], guard := none }) (v := ?_) rfl (by kernel_rfl) (by kernel_rfl) (by kernel_rfl) (fun _ _ _ h => h) (Or.inl ⟨by rfl, ?_⟩) HB270.out ?_
                        rotate_left
                        · (intro y hy; go_simp; try (with_reducible rfl))
                        simp only [Act.put, List.setIfInBounds_toArray, List.set_cons_zero, List.set_cons_succ]
                        refine wpAnyH_ready (rs := [15]) (by kernel_rfl) (by simp) ?_
                        refine AllReadyH.cons rfl (fun K hK => ?_) AllReadyH.nil
                        refine step_store_longY rfl _ _ rfl HF271.out rfl rfl ?_
                        intro x273 hl hX hB
                        have HB274 : Hid (Below wr.heap.size wr x273) := hB _ _ HB270.out HGbq.out.1
                        have HF275 : Hid (LongAt x273 bq sq dq) := hl
                        have HF276 : Hid (LongAt x273 bz false (fun _ => 0)) := (hX bz (fun e => HNE.out e.symm)).trans HF272.out
                        clear hl hX hB
                        (refine hK _ _ HB274.out ?_; clear hK K; intro _)
                        try simp only [Act.put, List.setIfInBounds_toArray, List.set_cons_zero, List.set_cons_succ]
                        refine wpAnyH_ready (rs := [16]) (by kernel_rfl) (by simp) ?_
                        refine AllReadyH.cons rfl (fun K hK => ?_) AllReadyH.nil
                        refine step_store_longY rfl _ _ rfl HF276.out rfl rfl ?_
                        intro x277 hl hX hB
                        have HB278 : Hid (Below wr.heap.size wr x277) := hB _ _ HB274.out HGbz.out.1
                        have HF279 : Hid (LongAt x277 bz false dr) := hl
                        have HF280 : Hid (LongAt x277 bq sq dq) := (hX bq HNE.out).trans HF275.out
                        clear hl hX hB
                        (refine hK _ _ HB278.out ?_; clear hK K; intro _)
                        try simp only [Act.put, List.setIfInBounds_toArray, List.set_cons_zero, List.set_cons_succ]
                        refine wpAnyH_done (by kernel_rfl) ?_ _
                        go_wp2
                        go_meet
                        exact ⟨bq, bz, sq, dq, dr, rfl, rfl, ⟨HF280.out, HF279.out, HB278.out, ⟨HQ.out.1, by rw [HQ.out.2, HYE.out]; rfl⟩, ⟨HZ.out.1, by rw [HZ.out.2, HYE.out]; rfl⟩, HGbq.out.1, HGbz.out.1, HNE.out⟩⟩
                    · have HLT : Hid (bq < x221.heap.size) := HF223.out.lt
                      go_simp
                      have hl := lay1 x221 false (fun _ => 0)
                      have hb : Below x221.heap.size x221 (x221.alloc (.cells #[.bool false, .int .u64 0, .int .u64 0, .int .u64 0, .int .u64 0, .int .u64 0, .int .u64 0, .int .u64 0, .int .u64 0, .int .u64 0, .int .u64 0, .int .u64 0, .int .u64 0, .int .u64 0, .int .u64 0, .int .u64 0, .int .u64 0] 61)) := hl.2
                      obtain ⟨x281, hx⟩ : ∃ x281, x281 = x221.alloc (.cells #[.bool false, .int .u64 0, .int .u64 0, .int .u64 0, .int .u64 0, .int .u64 0, .int .u64 0, .int .u64 0, .int .u64 0, .int .u64 0, .int .u64 0, .int .u64 0, .int .u64 0, .int .u64 0, .int .u64 0, .int .u64 0, .int .u64 0] 61) := ⟨_, rfl⟩
                      rw [← hx] at hb
                      have hl1 : LongAt x281 x221.heap.size false (fun _ => 0) := by rw [hx]; exact hl.1
                      rw [← hx]
                      obtain ⟨bz, hn⟩ : ∃ bz, bz = x221.heap.size := ⟨_, rfl⟩
                      rw [← hn] at hl1
                      rw [← hn]
                      have HB282 : Hid (Below wr.heap.size wr x281) := bnx HB222.out hb
                      have HF284 : Hid (LongAt x281 bq false (fun _ => 0)) := HF223.out.stay hb
                      have HF283 : Hid (LongAt x281 bz false (fun _ => 0)) := hl1
                      have HGbz : Hid (wr.heap.size ≤ bz ∧ bz = x221.heap.size) := ⟨by rw [hn]; exact HB222.out.size, hn⟩
                      clear hx hl hl1 hn hb
                      have HNE : Hid (bq ≠ bz) := by have h1 := HLT.out; have h2 := HGbz.out.2; show _ ≠ _; omega
                      (refine hK _ _ HB282.out ?_; clear hK K; intro _)
                      try simp only [Act.put, List.setIfInBounds_toArray, List.set_cons_zero, List.set_cons_succ]
                      refine wpAnyH_ready (rs := [6]) (by kernel_rfl) (by simp) ?_
                      refine AllReadyH.cons rfl (fun K hK => ?_) AllReadyH.nil
                      go_simp
                      refine (of_is (y : Int) x281 HYI.out).mono ?_; rintro _ x285 ⟨rb, rfl, hrb, hb⟩
                      have HB286 : Hid (Below wr.heap.size wr x285) := bnx HB282.out hb
                      have HF287 : Hid (LongAt x285 bq false (fun _ => 0)) := HF284.out.stay hb
                      have HF288 : Hid (LongAt x285 bz false (fun _ => 0)) := HF283.out.stay hb
                      have HRB : Hid (IsL rb (y : Int)) := hrb
                      clear hrb
                      clear hb
                      (refine hK _ _ HB286.out ?_; clear hK K; intro _)
                      try simp only [Act.put, List.setIfInBounds_toArray, List.set_cons_zero, List.set_cons_succ]
                      refine wpAnyH_ready (rs := [7]) (by kernel_rfl) (by simp) ?_
                      refine AllReadyH.cons rfl (fun K hK => ?_) AllReadyH.nil
                      go_simp
                      refine (times_nat ra rb T y x285 HRA.out HRB.out HNS.out.1 HNS.out.2.1).mono ?_; rintro _ x289 ⟨rp, rfl, hrp, hb⟩
                      have HB290 : Hid (Below wr.heap.size wr x289) := bnx HB286.out hb
                      have HF291 : Hid (LongAt x289 bq false (fun _ => 0)) := HF287.out.stay hb
                      have HF292 : Hid (LongAt x289 bz false (fun _ => 0)) := HF288.out.stay hb
                      have HRP : Hid (IsL rp ((T * y : Nat) : Int)) := hrp
                      clear hrp
                      clear hb
                      (refine hK _ _ HB290.out ?_; clear hK K; intro _)
                      try simp only [Act.put, List.setIfInBounds_toArray, List.set_cons_zero, List.set_cons_succ]
                      refine wpAnyH_ready (rs := [9]) (by kernel_rfl) (by simp) ?_
                      refine AllReadyH.cons rfl (fun K hK => ?_) AllReadyH.nil
                      go_simp
                      refine (over_qr rp (.agg (LA sA dA)) (T * y) W x289 HRP.out HAL.out HNS.out.2.2.1 HNS.out.2.2.2).mono ?_; rintro _ x293 ⟨sq, dq, dr, rfl, hq, hz, hb⟩
                      have HB294 : Hid (Below wr.heap.size wr x293) := bnx HB290.out hb
                      have HF295 : Hid (LongAt x293 bq false (fun _ => 0)) := HF291.out.stay hb
                      have HF296 : Hid (LongAt x293 bz false (fun _ => 0)) := HF292.out.stay hb
                      have HQ : Hid (Dig dq ∧ sgn sq (V dq 16) = ((T * y / W : Nat) : Int)) := hq
                      have HZ : Hid (Dig dr ∧ V dr 16 = T * y % W) := hz
                      clear hq hz
                      clear hb
                      (refine hK _ _ HB294.out ?_; clear hK K; intro _)
                      try simp only [Act.put, List.setIfInBounds_toArray, List.set_cons_zero, List.set_cons_succ]
                      refine wpAnyH_take (i := 10) (oi := { dst := some 66, op := Op.move (Operand.tmp 76), type := 68, pos := "ref.go:174", after := #[{ on := 9, ground := Ground.data }], guard := none }) (v := ?_) rfl (by kernel_rfl) (by kernel_rfl) (by kernel_rfl) (fun _ _ _ h => h) (Or.inl ⟨by rfl, ?_⟩) HB294.out ?_
                      rotate_left
                      · (intro y hy; go_simp; try (with_reducible rfl))
                      simp only [Act.put, List.setIfInBounds_toArray, List.set_cons_zero, List.set_cons_succ]
                      refine wpAnyH_take (i := 11) (oi := { dst := some 77, op := Op.extract (Operand.tmp 66) 0, type := 61, pos := "ref.go:174", after := #[{ on := 10, ground := Ground.data }], guard := none }) (v := ?_) rfl (by kernel_rfl) (by kernel_rfl) (by kernel_rfl) (fun _ _ _ h => h) (Or.inl ⟨by rfl, ?_⟩) HB294.out ?_
                      rotate_left
                      · (intro y hy; go_simp; try (with_reducible rfl))
                      simp only [Act.put, List.setIfInBounds_toArray, List.set_cons_zero, List.set_cons_succ]
                      refine wpAnyH_take (i := 12) (oi := { dst := some 78, op := Op.extract (Operand.tmp 66) 1, type := 61, pos := "ref.go:174", after := #[{ on := 10, ground := Ground.data }, { on := 15, ground := Ground.gcOnly Departure.lateStores }], guard := none }) (v := ?_) rfl (by kernel_rfl) (by kernel_rfl) (by kernel_rfl) (fun _ _ _ h => h) (Or.inl ⟨by rfl, ?_⟩) HB294.out ?_
                      rotate_left
                      · (intro y hy; go_simp; try (with_reducible rfl))
                      simp only [Act.put, List.setIfInBounds_toArray, List.set_cons_zero, List.set_cons_succ]
                      refine wpAnyH_ready (rs := [15]) (by kernel_rfl) (by simp) ?_
                      refine AllReadyH.cons rfl (fun K hK => ?_) AllReadyH.nil
                      refine step_store_longY rfl _ _ rfl HF295.out rfl rfl ?_
                      intro x297 hl hX hB
                      have HB298 : Hid (Below wr.heap.size wr x297) := hB _ _ HB294.out HGbq.out.1
                      have HF299 : Hid (LongAt x297 bq sq dq) := hl
                      have HF300 : Hid (LongAt x297 bz false (fun _ => 0)) := (hX bz (fun e => HNE.out e.symm)).trans HF296.out
                      clear hl hX hB
                      (refine hK _ _ HB298.out ?_; clear hK K; intro _)
                      try simp only [Act.put, List.setIfInBounds_toArray, List.set_cons_zero, List.set_cons_succ]
                      refine wpAnyH_ready (rs := [16]) (by kernel_rfl) (by simp) ?_
                      refine AllReadyH.cons rfl (fun K hK => ?_) AllReadyH.nil
                      refine step_store_longY rfl _ _ rfl HF300.out rfl rfl ?_
                      intro x301 hl hX hB
                      have HB302 : Hid (Below wr.heap.size wr x301) := hB _ _ HB298.out HGbz.out.1
                      have HF303 : Hid (LongAt x301 bz false dr) := hl
                      have HF304 : Hid (LongAt x301 bq sq dq) := (hX bq HNE.out).trans HF299.out
                      clear hl hX hB
                      (refine hK _ _ HB302.out ?_; clear hK K; intro _)
                      try simp only [Act.put, List.setIfInBounds_toArray, List.set_cons_zero, List.set_cons_succ]
                      refine wpAnyH_done (by kernel_rfl) ?_ _
                      go_wp2
                      go_meet
                      exact ⟨bq, bz, sq, dq, dr, rfl, rfl, ⟨HF304.out, HF303.out, HB302.out, ⟨HQ.out.1, by rw [HQ.out.2, HYE.out]; rfl⟩, ⟨HZ.out.1, by rw [HZ.out.2, HYE.out]; rfl⟩, HGbq.out.1, HGbz.out.1, HNE.out⟩⟩
                  · go_simp
                    have hl := lay1 x1 false (fun _ => 0)
                    have hb : Below x1.heap.size x1 (x1.alloc (.cells #[.bool false, .int .u64 0, .int .u64 0, .int .u64 0, .int .u64 0, .int .u64 0, .int .u64 0, .int .u64 0, .int .u64 0, .int .u64 0, .int .u64 0, .int .u64 0, .int .u64 0, .int .u64 0, .int .u64 0, .int .u64 0, .int .u64 0] 61)) := hl.2
                    obtain ⟨x305, hx⟩ : ∃ x305, x305 = x1.alloc (.cells #[.bool false, .int .u64 0, .int .u64 0, .int .u64 0, .int .u64 0, .int .u64 0, .int .u64 0, .int .u64 0, .int .u64 0, .int .u64 0, .int .u64 0, .int .u64 0, .int .u64 0, .int .u64 0, .int .u64 0, .int .u64 0, .int .u64 0] 61) := ⟨_, rfl⟩
                    rw [← hx] at hb
                    have hl1 : LongAt x305 x1.heap.size false (fun _ => 0) := by rw [hx]; exact hl.1
                    rw [← hx]
                    obtain ⟨bz, hn⟩ : ∃ bz, bz = x1.heap.size := ⟨_, rfl⟩
                    rw [← hn] at hl1
                    rw [← hn]
                    have HB306 : Hid (Below wr.heap.size wr x305) := bnx HB2.out hb
                    have HF307 : Hid (LongAt x305 bz false (fun _ => 0)) := hl1
                    have HGbz : Hid (wr.heap.size ≤ bz ∧ bz = x1.heap.size) := ⟨by rw [hn]; exact HB2.out.size, hn⟩
                    clear hx hl hl1 hn hb
                    (refine hK _ _ HB306.out ?_; clear hK K; intro _)
                    try simp only [Act.put, List.setIfInBounds_toArray, List.set_cons_zero, List.set_cons_succ]
                    refine wpAnyH_ready (rs := [6, 13]) (by kernel_rfl) (by simp) ?_
                    refine AllReadyH.cons rfl (fun K hK => ?_) (AllReadyH.cons rfl (fun K hK => ?_) AllReadyH.nil)
                    · go_simp
                      refine (of_is (y : Int) x305 HYI.out).mono ?_; rintro _ x308 ⟨rb, rfl, hrb, hb⟩
                      have HB309 : Hid (Below wr.heap.size wr x308) := bnx HB306.out hb
                      have HF310 : Hid (LongAt x308 bz false (fun _ => 0)) := HF307.out.stay hb
                      have HRB : Hid (IsL rb (y : Int)) := hrb
                      clear hrb
                      clear hb
                      (refine hK _ _ HB309.out ?_; clear hK K; intro _)
                      try simp only [Act.put, List.setIfInBounds_toArray, List.set_cons_zero, List.set_cons_succ]
                      refine wpAnyH_ready (rs := [7, 13]) (by kernel_rfl) (by simp) ?_
                      refine AllReadyH.cons rfl (fun K hK => ?_) (AllReadyH.cons rfl (fun K hK => ?_) AllReadyH.nil)
                      · go_simp
                        refine (times_nat ra rb T y x308 HRA.out HRB.out HNS.out.1 HNS.out.2.1).mono ?_; rintro _ x311 ⟨rp, rfl, hrp, hb⟩
                        have HB312 : Hid (Below wr.heap.size wr x311) := bnx HB309.out hb
                        have HF313 : Hid (LongAt x311 bz false (fun _ => 0)) := HF310.out.stay hb
                        have HRP : Hid (IsL rp ((T * y : Nat) : Int)) := hrp
                        clear hrp
                        clear hb
                        (refine hK _ _ HB312.out ?_; clear hK K; intro _)
                        try simp only [Act.put, List.setIfInBounds_toArray, List.set_cons_zero, List.set_cons_succ]
                        refine wpAnyH_ready (rs := [9, 13]) (by kernel_rfl) (by simp) ?_
                        refine AllReadyH.cons rfl (fun K hK => ?_) (AllReadyH.cons rfl (fun K hK => ?_) AllReadyH.nil)
                        · go_simp
                          refine (over_qr rp (.agg (LA sA dA)) (T * y) W x311 HRP.out HAL.out HNS.out.2.2.1 HNS.out.2.2.2).mono ?_; rintro _ x314 ⟨sq, dq, dr, rfl, hq, hz, hb⟩
                          have HB315 : Hid (Below wr.heap.size wr x314) := bnx HB312.out hb
                          have HF316 : Hid (LongAt x314 bz false (fun _ => 0)) := HF313.out.stay hb
                          have HQ : Hid (Dig dq ∧ sgn sq (V dq 16) = ((T * y / W : Nat) : Int)) := hq
                          have HZ : Hid (Dig dr ∧ V dr 16 = T * y % W) := hz
                          clear hq hz
                          clear hb
                          (refine hK _ _ HB315.out ?_; clear hK K; intro _)
                          try simp only [Act.put, List.setIfInBounds_toArray, List.set_cons_zero, List.set_cons_succ]
                          refine wpAnyH_take (i := 10) (oi := { dst := some 66, op := Op.move (Operand.tmp 76), type := 68, pos := "ref.go:174", after := #[{ on := 9, ground := Ground.data }], guard := none }) (v := ?_) rfl (by kernel_rfl) (by kernel_rfl) (by kernel_rfl) (fun _ _ _ h => h) (Or.inl ⟨by rfl, ?_⟩) HB315.out ?_
                          rotate_left
                          · (intro y hy; go_simp; try (with_reducible rfl))
                          simp only [Act.put, List.setIfInBounds_toArray, List.set_cons_zero, List.set_cons_succ]
                          refine wpAnyH_take (i := 11) (oi := { dst := some 77, op := Op.extract (Operand.tmp 66) 0, type := 61, pos := "ref.go:174", after := #[{ on := 10, ground := Ground.data }], guard := none }) (v := ?_) rfl (by kernel_rfl) (by kernel_rfl) (by kernel_rfl) (fun _ _ _ h => h) (Or.inl ⟨by rfl, ?_⟩) HB315.out ?_
                          rotate_left
                          · (intro y hy; go_simp; try (with_reducible rfl))
                          simp only [Act.put, List.setIfInBounds_toArray, List.set_cons_zero, List.set_cons_succ]
                          refine wpAnyH_take (i := 12) (oi := { dst := some 78, op := Op.extract (Operand.tmp 66) 1, type := 61, pos := "ref.go:174", after := #[{ on := 10, ground := Ground.data }, { on := 15, ground := Ground.gcOnly Departure.lateStores }], guard := none }) (v := ?_) rfl (by kernel_rfl) (by kernel_rfl) (by kernel_rfl) (fun _ _ _ h => h) (Or.inl ⟨by rfl, ?_⟩) HB315.out ?_
                          rotate_left
                          · (intro y hy; go_simp; try (with_reducible rfl))
                          simp only [Act.put, List.setIfInBounds_toArray, List.set_cons_zero, List.set_cons_succ]
                          refine wpAnyH_ready (rs := [13]) (by kernel_rfl) (by simp) ?_
                          refine AllReadyH.cons rfl (fun K hK => ?_) AllReadyH.nil
                          have HLT : Hid (bz < x314.heap.size) := HF316.out.lt
                          go_simp
                          have hl := lay1 x314 false (fun _ => 0)
                          have hb : Below x314.heap.size x314 (x314.alloc (.cells #[.bool false, .int .u64 0, .int .u64 0, .int .u64 0, .int .u64 0, .int .u64 0, .int .u64 0, .int .u64 0, .int .u64 0, .int .u64 0, .int .u64 0, .int .u64 0, .int .u64 0, .int .u64 0, .int .u64 0, .int .u64 0, .int .u64 0] 61)) := hl.2
                          obtain ⟨x317, hx⟩ : ∃ x317, x317 = x314.alloc (.cells #[.bool false, .int .u64 0, .int .u64 0, .int .u64 0, .int .u64 0, .int .u64 0, .int .u64 0, .int .u64 0, .int .u64 0, .int .u64 0, .int .u64 0, .int .u64 0, .int .u64 0, .int .u64 0, .int .u64 0, .int .u64 0, .int .u64 0] 61) := ⟨_, rfl⟩
                          rw [← hx] at hb
                          have hl1 : LongAt x317 x314.heap.size false (fun _ => 0) := by rw [hx]; exact hl.1
                          rw [← hx]
                          obtain ⟨bq, hn⟩ : ∃ bq, bq = x314.heap.size := ⟨_, rfl⟩
                          rw [← hn] at hl1
                          rw [← hn]
                          have HB318 : Hid (Below wr.heap.size wr x317) := bnx HB315.out hb
                          have HF320 : Hid (LongAt x317 bz false (fun _ => 0)) := HF316.out.stay hb
                          have HF319 : Hid (LongAt x317 bq false (fun _ => 0)) := hl1
                          have HGbq : Hid (wr.heap.size ≤ bq ∧ bq = x314.heap.size) := ⟨by rw [hn]; exact HB315.out.size, hn⟩
                          clear hx hl hl1 hn hb
                          have HNE : Hid (bq ≠ bz) := by have h1 := HLT.out; have h2 := HGbq.out.2; show _ ≠ _; omega
                          (refine hK _ _ HB318.out ?_; clear hK K; intro _)
                          try simp only [Act.put, List.setIfInBounds_toArray, List.set_cons_zero, List.set_cons_succ]
                          refine wpAnyH_ready (rs := [15]) (by kernel_rfl) (by simp) ?_
                          refine AllReadyH.cons rfl (fun K hK => ?_) AllReadyH.nil
                          refine step_store_longY rfl _ _ rfl HF319.out rfl rfl ?_
                          intro x321 hl hX hB
                          have HB322 : Hid (Below wr.heap.size wr x321) := hB _ _ HB318.out HGbq.out.1
                          have HF323 : Hid (LongAt x321 bq sq dq) := hl
                          have HF324 : Hid (LongAt x321 bz false (fun _ => 0)) := (hX bz (fun e => HNE.out e.symm)).trans HF320.out
                          clear hl hX hB
                          (refine hK _ _ HB322.out ?_; clear hK K; intro _)
                          try simp only [Act.put, List.setIfInBounds_toArray, List.set_cons_zero, List.set_cons_succ]
                          refine wpAnyH_ready (rs := [16]) (by kernel_rfl) (by simp) ?_
                          refine AllReadyH.cons rfl (fun K hK => ?_) AllReadyH.nil
                          refine step_store_longY rfl _ _ rfl HF324.out rfl rfl ?_
                          intro x325 hl hX hB
                          have HB326 : Hid (Below wr.heap.size wr x325) := hB _ _ HB322.out HGbz.out.1
                          have HF327 : Hid (LongAt x325 bz false dr) := hl
                          have HF328 : Hid (LongAt x325 bq sq dq) := (hX bq HNE.out).trans HF323.out
                          clear hl hX hB
                          (refine hK _ _ HB326.out ?_; clear hK K; intro _)
                          try simp only [Act.put, List.setIfInBounds_toArray, List.set_cons_zero, List.set_cons_succ]
                          refine wpAnyH_done (by kernel_rfl) ?_ _
                          go_wp2
                          go_meet
                          exact ⟨bq, bz, sq, dq, dr, rfl, rfl, ⟨HF328.out, HF327.out, HB326.out, ⟨HQ.out.1, by rw [HQ.out.2, HYE.out]; rfl⟩, ⟨HZ.out.1, by rw [HZ.out.2, HYE.out]; rfl⟩, HGbq.out.1, HGbz.out.1, HNE.out⟩⟩
                        · have HLT : Hid (bz < x311.heap.size) := HF313.out.lt
                          go_simp
                          have hl := lay1 x311 false (fun _ => 0)
                          have hb : Below x311.heap.size x311 (x311.alloc (.cells #[.bool false, .int .u64 0, .int .u64 0, .int .u64 0, .int .u64 0, .int .u64 0, .int .u64 0, .int .u64 0, .int .u64 0, .int .u64 0, .int .u64 0, .int .u64 0, .int .u64 0, .int .u64 0, .int .u64 0, .int .u64 0, .int .u64 0] 61)) := hl.2
                          obtain ⟨x329, hx⟩ : ∃ x329, x329 = x311.alloc (.cells #[.bool false, .int .u64 0, .int .u64 0, .int .u64 0, .int .u64 0, .int .u64 0, .int .u64 0, .int .u64 0, .int .u64 0, .int .u64 0, .int .u64 0, .int .u64 0, .int .u64 0, .int .u64 0, .int .u64 0, .int .u64 0, .int .u64 0] 61) := ⟨_, rfl⟩
                          rw [← hx] at hb
                          have hl1 : LongAt x329 x311.heap.size false (fun _ => 0) := by rw [hx]; exact hl.1
                          rw [← hx]
                          obtain ⟨bq, hn⟩ : ∃ bq, bq = x311.heap.size := ⟨_, rfl⟩
                          rw [← hn] at hl1
                          rw [← hn]
                          have HB330 : Hid (Below wr.heap.size wr x329) := bnx HB312.out hb
                          have HF332 : Hid (LongAt x329 bz false (fun _ => 0)) := HF313.out.stay hb
                          have HF331 : Hid (LongAt x329 bq false (fun _ => 0)) := hl1
                          have HGbq : Hid (wr.heap.size ≤ bq ∧ bq = x311.heap.size) := ⟨by rw [hn]; exact HB312.out.size, hn⟩
                          clear hx hl hl1 hn hb
                          have HNE : Hid (bq ≠ bz) := by have h1 := HLT.out; have h2 := HGbq.out.2; show _ ≠ _; omega
                          (refine hK _ _ HB330.out ?_; clear hK K; intro _)
                          try simp only [Act.put, List.setIfInBounds_toArray, List.set_cons_zero, List.set_cons_succ]
                          refine wpAnyH_ready (rs := [9]) (by kernel_rfl) (by simp) ?_
                          refine AllReadyH.cons rfl (fun K hK => ?_) AllReadyH.nil
                          go_simp
                          refine (over_qr rp (.agg (LA sA dA)) (T * y) W x329 HRP.out HAL.out HNS.out.2.2.1 HNS.out.2.2.2).mono ?_; rintro _ x333 ⟨sq, dq, dr, rfl, hq, hz, hb⟩
                          have HB334 : Hid (Below wr.heap.size wr x333) := bnx HB330.out hb
                          have HF335 : Hid (LongAt x333 bz false (fun _ => 0)) := HF332.out.stay hb
                          have HF336 : Hid (LongAt x333 bq false (fun _ => 0)) := HF331.out.stay hb
                          have HQ : Hid (Dig dq ∧ sgn sq (V dq 16) = ((T * y / W : Nat) : Int)) := hq
                          have HZ : Hid (Dig dr ∧ V dr 16 = T * y % W) := hz
                          clear hq hz
                          clear hb
                          (refine hK _ _ HB334.out ?_; clear hK K; intro _)
                          try simp only [Act.put, List.setIfInBounds_toArray, List.set_cons_zero, List.set_cons_succ]
                          refine wpAnyH_take (i := 10) (oi := { dst := some 66, op := Op.move (Operand.tmp 76), type := 68, pos := "ref.go:174", after := #[{ on := 9, ground := Ground.data }], guard := none }) (v := ?_) rfl (by kernel_rfl) (by kernel_rfl) (by kernel_rfl) (fun _ _ _ h => h) (Or.inl ⟨by rfl, ?_⟩) HB334.out ?_
                          rotate_left
                          · (intro y hy; go_simp; try (with_reducible rfl))
                          simp only [Act.put, List.setIfInBounds_toArray, List.set_cons_zero, List.set_cons_succ]
                          refine wpAnyH_take (i := 11) (oi := { dst := some 77, op := Op.extract (Operand.tmp 66) 0, type := 61, pos := "ref.go:174", after := #[{ on := 10, ground := Ground.data }], guard := none }) (v := ?_) rfl (by kernel_rfl) (by kernel_rfl) (by kernel_rfl) (fun _ _ _ h => h) (Or.inl ⟨by rfl, ?_⟩) HB334.out ?_
                          rotate_left
                          · (intro y hy; go_simp; try (with_reducible rfl))
                          simp only [Act.put, List.setIfInBounds_toArray, List.set_cons_zero, List.set_cons_succ]
                          refine wpAnyH_take (i := 12) (oi := { dst := some 78, op := Op.extract (Operand.tmp 66) 1, type := 61, pos := "ref.go:174", after := #[{ on := 10, ground := Ground.data }, { on := 15, ground := Ground.gcOnly Departure.lateStores }], guard := none }) (v := ?_) rfl (by kernel_rfl) (by kernel_rfl) (by kernel_rfl) (fun _ _ _ h => h) (Or.inl ⟨by rfl, ?_⟩) HB334.out ?_
                          rotate_left
                          · (intro y hy; go_simp; try (with_reducible rfl))
                          simp only [Act.put, List.setIfInBounds_toArray, List.set_cons_zero, List.set_cons_succ]
                          refine wpAnyH_ready (rs := [15]) (by kernel_rfl) (by simp) ?_
                          refine AllReadyH.cons rfl (fun K hK => ?_) AllReadyH.nil
                          refine step_store_longY rfl _ _ rfl HF336.out rfl rfl ?_
                          intro x337 hl hX hB
                          have HB338 : Hid (Below wr.heap.size wr x337) := hB _ _ HB334.out HGbq.out.1
                          have HF339 : Hid (LongAt x337 bq sq dq) := hl
                          have HF340 : Hid (LongAt x337 bz false (fun _ => 0)) := (hX bz (fun e => HNE.out e.symm)).trans HF335.out
                          clear hl hX hB
                          (refine hK _ _ HB338.out ?_; clear hK K; intro _)
                          try simp only [Act.put, List.setIfInBounds_toArray, List.set_cons_zero, List.set_cons_succ]
                          refine wpAnyH_ready (rs := [16]) (by kernel_rfl) (by simp) ?_
                          refine AllReadyH.cons rfl (fun K hK => ?_) AllReadyH.nil
                          refine step_store_longY rfl _ _ rfl HF340.out rfl rfl ?_
                          intro x341 hl hX hB
                          have HB342 : Hid (Below wr.heap.size wr x341) := hB _ _ HB338.out HGbz.out.1
                          have HF343 : Hid (LongAt x341 bz false dr) := hl
                          have HF344 : Hid (LongAt x341 bq sq dq) := (hX bq HNE.out).trans HF339.out
                          clear hl hX hB
                          (refine hK _ _ HB342.out ?_; clear hK K; intro _)
                          try simp only [Act.put, List.setIfInBounds_toArray, List.set_cons_zero, List.set_cons_succ]
                          refine wpAnyH_done (by kernel_rfl) ?_ _
                          go_wp2
                          go_meet
                          exact ⟨bq, bz, sq, dq, dr, rfl, rfl, ⟨HF344.out, HF343.out, HB342.out, ⟨HQ.out.1, by rw [HQ.out.2, HYE.out]; rfl⟩, ⟨HZ.out.1, by rw [HZ.out.2, HYE.out]; rfl⟩, HGbq.out.1, HGbz.out.1, HNE.out⟩⟩
                      · have HLT : Hid (bz < x308.heap.size) := HF310.out.lt
                        go_simp
                        have hl := lay1 x308 false (fun _ => 0)
                        have hb : Below x308.heap.size x308 (x308.alloc (.cells #[.bool false, .int .u64 0, .int .u64 0, .int .u64 0, .int .u64 0, .int .u64 0, .int .u64 0, .int .u64 0, .int .u64 0, .int .u64 0, .int .u64 0, .int .u64 0, .int .u64 0, .int .u64 0, .int .u64 0, .int .u64 0, .int .u64 0] 61)) := hl.2
                        obtain ⟨x345, hx⟩ : ∃ x345, x345 = x308.alloc (.cells #[.bool false, .int .u64 0, .int .u64 0, .int .u64 0, .int .u64 0, .int .u64 0, .int .u64 0, .int .u64 0, .int .u64 0, .int .u64 0, .int .u64 0, .int .u64 0, .int .u64 0, .int .u64 0, .int .u64 0, .int .u64 0, .int .u64 0] 61) := ⟨_, rfl⟩
                        rw [← hx] at hb
                        have hl1 : LongAt x345 x308.heap.size false (fun _ => 0) := by rw [hx]; exact hl.1
                        rw [← hx]
                        obtain ⟨bq, hn⟩ : ∃ bq, bq = x308.heap.size := ⟨_, rfl⟩
                        rw [← hn] at hl1
                        rw [← hn]
                        have HB346 : Hid (Below wr.heap.size wr x345) := bnx HB309.out hb
                        have HF348 : Hid (LongAt x345 bz false (fun _ => 0)) := HF310.out.stay hb
                        have HF347 : Hid (LongAt x345 bq false (fun _ => 0)) := hl1
                        have HGbq : Hid (wr.heap.size ≤ bq ∧ bq = x308.heap.size) := ⟨by rw [hn]; exact HB309.out.size, hn⟩
                        clear hx hl hl1 hn hb
                        have HNE : Hid (bq ≠ bz) := by have h1 := HLT.out; have h2 := HGbq.out.2; show _ ≠ _; omega
                        (refine hK _ _ HB346.out ?_; clear hK K; intro _)
                        try simp only [Act.put, List.setIfInBounds_toArray, List.set_cons_zero, List.set_cons_succ]
                        refine wpAnyH_ready (rs := [7]) (by kernel_rfl) (by simp) ?_
                        refine AllReadyH.cons rfl (fun K hK => ?_) AllReadyH.nil
                        go_simp
                        refine (times_nat ra rb T y x345 HRA.out HRB.out HNS.out.1 HNS.out.2.1).mono ?_; rintro _ x349 ⟨rp, rfl, hrp, hb⟩
                        have HB350 : Hid (Below wr.heap.size wr x349) := bnx HB346.out hb
                        have HF351 : Hid (LongAt x349 bz false (fun _ => 0)) := HF348.out.stay hb
                        have HF352 : Hid (LongAt x349 bq false (fun _ => 0)) := HF347.out.stay hb
                        have HRP : Hid (IsL rp ((T * y : Nat) : Int)) := hrp
                        clear hrp
                        clear hb
                        (refine hK _ _ HB350.out ?_; clear hK K; intro _)
                        try simp only [Act.put, List.setIfInBounds_toArray, List.set_cons_zero, List.set_cons_succ]
                        refine wpAnyH_ready (rs := [9]) (by kernel_rfl) (by simp) ?_
                        refine AllReadyH.cons rfl (fun K hK => ?_) AllReadyH.nil
                        go_simp
                        refine (over_qr rp (.agg (LA sA dA)) (T * y) W x349 HRP.out HAL.out HNS.out.2.2.1 HNS.out.2.2.2).mono ?_; rintro _ x353 ⟨sq, dq, dr, rfl, hq, hz, hb⟩
                        have HB354 : Hid (Below wr.heap.size wr x353) := bnx HB350.out hb
                        have HF355 : Hid (LongAt x353 bz false (fun _ => 0)) := HF351.out.stay hb
                        have HF356 : Hid (LongAt x353 bq false (fun _ => 0)) := HF352.out.stay hb
                        have HQ : Hid (Dig dq ∧ sgn sq (V dq 16) = ((T * y / W : Nat) : Int)) := hq
                        have HZ : Hid (Dig dr ∧ V dr 16 = T * y % W) := hz
                        clear hq hz
                        clear hb
                        (refine hK _ _ HB354.out ?_; clear hK K; intro _)
                        try simp only [Act.put, List.setIfInBounds_toArray, List.set_cons_zero, List.set_cons_succ]
                        refine wpAnyH_take (i := 10) (oi := { dst := some 66, op := Op.move (Operand.tmp 76), type := 68, pos := "ref.go:174", after := #[{ on := 9, ground := Ground.data }], guard := none }) (v := ?_) rfl (by kernel_rfl) (by kernel_rfl) (by kernel_rfl) (fun _ _ _ h => h) (Or.inl ⟨by rfl, ?_⟩) HB354.out ?_
                        rotate_left
                        · (intro y hy; go_simp; try (with_reducible rfl))
                        simp only [Act.put, List.setIfInBounds_toArray, List.set_cons_zero, List.set_cons_succ]
                        refine wpAnyH_take (i := 11) (oi := { dst := some 77, op := Op.extract (Operand.tmp 66) 0, type := 61, pos := "ref.go:174", after := #[{ on := 10, ground := Ground.data }], guard := none }) (v := ?_) rfl (by kernel_rfl) (by kernel_rfl) (by kernel_rfl) (fun _ _ _ h => h) (Or.inl ⟨by rfl, ?_⟩) HB354.out ?_
                        rotate_left
                        · (intro y hy; go_simp; try (with_reducible rfl))
                        simp only [Act.put, List.setIfInBounds_toArray, List.set_cons_zero, List.set_cons_succ]
                        refine wpAnyH_take (i := 12) (oi := { dst := some 78, op := Op.extract (Operand.tmp 66) 1, type := 61, pos := "ref.go:174", after := #[{ on := 10, ground := Ground.data }, { on := 15, ground := Ground.gcOnly Departure.lateStores }], guard := none }) (v := ?_) rfl (by kernel_rfl) (by kernel_rfl) (by kernel_rfl) (fun _ _ _ h => h) (Or.inl ⟨by rfl, ?_⟩) HB354.out ?_
                        rotate_left
                        · (intro y hy; go_simp; try (with_reducible rfl))
                        simp only [Act.put, List.setIfInBounds_toArray, List.set_cons_zero, List.set_cons_succ]
                        refine wpAnyH_ready (rs := [15]) (by kernel_rfl) (by simp) ?_
                        refine AllReadyH.cons rfl (fun K hK => ?_) AllReadyH.nil
                        refine step_store_longY rfl _ _ rfl HF356.out rfl rfl ?_
                        intro x357 hl hX hB
                        have HB358 : Hid (Below wr.heap.size wr x357) := hB _ _ HB354.out HGbq.out.1
                        have HF359 : Hid (LongAt x357 bq sq dq) := hl
                        have HF360 : Hid (LongAt x357 bz false (fun _ => 0)) := (hX bz (fun e => HNE.out e.symm)).trans HF355.out
                        clear hl hX hB
                        (refine hK _ _ HB358.out ?_; clear hK K; intro _)
                        try simp only [Act.put, List.setIfInBounds_toArray, List.set_cons_zero, List.set_cons_succ]
                        refine wpAnyH_ready (rs := [16]) (by kernel_rfl) (by simp) ?_
                        refine AllReadyH.cons rfl (fun K hK => ?_) AllReadyH.nil
                        refine step_store_longY rfl _ _ rfl HF360.out rfl rfl ?_
                        intro x361 hl hX hB
                        have HB362 : Hid (Below wr.heap.size wr x361) := hB _ _ HB358.out HGbz.out.1
                        have HF363 : Hid (LongAt x361 bz false dr) := hl
                        have HF364 : Hid (LongAt x361 bq sq dq) := (hX bq HNE.out).trans HF359.out
                        clear hl hX hB
                        (refine hK _ _ HB362.out ?_; clear hK K; intro _)
                        try simp only [Act.put, List.setIfInBounds_toArray, List.set_cons_zero, List.set_cons_succ]
                        refine wpAnyH_done (by kernel_rfl) ?_ _
                        go_wp2
                        go_meet
                        exact ⟨bq, bz, sq, dq, dr, rfl, rfl, ⟨HF364.out, HF363.out, HB362.out, ⟨HQ.out.1, by rw [HQ.out.2, HYE.out]; rfl⟩, ⟨HZ.out.1, by rw [HZ.out.2, HYE.out]; rfl⟩, HGbq.out.1, HGbz.out.1, HNE.out⟩⟩
                    · have HLT : Hid (bz < x305.heap.size) := HF307.out.lt
                      go_simp
                      have hl := lay1 x305 false (fun _ => 0)
                      have hb : Below x305.heap.size x305 (x305.alloc (.cells #[.bool false, .int .u64 0, .int .u64 0, .int .u64 0, .int .u64 0, .int .u64 0, .int .u64 0, .int .u64 0, .int .u64 0, .int .u64 0, .int .u64 0, .int .u64 0, .int .u64 0, .int .u64 0, .int .u64 0, .int .u64 0, .int .u64 0] 61)) := hl.2
                      obtain ⟨x365, hx⟩ : ∃ x365, x365 = x305.alloc (.cells #[.bool false, .int .u64 0, .int .u64 0, .int .u64 0, .int .u64 0, .int .u64 0, .int .u64 0, .int .u64 0, .int .u64 0, .int .u64 0, .int .u64 0, .int .u64 0, .int .u64 0, .int .u64 0, .int .u64 0, .int .u64 0, .int .u64 0] 61) := ⟨_, rfl⟩
                      rw [← hx] at hb
                      have hl1 : LongAt x365 x305.heap.size false (fun _ => 0) := by rw [hx]; exact hl.1
                      rw [← hx]
                      obtain ⟨bq, hn⟩ : ∃ bq, bq = x305.heap.size := ⟨_, rfl⟩
                      rw [← hn] at hl1
                      rw [← hn]
                      have HB366 : Hid (Below wr.heap.size wr x365) := bnx HB306.out hb
                      have HF368 : Hid (LongAt x365 bz false (fun _ => 0)) := HF307.out.stay hb
                      have HF367 : Hid (LongAt x365 bq false (fun _ => 0)) := hl1
                      have HGbq : Hid (wr.heap.size ≤ bq ∧ bq = x305.heap.size) := ⟨by rw [hn]; exact HB306.out.size, hn⟩
                      clear hx hl hl1 hn hb
                      have HNE : Hid (bq ≠ bz) := by have h1 := HLT.out; have h2 := HGbq.out.2; show _ ≠ _; omega
                      (refine hK _ _ HB366.out ?_; clear hK K; intro _)
                      try simp only [Act.put, List.setIfInBounds_toArray, List.set_cons_zero, List.set_cons_succ]
                      refine wpAnyH_ready (rs := [6]) (by kernel_rfl) (by simp) ?_
                      refine AllReadyH.cons rfl (fun K hK => ?_) AllReadyH.nil
                      go_simp
                      refine (of_is (y : Int) x365 HYI.out).mono ?_; rintro _ x369 ⟨rb, rfl, hrb, hb⟩
                      have HB370 : Hid (Below wr.heap.size wr x369) := bnx HB366.out hb
                      have HF371 : Hid (LongAt x369 bz false (fun _ => 0)) := HF368.out.stay hb
                      have HF372 : Hid (LongAt x369 bq false (fun _ => 0)) := HF367.out.stay hb
                      have HRB : Hid (IsL rb (y : Int)) := hrb
                      clear hrb
                      clear hb
                      (refine hK _ _ HB370.out ?_; clear hK K; intro _)
                      try simp only [Act.put, List.setIfInBounds_toArray, List.set_cons_zero, List.set_cons_succ]
                      refine wpAnyH_ready (rs := [7]) (by kernel_rfl) (by simp) ?_
                      refine AllReadyH.cons rfl (fun K hK => ?_) AllReadyH.nil
                      go_simp
                      refine (times_nat ra rb T y x369 HRA.out HRB.out HNS.out.1 HNS.out.2.1).mono ?_; rintro _ x373 ⟨rp, rfl, hrp, hb⟩
                      have HB374 : Hid (Below wr.heap.size wr x373) := bnx HB370.out hb
                      have HF375 : Hid (LongAt x373 bz false (fun _ => 0)) := HF371.out.stay hb
                      have HF376 : Hid (LongAt x373 bq false (fun _ => 0)) := HF372.out.stay hb
                      have HRP : Hid (IsL rp ((T * y : Nat) : Int)) := hrp
                      clear hrp
                      clear hb
                      (refine hK _ _ HB374.out ?_; clear hK K; intro _)
                      try simp only [Act.put, List.setIfInBounds_toArray, List.set_cons_zero, List.set_cons_succ]
                      refine wpAnyH_ready (rs := [9]) (by kernel_rfl) (by simp) ?_
                      refine AllReadyH.cons rfl (fun K hK => ?_) AllReadyH.nil
                      go_simp
                      refine (over_qr rp (.agg (LA sA dA)) (T * y) W x373 HRP.out HAL.out HNS.out.2.2.1 HNS.out.2.2.2).mono ?_; rintro _ x377 ⟨sq, dq, dr, rfl, hq, hz, hb⟩
                      have HB378 : Hid (Below wr.heap.size wr x377) := bnx HB374.out hb
                      have HF379 : Hid (LongAt x377 bz false (fun _ => 0)) := HF375.out.stay hb
                      have HF380 : Hid (LongAt x377 bq false (fun _ => 0)) := HF376.out.stay hb
                      have HQ : Hid (Dig dq ∧ sgn sq (V dq 16) = ((T * y / W : Nat) : Int)) := hq
                      have HZ : Hid (Dig dr ∧ V dr 16 = T * y % W) := hz
                      clear hq hz
                      clear hb
                      (refine hK _ _ HB378.out ?_; clear hK K; intro _)
                      try simp only [Act.put, List.setIfInBounds_toArray, List.set_cons_zero, List.set_cons_succ]
                      refine wpAnyH_take (i := 10) (oi := { dst := some 66, op := Op.move (Operand.tmp 76), type := 68, pos := "ref.go:174", after := #[{ on := 9, ground := Ground.data }], guard := none }) (v := ?_) rfl (by kernel_rfl) (by kernel_rfl) (by kernel_rfl) (fun _ _ _ h => h) (Or.inl ⟨by rfl, ?_⟩) HB378.out ?_
                      rotate_left
                      · (intro y hy; go_simp; try (with_reducible rfl))
                      simp only [Act.put, List.setIfInBounds_toArray, List.set_cons_zero, List.set_cons_succ]
                      refine wpAnyH_take (i := 11) (oi := { dst := some 77, op := Op.extract (Operand.tmp 66) 0, type := 61, pos := "ref.go:174", after := #[{ on := 10, ground := Ground.data }], guard := none }) (v := ?_) rfl (by kernel_rfl) (by kernel_rfl) (by kernel_rfl) (fun _ _ _ h => h) (Or.inl ⟨by rfl, ?_⟩) HB378.out ?_
                      rotate_left
                      · (intro y hy; go_simp; try (with_reducible rfl))
                      simp only [Act.put, List.setIfInBounds_toArray, List.set_cons_zero, List.set_cons_succ]
                      refine wpAnyH_take (i := 12) (oi := { dst := some 78, op := Op.extract (Operand.tmp 66) 1, type := 61, pos := "ref.go:174", after := #[{ on := 10, ground := Ground.data }, { on := 15, ground := Ground.gcOnly Departure.lateStores }], guard := none }) (v := ?_) rfl (by kernel_rfl) (by kernel_rfl) (by kernel_rfl) (fun _ _ _ h => h) (Or.inl ⟨by rfl, ?_⟩) HB378.out ?_
                      rotate_left
                      · (intro y hy; go_simp; try (with_reducible rfl))
                      simp only [Act.put, List.setIfInBounds_toArray, List.set_cons_zero, List.set_cons_succ]
                      refine wpAnyH_ready (rs := [15]) (by kernel_rfl) (by simp) ?_
                      refine AllReadyH.cons rfl (fun K hK => ?_) AllReadyH.nil
                      refine step_store_longY rfl _ _ rfl HF380.out rfl rfl ?_
                      intro x381 hl hX hB
                      have HB382 : Hid (Below wr.heap.size wr x381) := hB _ _ HB378.out HGbq.out.1
                      have HF383 : Hid (LongAt x381 bq sq dq) := hl
                      have HF384 : Hid (LongAt x381 bz false (fun _ => 0)) := (hX bz (fun e => HNE.out e.symm)).trans HF379.out
                      clear hl hX hB
                      (refine hK _ _ HB382.out ?_; clear hK K; intro _)
                      try simp only [Act.put, List.setIfInBounds_toArray, List.set_cons_zero, List.set_cons_succ]
                      refine wpAnyH_ready (rs := [16]) (by kernel_rfl) (by simp) ?_
                      refine AllReadyH.cons rfl (fun K hK => ?_) AllReadyH.nil
                      refine step_store_longY rfl _ _ rfl HF384.out rfl rfl ?_
                      intro x385 hl hX hB
                      have HB386 : Hid (Below wr.heap.size wr x385) := hB _ _ HB382.out HGbz.out.1
                      have HF387 : Hid (LongAt x385 bz false dr) := hl
                      have HF388 : Hid (LongAt x385 bq sq dq) := (hX bq HNE.out).trans HF383.out
                      clear hl hX hB
                      (refine hK _ _ HB386.out ?_; clear hK K; intro _)
                      try simp only [Act.put, List.setIfInBounds_toArray, List.set_cons_zero, List.set_cons_succ]
                      refine wpAnyH_done (by kernel_rfl) ?_ _
                      go_wp2
                      go_meet
                      exact ⟨bq, bz, sq, dq, dr, rfl, rfl, ⟨HF388.out, HF387.out, HB386.out, ⟨HQ.out.1, by rw [HQ.out.2, HYE.out]; rfl⟩, ⟨HZ.out.1, by rw [HZ.out.2, HYE.out]; rfl⟩, HGbq.out.1, HGbz.out.1, HNE.out⟩⟩
                · go_simp
                  have hl := lay1 xd false (fun _ => 0)
                  have hb : Below xd.heap.size xd (xd.alloc (.cells #[.bool false, .int .u64 0, .int .u64 0, .int .u64 0, .int .u64 0, .int .u64 0, .int .u64 0, .int .u64 0, .int .u64 0, .int .u64 0, .int .u64 0, .int .u64 0, .int .u64 0, .int .u64 0, .int .u64 0, .int .u64 0, .int .u64 0] 61)) := hl.2
                  obtain ⟨x389, hx⟩ : ∃ x389, x389 = xd.alloc (.cells #[.bool false, .int .u64 0, .int .u64 0, .int .u64 0, .int .u64 0, .int .u64 0, .int .u64 0, .int .u64 0, .int .u64 0, .int .u64 0, .int .u64 0, .int .u64 0, .int .u64 0, .int .u64 0, .int .u64 0, .int .u64 0, .int .u64 0] 61) := ⟨_, rfl⟩
                  rw [← hx] at hb
                  have hl1 : LongAt x389 xd.heap.size false (fun _ => 0) := by rw [hx]; exact hl.1
                  rw [← hx]
                  obtain ⟨bq, hn⟩ : ∃ bq, bq = xd.heap.size := ⟨_, rfl⟩
                  rw [← hn] at hl1
                  rw [← hn]
                  have HB390 : Hid (Below wr.heap.size wr x389) := bnx HBD.out hb
                  have HF391 : Hid (LongAt x389 bq false (fun _ => 0)) := hl1
                  have HGbq : Hid (wr.heap.size ≤ bq ∧ bq = xd.heap.size) := ⟨by rw [hn]; exact HBD.out.size, hn⟩
                  clear hx hl hl1 hn hb
                  (refine hK _ _ HB390.out ?_; clear hK K; intro _)
                  try simp only [Act.put, List.setIfInBounds_toArray, List.set_cons_zero, List.set_cons_succ]
                  refine wpAnyH_ready (rs := [1, 14]) (by kernel_rfl) (by simp) ?_
                  refine AllReadyH.cons rfl (fun K hK => ?_) (AllReadyH.cons rfl (fun K hK => ?_) AllReadyH.nil)
                  · go_simp
                    refine (of_is (T : Int) x389 HTI.out).mono ?_; rintro _ x392 ⟨ra, rfl, hra, hb⟩
                    have HB393 : Hid (Below wr.heap.size wr x392) := bnx HB390.out hb
                    have HF394 : Hid (LongAt x392 bq false (fun _ => 0)) := HF391.out.stay hb
                    have HRA : Hid (IsL ra (T : Int)) := hra
                    clear hra
                    clear hb
                    (refine hK _ _ HB393.out ?_; clear hK K; intro _)
                    try simp only [Act.put, List.setIfInBounds_toArray, List.set_cons_zero, List.set_cons_succ]
                    refine wpAnyH_ready (rs := [6, 14]) (by kernel_rfl) (by simp) ?_
                    refine AllReadyH.cons rfl (fun K hK => ?_) (AllReadyH.cons rfl (fun K hK => ?_) AllReadyH.nil)
                    · go_simp
                      refine (of_is (y : Int) x392 HYI.out).mono ?_; rintro _ x395 ⟨rb, rfl, hrb, hb⟩
                      have HB396 : Hid (Below wr.heap.size wr x395) := bnx HB393.out hb
                      have HF397 : Hid (LongAt x395 bq false (fun _ => 0)) := HF394.out.stay hb
                      have HRB : Hid (IsL rb (y : Int)) := hrb
                      clear hrb
                      clear hb
                      (refine hK _ _ HB396.out ?_; clear hK K; intro _)
                      try simp only [Act.put, List.setIfInBounds_toArray, List.set_cons_zero, List.set_cons_succ]
                      refine wpAnyH_ready (rs := [7, 14]) (by kernel_rfl) (by simp) ?_
                      refine AllReadyH.cons rfl (fun K hK => ?_) (AllReadyH.cons rfl (fun K hK => ?_) AllReadyH.nil)
                      · go_simp
                        refine (times_nat ra rb T y x395 HRA.out HRB.out HNS.out.1 HNS.out.2.1).mono ?_; rintro _ x398 ⟨rp, rfl, hrp, hb⟩
                        have HB399 : Hid (Below wr.heap.size wr x398) := bnx HB396.out hb
                        have HF400 : Hid (LongAt x398 bq false (fun _ => 0)) := HF397.out.stay hb
                        have HRP : Hid (IsL rp ((T * y : Nat) : Int)) := hrp
                        clear hrp
                        clear hb
                        (refine hK _ _ HB399.out ?_; clear hK K; intro _)
                        try simp only [Act.put, List.setIfInBounds_toArray, List.set_cons_zero, List.set_cons_succ]
                        refine wpAnyH_ready (rs := [9, 14]) (by kernel_rfl) (by simp) ?_
                        refine AllReadyH.cons rfl (fun K hK => ?_) (AllReadyH.cons rfl (fun K hK => ?_) AllReadyH.nil)
                        · go_simp
                          refine (over_qr rp (.agg (LA sA dA)) (T * y) W x398 HRP.out HAL.out HNS.out.2.2.1 HNS.out.2.2.2).mono ?_; rintro _ x401 ⟨sq, dq, dr, rfl, hq, hz, hb⟩
                          have HB402 : Hid (Below wr.heap.size wr x401) := bnx HB399.out hb
                          have HF403 : Hid (LongAt x401 bq false (fun _ => 0)) := HF400.out.stay hb
                          have HQ : Hid (Dig dq ∧ sgn sq (V dq 16) = ((T * y / W : Nat) : Int)) := hq
                          have HZ : Hid (Dig dr ∧ V dr 16 = T * y % W) := hz
                          clear hq hz
                          clear hb
                          (refine hK _ _ HB402.out ?_; clear hK K; intro _)
                          try simp only [Act.put, List.setIfInBounds_toArray, List.set_cons_zero, List.set_cons_succ]
                          refine wpAnyH_take (i := 10) (oi := { dst := some 66, op := Op.move (Operand.tmp 76), type := 68, pos := "ref.go:174", after := #[{ on := 9, ground := Ground.data }], guard := none }) (v := ?_) rfl (by kernel_rfl) (by kernel_rfl) (by kernel_rfl) (fun _ _ _ h => h) (Or.inl ⟨by rfl, ?_⟩) HB402.out ?_
                          rotate_left
                          · (intro y hy; go_simp; try (with_reducible rfl))
                          simp only [Act.put, List.setIfInBounds_toArray, List.set_cons_zero, List.set_cons_succ]
                          refine wpAnyH_take (i := 11) (oi := { dst := some 77, op := Op.extract (Operand.tmp 66) 0, type := 61, pos := "ref.go:174", after := #[{ on := 10, ground := Ground.data }], guard := none }) (v := ?_) rfl (by kernel_rfl) (by kernel_rfl) (by kernel_rfl) (fun _ _ _ h => h) (Or.inl ⟨by rfl, ?_⟩) HB402.out ?_
                          rotate_left
                          · (intro y hy; go_simp; try (with_reducible rfl))
                          simp only [Act.put, List.setIfInBounds_toArray, List.set_cons_zero, List.set_cons_succ]
                          refine wpAnyH_take (i := 12) (oi := { dst := some 78, op := Op.extract (Operand.tmp 66) 1, type := 61, pos := "ref.go:174", after := #[{ on := 10, ground := Ground.data }, { on := 15, ground := Ground.gcOnly Departure.lateStores }], guard := none }) (v := ?_) rfl (by kernel_rfl) (by kernel_rfl) (by kernel_rfl) (fun _ _ _ h => h) (Or.inl ⟨by rfl, ?_⟩) HB402.out ?_
                          rotate_left
                          · (intro y hy; go_simp; try (with_reducible rfl))
                          simp only [Act.put, List.setIfInBounds_toArray, List.set_cons_zero, List.set_cons_succ]
                          refine wpAnyH_ready (rs := [14]) (by kernel_rfl) (by simp) ?_
                          refine AllReadyH.cons rfl (fun K hK => ?_) AllReadyH.nil
                          have HLT : Hid (bq < x401.heap.size) := HF403.out.lt
                          go_simp
                          have hl := lay1 x401 false (fun _ => 0)
                          have hb : Below x401.heap.size x401 (x401.alloc (.cells #[.bool false, .int .u64 0, .int .u64 0, .int .u64 0, .int .u64 0, .int .u64 0, .int .u64 0, .int .u64 0, .int .u64 0, .int .u64 0, .int .u64 0, .int .u64 0, .int .u64 0, .int .u64 0, .int .u64 0, .int .u64 0, .int .u64 0] 61)) := hl.2
                          obtain ⟨x404, hx⟩ : ∃ x404, x404 = x401.alloc (.cells #[.bool false, .int .u64 0, .int .u64 0, .int .u64 0, .int .u64 0, .int .u64 0, .int .u64 0, .int .u64 0, .int .u64 0, .int .u64 0, .int .u64 0, .int .u64 0, .int .u64 0, .int .u64 0, .int .u64 0, .int .u64 0, .int .u64 0] 61) := ⟨_, rfl⟩
                          rw [← hx] at hb
                          have hl1 : LongAt x404 x401.heap.size false (fun _ => 0) := by rw [hx]; exact hl.1
                          rw [← hx]
                          obtain ⟨bz, hn⟩ : ∃ bz, bz = x401.heap.size := ⟨_, rfl⟩
                          rw [← hn] at hl1
                          rw [← hn]
                          have HB405 : Hid (Below wr.heap.size wr x404) := bnx HB402.out hb
                          have HF407 : Hid (LongAt x404 bq false (fun _ => 0)) := HF403.out.stay hb
                          have HF406 : Hid (LongAt x404 bz false (fun _ => 0)) := hl1
                          have HGbz : Hid (wr.heap.size ≤ bz ∧ bz = x401.heap.size) := ⟨by rw [hn]; exact HB402.out.size, hn⟩
                          clear hx hl hl1 hn hb
                          have HNE : Hid (bq ≠ bz) := by have h1 := HLT.out; have h2 := HGbz.out.2; show _ ≠ _; omega
                          (refine hK _ _ HB405.out ?_; clear hK K; intro _)
                          try simp only [Act.put, List.setIfInBounds_toArray, List.set_cons_zero, List.set_cons_succ]
                          refine wpAnyH_ready (rs := [15]) (by kernel_rfl) (by simp) ?_
                          refine AllReadyH.cons rfl (fun K hK => ?_) AllReadyH.nil
                          refine step_store_longY rfl _ _ rfl HF407.out rfl rfl ?_
                          intro x408 hl hX hB
                          have HB409 : Hid (Below wr.heap.size wr x408) := hB _ _ HB405.out HGbq.out.1
                          have HF410 : Hid (LongAt x408 bq sq dq) := hl
                          have HF411 : Hid (LongAt x408 bz false (fun _ => 0)) := (hX bz (fun e => HNE.out e.symm)).trans HF406.out
                          clear hl hX hB
                          (refine hK _ _ HB409.out ?_; clear hK K; intro _)
                          try simp only [Act.put, List.setIfInBounds_toArray, List.set_cons_zero, List.set_cons_succ]
                          refine wpAnyH_ready (rs := [16]) (by kernel_rfl) (by simp) ?_
                          refine AllReadyH.cons rfl (fun K hK => ?_) AllReadyH.nil
                          refine step_store_longY rfl _ _ rfl HF411.out rfl rfl ?_
                          intro x412 hl hX hB
                          have HB413 : Hid (Below wr.heap.size wr x412) := hB _ _ HB409.out HGbz.out.1
                          have HF414 : Hid (LongAt x412 bz false dr) := hl
                          have HF415 : Hid (LongAt x412 bq sq dq) := (hX bq HNE.out).trans HF410.out
                          clear hl hX hB
                          (refine hK _ _ HB413.out ?_; clear hK K; intro _)
                          try simp only [Act.put, List.setIfInBounds_toArray, List.set_cons_zero, List.set_cons_succ]
                          refine wpAnyH_done (by kernel_rfl) ?_ _
                          go_wp2
                          go_meet
                          exact ⟨bq, bz, sq, dq, dr, rfl, rfl, ⟨HF415.out, HF414.out, HB413.out, ⟨HQ.out.1, by rw [HQ.out.2, HYE.out]; rfl⟩, ⟨HZ.out.1, by rw [HZ.out.2, HYE.out]; rfl⟩, HGbq.out.1, HGbz.out.1, HNE.out⟩⟩
                        · have HLT : Hid (bq < x398.heap.size) := HF400.out.lt
                          go_simp
                          have hl := lay1 x398 false (fun _ => 0)
                          have hb : Below x398.heap.size x398 (x398.alloc (.cells #[.bool false, .int .u64 0, .int .u64 0, .int .u64 0, .int .u64 0, .int .u64 0, .int .u64 0, .int .u64 0, .int .u64 0, .int .u64 0, .int .u64 0, .int .u64 0, .int .u64 0, .int .u64 0, .int .u64 0, .int .u64 0, .int .u64 0] 61)) := hl.2
                          obtain ⟨x416, hx⟩ : ∃ x416, x416 = x398.alloc (.cells #[.bool false, .int .u64 0, .int .u64 0, .int .u64 0, .int .u64 0, .int .u64 0, .int .u64 0, .int .u64 0, .int .u64 0, .int .u64 0, .int .u64 0, .int .u64 0, .int .u64 0, .int .u64 0, .int .u64 0, .int .u64 0, .int .u64 0] 61) := ⟨_, rfl⟩
                          rw [← hx] at hb
                          have hl1 : LongAt x416 x398.heap.size false (fun _ => 0) := by rw [hx]; exact hl.1
                          rw [← hx]
                          obtain ⟨bz, hn⟩ : ∃ bz, bz = x398.heap.size := ⟨_, rfl⟩
                          rw [← hn] at hl1
                          rw [← hn]
                          have HB417 : Hid (Below wr.heap.size wr x416) := bnx HB399.out hb
                          have HF419 : Hid (LongAt x416 bq false (fun _ => 0)) := HF400.out.stay hb
                          have HF418 : Hid (LongAt x416 bz false (fun _ => 0)) := hl1
                          have HGbz : Hid (wr.heap.size ≤ bz ∧ bz = x398.heap.size) := ⟨by rw [hn]; exact HB399.out.size, hn⟩
                          clear hx hl hl1 hn hb
                          have HNE : Hid (bq ≠ bz) := by have h1 := HLT.out; have h2 := HGbz.out.2; show _ ≠ _; omega
                          (refine hK _ _ HB417.out ?_; clear hK K; intro _)
                          try simp only [Act.put, List.setIfInBounds_toArray, List.set_cons_zero, List.set_cons_succ]
                          refine wpAnyH_ready (rs := [9]) (by kernel_rfl) (by simp) ?_
                          refine AllReadyH.cons rfl (fun K hK => ?_) AllReadyH.nil
                          go_simp
                          refine (over_qr rp (.agg (LA sA dA)) (T * y) W x416 HRP.out HAL.out HNS.out.2.2.1 HNS.out.2.2.2).mono ?_; rintro _ x420 ⟨sq, dq, dr, rfl, hq, hz, hb⟩
                          have HB421 : Hid (Below wr.heap.size wr x420) := bnx HB417.out hb
                          have HF422 : Hid (LongAt x420 bq false (fun _ => 0)) := HF419.out.stay hb
                          have HF423 : Hid (LongAt x420 bz false (fun _ => 0)) := HF418.out.stay hb
                          have HQ : Hid (Dig dq ∧ sgn sq (V dq 16) = ((T * y / W : Nat) : Int)) := hq
                          have HZ : Hid (Dig dr ∧ V dr 16 = T * y % W) := hz
                          clear hq hz
                          clear hb
                          (refine hK _ _ HB421.out ?_; clear hK K; intro _)
                          try simp only [Act.put, List.setIfInBounds_toArray, List.set_cons_zero, List.set_cons_succ]
                          refine wpAnyH_take (i := 10) (oi := { dst := some 66, op := Op.move (Operand.tmp 76), type := 68, pos := "ref.go:174", after := #[{ on := 9, ground := Ground.data }], guard := none }) (v := ?_) rfl (by kernel_rfl) (by kernel_rfl) (by kernel_rfl) (fun _ _ _ h => h) (Or.inl ⟨by rfl, ?_⟩) HB421.out ?_
                          rotate_left
                          · (intro y hy; go_simp; try (with_reducible rfl))
                          simp only [Act.put, List.setIfInBounds_toArray, List.set_cons_zero, List.set_cons_succ]
                          refine wpAnyH_take (i := 11) (oi := { dst := some 77, op := Op.extract (Operand.tmp 66) 0, type := 61, pos := "ref.go:174", after := #[{ on := 10, ground := Ground.data }], guard := none }) (v := ?_) rfl (by kernel_rfl) (by kernel_rfl) (by kernel_rfl) (fun _ _ _ h => h) (Or.inl ⟨by rfl, ?_⟩) HB421.out ?_
                          rotate_left
                          · (intro y hy; go_simp; try (with_reducible rfl))
                          simp only [Act.put, List.setIfInBounds_toArray, List.set_cons_zero, List.set_cons_succ]
                          refine wpAnyH_take (i := 12) (oi := { dst := some 78, op := Op.extract (Operand.tmp 66) 1, type := 61, pos := "ref.go:174", after := #[{ on := 10, ground := Ground.data }, { on := 15, ground := Ground.gcOnly Departure.lateStores }], guard := none }) (v := ?_) rfl (by kernel_rfl) (by kernel_rfl) (by kernel_rfl) (fun _ _ _ h => h) (Or.inl ⟨by rfl, ?_⟩) HB421.out ?_
                          rotate_left
                          · (intro y hy; go_simp; try (with_reducible rfl))
                          simp only [Act.put, List.setIfInBounds_toArray, List.set_cons_zero, List.set_cons_succ]
                          refine wpAnyH_ready (rs := [15]) (by kernel_rfl) (by simp) ?_
                          refine AllReadyH.cons rfl (fun K hK => ?_) AllReadyH.nil
                          refine step_store_longY rfl _ _ rfl HF422.out rfl rfl ?_
                          intro x424 hl hX hB
                          have HB425 : Hid (Below wr.heap.size wr x424) := hB _ _ HB421.out HGbq.out.1
                          have HF426 : Hid (LongAt x424 bq sq dq) := hl
                          have HF427 : Hid (LongAt x424 bz false (fun _ => 0)) := (hX bz (fun e => HNE.out e.symm)).trans HF423.out
                          clear hl hX hB
                          (refine hK _ _ HB425.out ?_; clear hK K; intro _)
                          try simp only [Act.put, List.setIfInBounds_toArray, List.set_cons_zero, List.set_cons_succ]
                          refine wpAnyH_ready (rs := [16]) (by kernel_rfl) (by simp) ?_
                          refine AllReadyH.cons rfl (fun K hK => ?_) AllReadyH.nil
                          refine step_store_longY rfl _ _ rfl HF427.out rfl rfl ?_
                          intro x428 hl hX hB
                          have HB429 : Hid (Below wr.heap.size wr x428) := hB _ _ HB425.out HGbz.out.1
                          have HF430 : Hid (LongAt x428 bz false dr) := hl
                          have HF431 : Hid (LongAt x428 bq sq dq) := (hX bq HNE.out).trans HF426.out
                          clear hl hX hB
                          (refine hK _ _ HB429.out ?_; clear hK K; intro _)
                          try simp only [Act.put, List.setIfInBounds_toArray, List.set_cons_zero, List.set_cons_succ]
                          refine wpAnyH_done (by kernel_rfl) ?_ _
                          go_wp2
                          go_meet
                          exact ⟨bq, bz, sq, dq, dr, rfl, rfl, ⟨HF431.out, HF430.out, HB429.out, ⟨HQ.out.1, by rw [HQ.out.2, HYE.out]; rfl⟩, ⟨HZ.out.1, by rw [HZ.out.2, HYE.out]; rfl⟩, HGbq.out.1, HGbz.out.1, HNE.out⟩⟩
                      · have HLT : Hid (bq < x395.heap.size) := HF397.out.lt
                        go_simp
                        have hl := lay1 x395 false (fun _ => 0)
                        have hb : Below x395.heap.size x395 (x395.alloc (.cells #[.bool false, .int .u64 0, .int .u64 0, .int .u64 0, .int .u64 0, .int .u64 0, .int .u64 0, .int .u64 0, .int .u64 0, .int .u64 0, .int .u64 0, .int .u64 0, .int .u64 0, .int .u64 0, .int .u64 0, .int .u64 0, .int .u64 0] 61)) := hl.2
                        obtain ⟨x432, hx⟩ : ∃ x432, x432 = x395.alloc (.cells #[.bool false, .int .u64 0, .int .u64 0, .int .u64 0, .int .u64 0, .int .u64 0, .int .u64 0, .int .u64 0, .int .u64 0, .int .u64 0, .int .u64 0, .int .u64 0, .int .u64 0, .int .u64 0, .int .u64 0, .int .u64 0, .int .u64 0] 61) := ⟨_, rfl⟩
                        rw [← hx] at hb
                        have hl1 : LongAt x432 x395.heap.size false (fun _ => 0) := by rw [hx]; exact hl.1
                        rw [← hx]
                        obtain ⟨bz, hn⟩ : ∃ bz, bz = x395.heap.size := ⟨_, rfl⟩
                        rw [← hn] at hl1
                        rw [← hn]
                        have HB433 : Hid (Below wr.heap.size wr x432) := bnx HB396.out hb
                        have HF435 : Hid (LongAt x432 bq false (fun _ => 0)) := HF397.out.stay hb
                        have HF434 : Hid (LongAt x432 bz false (fun _ => 0)) := hl1
                        have HGbz : Hid (wr.heap.size ≤ bz ∧ bz = x395.heap.size) := ⟨by rw [hn]; exact HB396.out.size, hn⟩
                        clear hx hl hl1 hn hb
                        have HNE : Hid (bq ≠ bz) := by have h1 := HLT.out; have h2 := HGbz.out.2; show _ ≠ _; omega
                        (refine hK _ _ HB433.out ?_; clear hK K; intro _)
                        try simp only [Act.put, List.setIfInBounds_toArray, List.set_cons_zero, List.set_cons_succ]
                        refine wpAnyH_ready (rs := [7]) (by kernel_rfl) (by simp) ?_
                        refine AllReadyH.cons rfl (fun K hK => ?_) AllReadyH.nil
                        go_simp
                        refine (times_nat ra rb T y x432 HRA.out HRB.out HNS.out.1 HNS.out.2.1).mono ?_; rintro _ x436 ⟨rp, rfl, hrp, hb⟩
                        have HB437 : Hid (Below wr.heap.size wr x436) := bnx HB433.out hb
                        have HF438 : Hid (LongAt x436 bq false (fun _ => 0)) := HF435.out.stay hb
                        have HF439 : Hid (LongAt x436 bz false (fun _ => 0)) := HF434.out.stay hb
                        have HRP : Hid (IsL rp ((T * y : Nat) : Int)) := hrp
                        clear hrp
                        clear hb
                        (refine hK _ _ HB437.out ?_; clear hK K; intro _)
                        try simp only [Act.put, List.setIfInBounds_toArray, List.set_cons_zero, List.set_cons_succ]
                        refine wpAnyH_ready (rs := [9]) (by kernel_rfl) (by simp) ?_
                        refine AllReadyH.cons rfl (fun K hK => ?_) AllReadyH.nil
                        go_simp
                        refine (over_qr rp (.agg (LA sA dA)) (T * y) W x436 HRP.out HAL.out HNS.out.2.2.1 HNS.out.2.2.2).mono ?_; rintro _ x440 ⟨sq, dq, dr, rfl, hq, hz, hb⟩
                        have HB441 : Hid (Below wr.heap.size wr x440) := bnx HB437.out hb
                        have HF442 : Hid (LongAt x440 bq false (fun _ => 0)) := HF438.out.stay hb
                        have HF443 : Hid (LongAt x440 bz false (fun _ => 0)) := HF439.out.stay hb
                        have HQ : Hid (Dig dq ∧ sgn sq (V dq 16) = ((T * y / W : Nat) : Int)) := hq
                        have HZ : Hid (Dig dr ∧ V dr 16 = T * y % W) := hz
                        clear hq hz
                        clear hb
                        (refine hK _ _ HB441.out ?_; clear hK K; intro _)
                        try simp only [Act.put, List.setIfInBounds_toArray, List.set_cons_zero, List.set_cons_succ]
                        refine wpAnyH_take (i := 10) (oi := { dst := some 66, op := Op.move (Operand.tmp 76), type := 68, pos := "ref.go:174", after := #[{ on := 9, ground := Ground.data }], guard := none }) (v := ?_) rfl (by kernel_rfl) (by kernel_rfl) (by kernel_rfl) (fun _ _ _ h => h) (Or.inl ⟨by rfl, ?_⟩) HB441.out ?_
                        rotate_left
                        · (intro y hy; go_simp; try (with_reducible rfl))
                        simp only [Act.put, List.setIfInBounds_toArray, List.set_cons_zero, List.set_cons_succ]
                        refine wpAnyH_take (i := 11) (oi := { dst := some 77, op := Op.extract (Operand.tmp 66) 0, type := 61, pos := "ref.go:174", after := #[{ on := 10, ground := Ground.data }], guard := none }) (v := ?_) rfl (by kernel_rfl) (by kernel_rfl) (by kernel_rfl) (fun _ _ _ h => h) (Or.inl ⟨by rfl, ?_⟩) HB441.out ?_
                        rotate_left
                        · (intro y hy; go_simp; try (with_reducible rfl))
                        simp only [Act.put, List.setIfInBounds_toArray, List.set_cons_zero, List.set_cons_succ]
                        refine wpAnyH_take (i := 12) (oi := { dst := some 78, op := Op.extract (Operand.tmp 66) 1, type := 61, pos := "ref.go:174", after := #[{ on := 10, ground := Ground.data }, { on := 15, ground := Ground.gcOnly Departure.lateStores }], guard := none }) (v := ?_) rfl (by kernel_rfl) (by kernel_rfl) (by kernel_rfl) (fun _ _ _ h => h) (Or.inl ⟨by rfl, ?_⟩) HB441.out ?_
                        rotate_left
                        · (intro y hy; go_simp; try (with_reducible rfl))
                        simp only [Act.put, List.setIfInBounds_toArray, List.set_cons_zero, List.set_cons_succ]
                        refine wpAnyH_ready (rs := [15]) (by kernel_rfl) (by simp) ?_
                        refine AllReadyH.cons rfl (fun K hK => ?_) AllReadyH.nil
                        refine step_store_longY rfl _ _ rfl HF442.out rfl rfl ?_
                        intro x444 hl hX hB
                        have HB445 : Hid (Below wr.heap.size wr x444) := hB _ _ HB441.out HGbq.out.1
                        have HF446 : Hid (LongAt x444 bq sq dq) := hl
                        have HF447 : Hid (LongAt x444 bz false (fun _ => 0)) := (hX bz (fun e => HNE.out e.symm)).trans HF443.out
                        clear hl hX hB
                        (refine hK _ _ HB445.out ?_; clear hK K; intro _)
                        try simp only [Act.put, List.setIfInBounds_toArray, List.set_cons_zero, List.set_cons_succ]
                        refine wpAnyH_ready (rs := [16]) (by kernel_rfl) (by simp) ?_
                        refine AllReadyH.cons rfl (fun K hK => ?_) AllReadyH.nil
                        refine step_store_longY rfl _ _ rfl HF447.out rfl rfl ?_
                        intro x448 hl hX hB
                        have HB449 : Hid (Below wr.heap.size wr x448) := hB _ _ HB445.out HGbz.out.1
                        have HF450 : Hid (LongAt x448 bz false dr) := hl
                        have HF451 : Hid (LongAt x448 bq sq dq) := (hX bq HNE.out).trans HF446.out
                        clear hl hX hB
                        (refine hK _ _ HB449.out ?_; clear hK K; intro _)
                        try simp only [Act.put, List.setIfInBounds_toArray, List.set_cons_zero, List.set_cons_succ]
                        refine wpAnyH_done (by kernel_rfl) ?_ _
                        go_wp2
                        go_meet
                        exact ⟨bq, bz, sq, dq, dr, rfl, rfl, ⟨HF451.out, HF450.out, HB449.out, ⟨HQ.out.1, by rw [HQ.out.2, HYE.out]; rfl⟩, ⟨HZ.out.1, by rw [HZ.out.2, HYE.out]; rfl⟩, HGbq.out.1, HGbz.out.1, HNE.out⟩⟩
                    · have HLT : Hid (bq < x392.heap.size) := HF394.out.lt
                      go_simp
                      have hl := lay1 x392 false (fun _ => 0)
                      have hb : Below x392.heap.size x392 (x392.alloc (.cells #[.bool false, .int .u64 0, .int .u64 0, .int .u64 0, .int .u64 0, .int .u64 0, .int .u64 0, .int .u64 0, .int .u64 0, .int .u64 0, .int .u64 0, .int .u64 0, .int .u64 0, .int .u64 0, .int .u64 0, .int .u64 0, .int .u64 0] 61)) := hl.2
                      obtain ⟨x452, hx⟩ : ∃ x452, x452 = x392.alloc (.cells #[.bool false, .int .u64 0, .int .u64 0, .int .u64 0, .int .u64 0, .int .u64 0, .int .u64 0, .int .u64 0, .int .u64 0, .int .u64 0, .int .u64 0, .int .u64 0, .int .u64 0, .int .u64 0, .int .u64 0, .int .u64 0, .int .u64 0] 61) := ⟨_, rfl⟩
                      rw [← hx] at hb
                      have hl1 : LongAt x452 x392.heap.size false (fun _ => 0) := by rw [hx]; exact hl.1
                      rw [← hx]
                      obtain ⟨bz, hn⟩ : ∃ bz, bz = x392.heap.size := ⟨_, rfl⟩
                      rw [← hn] at hl1
                      rw [← hn]
                      have HB453 : Hid (Below wr.heap.size wr x452) := bnx HB393.out hb
                      have HF455 : Hid (LongAt x452 bq false (fun _ => 0)) := HF394.out.stay hb
                      have HF454 : Hid (LongAt x452 bz false (fun _ => 0)) := hl1
                      have HGbz : Hid (wr.heap.size ≤ bz ∧ bz = x392.heap.size) := ⟨by rw [hn]; exact HB393.out.size, hn⟩
                      clear hx hl hl1 hn hb
                      have HNE : Hid (bq ≠ bz) := by have h1 := HLT.out; have h2 := HGbz.out.2; show _ ≠ _; omega
                      (refine hK _ _ HB453.out ?_; clear hK K; intro _)
                      try simp only [Act.put, List.setIfInBounds_toArray, List.set_cons_zero, List.set_cons_succ]
                      refine wpAnyH_ready (rs := [6]) (by kernel_rfl) (by simp) ?_
                      refine AllReadyH.cons rfl (fun K hK => ?_) AllReadyH.nil
                      go_simp
                      refine (of_is (y : Int) x452 HYI.out).mono ?_; rintro _ x456 ⟨rb, rfl, hrb, hb⟩
                      have HB457 : Hid (Below wr.heap.size wr x456) := bnx HB453.out hb
                      have HF458 : Hid (LongAt x456 bq false (fun _ => 0)) := HF455.out.stay hb
                      have HF459 : Hid (LongAt x456 bz false (fun _ => 0)) := HF454.out.stay hb
                      have HRB : Hid (IsL rb (y : Int)) := hrb
                      clear hrb
                      clear hb
                      (refine hK _ _ HB457.out ?_; clear hK K; intro _)
                      try simp only [Act.put, List.setIfInBounds_toArray, List.set_cons_zero, List.set_cons_succ]
                      refine wpAnyH_ready (rs := [7]) (by kernel_rfl) (by simp) ?_
                      refine AllReadyH.cons rfl (fun K hK => ?_) AllReadyH.nil
                      go_simp
                      refine (times_nat ra rb T y x456 HRA.out HRB.out HNS.out.1 HNS.out.2.1).mono ?_; rintro _ x460 ⟨rp, rfl, hrp, hb⟩
                      have HB461 : Hid (Below wr.heap.size wr x460) := bnx HB457.out hb
                      have HF462 : Hid (LongAt x460 bq false (fun _ => 0)) := HF458.out.stay hb
                      have HF463 : Hid (LongAt x460 bz false (fun _ => 0)) := HF459.out.stay hb
                      have HRP : Hid (IsL rp ((T * y : Nat) : Int)) := hrp
                      clear hrp
                      clear hb
                      (refine hK _ _ HB461.out ?_; clear hK K; intro _)
                      try simp only [Act.put, List.setIfInBounds_toArray, List.set_cons_zero, List.set_cons_succ]
                      refine wpAnyH_ready (rs := [9]) (by kernel_rfl) (by simp) ?_
                      refine AllReadyH.cons rfl (fun K hK => ?_) AllReadyH.nil
                      go_simp
                      refine (over_qr rp (.agg (LA sA dA)) (T * y) W x460 HRP.out HAL.out HNS.out.2.2.1 HNS.out.2.2.2).mono ?_; rintro _ x464 ⟨sq, dq, dr, rfl, hq, hz, hb⟩
                      have HB465 : Hid (Below wr.heap.size wr x464) := bnx HB461.out hb
                      have HF466 : Hid (LongAt x464 bq false (fun _ => 0)) := HF462.out.stay hb
                      have HF467 : Hid (LongAt x464 bz false (fun _ => 0)) := HF463.out.stay hb
                      have HQ : Hid (Dig dq ∧ sgn sq (V dq 16) = ((T * y / W : Nat) : Int)) := hq
                      have HZ : Hid (Dig dr ∧ V dr 16 = T * y % W) := hz
                      clear hq hz
                      clear hb
                      (refine hK _ _ HB465.out ?_; clear hK K; intro _)
                      try simp only [Act.put, List.setIfInBounds_toArray, List.set_cons_zero, List.set_cons_succ]
                      refine wpAnyH_take (i := 10) (oi := { dst := some 66, op := Op.move (Operand.tmp 76), type := 68, pos := "ref.go:174", after := #[{ on := 9, ground := Ground.data }], guard := none }) (v := ?_) rfl (by kernel_rfl) (by kernel_rfl) (by kernel_rfl) (fun _ _ _ h => h) (Or.inl ⟨by rfl, ?_⟩) HB465.out ?_
                      rotate_left
                      · (intro y hy; go_simp; try (with_reducible rfl))
                      simp only [Act.put, List.setIfInBounds_toArray, List.set_cons_zero, List.set_cons_succ]
                      refine wpAnyH_take (i := 11) (oi := { dst := some 77, op := Op.extract (Operand.tmp 66) 0, type := 61, pos := "ref.go:174", after := #[{ on := 10, ground := Ground.data }], guard := none }) (v := ?_) rfl (by kernel_rfl) (by kernel_rfl) (by kernel_rfl) (fun _ _ _ h => h) (Or.inl ⟨by rfl, ?_⟩) HB465.out ?_
                      rotate_left
                      · (intro y hy; go_simp; try (with_reducible rfl))
                      simp only [Act.put, List.setIfInBounds_toArray, List.set_cons_zero, List.set_cons_succ]
                      refine wpAnyH_take (i := 12) (oi := { dst := some 78, op := Op.extract (Operand.tmp 66) 1, type := 61, pos := "ref.go:174", after := #[{ on := 10, ground := Ground.data }, { on := 15, ground := Ground.gcOnly Departure.lateStores }], guard := none }) (v := ?_) rfl (by kernel_rfl) (by kernel_rfl) (by kernel_rfl) (fun _ _ _ h => h) (Or.inl ⟨by rfl, ?_⟩) HB465.out ?_
                      rotate_left
                      · (intro y hy; go_simp; try (with_reducible rfl))
                      simp only [Act.put, List.setIfInBounds_toArray, List.set_cons_zero, List.set_cons_succ]
                      refine wpAnyH_ready (rs := [15]) (by kernel_rfl) (by simp) ?_
                      refine AllReadyH.cons rfl (fun K hK => ?_) AllReadyH.nil
                      refine step_store_longY rfl _ _ rfl HF466.out rfl rfl ?_
                      intro x468 hl hX hB
                      have HB469 : Hid (Below wr.heap.size wr x468) := hB _ _ HB465.out HGbq.out.1
                      have HF470 : Hid (LongAt x468 bq sq dq) := hl
                      have HF471 : Hid (LongAt x468 bz false (fun _ => 0)) := (hX bz (fun e => HNE.out e.symm)).trans HF467.out
                      clear hl hX hB
                      (refine hK _ _ HB469.out ?_; clear hK K; intro _)
                      try simp only [Act.put, List.setIfInBounds_toArray, List.set_cons_zero, List.set_cons_succ]
                      refine wpAnyH_ready (rs := [16]) (by kernel_rfl) (by simp) ?_
                      refine AllReadyH.cons rfl (fun K hK => ?_) AllReadyH.nil
                      refine step_store_longY rfl _ _ rfl HF471.out rfl rfl ?_
                      intro x472 hl hX hB
                      have HB473 : Hid (Below wr.heap.size wr x472) := hB _ _ HB469.out HGbz.out.1
                      have HF474 : Hid (LongAt x472 bz false dr) := hl
                      have HF475 : Hid (LongAt x472 bq sq dq) := (hX bq HNE.out).trans HF470.out
                      clear hl hX hB
                      (refine hK _ _ HB473.out ?_; clear hK K; intro _)
                      try simp only [Act.put, List.setIfInBounds_toArray, List.set_cons_zero, List.set_cons_succ]
                      refine wpAnyH_done (by kernel_rfl) ?_ _
                      go_wp2
                      go_meet
                      exact ⟨bq, bz, sq, dq, dr, rfl, rfl, ⟨HF475.out, HF474.out, HB473.out, ⟨HQ.out.1, by rw [HQ.out.2, HYE.out]; rfl⟩, ⟨HZ.out.1, by rw [HZ.out.2, HYE.out]; rfl⟩, HGbq.out.1, HGbz.out.1, HNE.out⟩⟩
                  · have HLT : Hid (bq < x389.heap.size) := HF391.out.lt
                    go_simp
                    have hl := lay1 x389 false (fun _ => 0)
                    have hb : Below x389.heap.size x389 (x389.alloc (.cells #[.bool false, .int .u64 0, .int .u64 0, .int .u64 0, .int .u64 0, .int .u64 0, .int .u64 0, .int .u64 0, .int .u64 0, .int .u64 0, .int .u64 0, .int .u64 0, .int .u64 0, .int .u64 0, .int .u64 0, .int .u64 0, .int .u64 0] 61)) := hl.2
                    obtain ⟨x476, hx⟩ : ∃ x476, x476 = x389.alloc (.cells #[.bool false, .int .u64 0, .int .u64 0, .int .u64 0, .int .u64 0, .int .u64 0, .int .u64 0, .int .u64 0, .int .u64 0, .int .u64 0, .int .u64 0, .int .u64 0, .int .u64 0, .int .u64 0, .int .u64 0, .int .u64 0, .int .u64 0] 61) := ⟨_, rfl⟩
                    rw [← hx] at hb
                    have hl1 : LongAt x476 x389.heap.size false (fun _ => 0) := by rw [hx]; exact hl.1
                    rw [← hx]
                    obtain ⟨bz, hn⟩ : ∃ bz, bz = x389.heap.size := ⟨_, rfl⟩
                    rw [← hn] at hl1
                    rw [← hn]
                    have HB477 : Hid (Below wr.heap.size wr x476) := bnx HB390.out hb
                    have HF479 : Hid (LongAt x476 bq false (fun _ => 0)) := HF391.out.stay hb
                    have HF478 : Hid (LongAt x476 bz false (fun _ => 0)) := hl1
                    have HGbz : Hid (wr.heap.size ≤ bz ∧ bz = x389.heap.size) := ⟨by rw [hn]; exact HB390.out.size, hn⟩
                    clear hx hl hl1 hn hb
                    have HNE : Hid (bq ≠ bz) := by have h1 := HLT.out; have h2 := HGbz.out.2; show _ ≠ _; omega
                    (refine hK _ _ HB477.out ?_; clear hK K; intro _)
                    try simp only [Act.put, List.setIfInBounds_toArray, List.set_cons_zero, List.set_cons_succ]
                    refine wpAnyH_ready (rs := [1]) (by kernel_rfl) (by simp) ?_
                    refine AllReadyH.cons rfl (fun K hK => ?_) AllReadyH.nil
                    go_simp
                    refine (of_is (T : Int) x476 HTI.out).mono ?_; rintro _ x480 ⟨ra, rfl, hra, hb⟩
                    have HB481 : Hid (Below wr.heap.size wr x480) := bnx HB477.out hb
                    have HF482 : Hid (LongAt x480 bq false (fun _ => 0)) := HF479.out.stay hb
                    have HF483 : Hid (LongAt x480 bz false (fun _ => 0)) := HF478.out.stay hb
                    have HRA : Hid (IsL ra (T : Int)) := hra
                    clear hra
                    clear hb
                    (refine hK _ _ HB481.out ?_; clear hK K; intro _)
                    try simp only [Act.put, List.setIfInBounds_toArray, List.set_cons_zero, List.set_cons_succ]
                    refine wpAnyH_ready (rs := [6]) (by kernel_rfl) (by simp) ?_
                    refine AllReadyH.cons rfl (fun K hK => ?_) AllReadyH.nil
                    go_simp
                    refine (of_is (y : Int) x480 HYI.out).mono ?_; rintro _ x484 ⟨rb, rfl, hrb, hb⟩
                    have HB485 : Hid (Below wr.heap.size wr x484) := bnx HB481.out hb
                    have HF486 : Hid (LongAt x484 bq false (fun _ => 0)) := HF482.out.stay hb
                    have HF487 : Hid (LongAt x484 bz false (fun _ => 0)) := HF483.out.stay hb
                    have HRB : Hid (IsL rb (y : Int)) := hrb
                    clear hrb
                    clear hb
                    (refine hK _ _ HB485.out ?_; clear hK K; intro _)
                    try simp only [Act.put, List.setIfInBounds_toArray, List.set_cons_zero, List.set_cons_succ]
                    refine wpAnyH_ready (rs := [7]) (by kernel_rfl) (by simp) ?_
                    refine AllReadyH.cons rfl (fun K hK => ?_) AllReadyH.nil
                    go_simp
                    refine (times_nat ra rb T y x484 HRA.out HRB.out HNS.out.1 HNS.out.2.1).mono ?_; rintro _ x488 ⟨rp, rfl, hrp, hb⟩
                    have HB489 : Hid (Below wr.heap.size wr x488) := bnx HB485.out hb
                    have HF490 : Hid (LongAt x488 bq false (fun _ => 0)) := HF486.out.stay hb
                    have HF491 : Hid (LongAt x488 bz false (fun _ => 0)) := HF487.out.stay hb
                    have HRP : Hid (IsL rp ((T * y : Nat) : Int)) := hrp
                    clear hrp
                    clear hb
                    (refine hK _ _ HB489.out ?_; clear hK K; intro _)
                    try simp only [Act.put, List.setIfInBounds_toArray, List.set_cons_zero, List.set_cons_succ]
                    refine wpAnyH_ready (rs := [9]) (by kernel_rfl) (by simp) ?_
                    refine AllReadyH.cons rfl (fun K hK => ?_) AllReadyH.nil
                    go_simp
                    refine (over_qr rp (.agg (LA sA dA)) (T * y) W x488 HRP.out HAL.out HNS.out.2.2.1 HNS.out.2.2.2).mono ?_; rintro _ x492 ⟨sq, dq, dr, rfl, hq, hz, hb⟩
                    have HB493 : Hid (Below wr.heap.size wr x492) := bnx HB489.out hb
                    have HF494 : Hid (LongAt x492 bq false (fun _ => 0)) := HF490.out.stay hb
                    have HF495 : Hid (LongAt x492 bz false (fun _ => 0)) := HF491.out.stay hb
                    have HQ : Hid (Dig dq ∧ sgn sq (V dq 16) = ((T * y / W : Nat) : Int)) := hq
                    have HZ : Hid (Dig dr ∧ V dr 16 = T * y % W) := hz
                    clear hq hz
                    clear hb
                    (refine hK _ _ HB493.out ?_; clear hK K; intro _)
                    try simp only [Act.put, List.setIfInBounds_toArray, List.set_cons_zero, List.set_cons_succ]
                    refine wpAnyH_take (i := 10) (oi := { dst := some 66, op := Op.move (Operand.tmp 76), type := 68, pos := "ref.go:174", after := #[{ on := 9, ground := Ground.data }], guard := none }) (v := ?_) rfl (by kernel_rfl) (by kernel_rfl) (by kernel_rfl) (fun _ _ _ h => h) (Or.inl ⟨by rfl, ?_⟩) HB493.out ?_
                    rotate_left
                    · (intro y hy; go_simp; try (with_reducible rfl))
                    simp only [Act.put, List.setIfInBounds_toArray, List.set_cons_zero, List.set_cons_succ]
                    refine wpAnyH_take (i := 11) (oi := { dst := some 77, op := Op.extract (Operand.tmp 66) 0, type := 61, pos := "ref.go:174", after := #[{ on := 10, ground := Ground.data }], guard := none }) (v := ?_) rfl (by kernel_rfl) (by kernel_rfl) (by kernel_rfl) (fun _ _ _ h => h) (Or.inl ⟨by rfl, ?_⟩) HB493.out ?_
                    rotate_left
                    · (intro y hy; go_simp; try (with_reducible rfl))
                    simp only [Act.put, List.setIfInBounds_toArray, List.set_cons_zero, List.set_cons_succ]
                    refine wpAnyH_take (i := 12) (oi := { dst := some 78, op := Op.extract (Operand.tmp 66) 1, type := 61, pos := "ref.go:174", after := #[{ on := 10, ground := Ground.data }, { on := 15, ground := Ground.gcOnly Departure.lateStores }], guard := none }) (v := ?_) rfl (by kernel_rfl) (by kernel_rfl) (by kernel_rfl) (fun _ _ _ h => h) (Or.inl ⟨by rfl, ?_⟩) HB493.out ?_
                    rotate_left
                    · (intro y hy; go_simp; try (with_reducible rfl))
                    simp only [Act.put, List.setIfInBounds_toArray, List.set_cons_zero, List.set_cons_succ]
                    refine wpAnyH_ready (rs := [15]) (by kernel_rfl) (by simp) ?_
                    refine AllReadyH.cons rfl (fun K hK => ?_) AllReadyH.nil
                    refine step_store_longY rfl _ _ rfl HF494.out rfl rfl ?_
                    intro x496 hl hX hB
                    have HB497 : Hid (Below wr.heap.size wr x496) := hB _ _ HB493.out HGbq.out.1
                    have HF498 : Hid (LongAt x496 bq sq dq) := hl
                    have HF499 : Hid (LongAt x496 bz false (fun _ => 0)) := (hX bz (fun e => HNE.out e.symm)).trans HF495.out
                    clear hl hX hB
                    (refine hK _ _ HB497.out ?_; clear hK K; intro _)
                    try simp only [Act.put, List.setIfInBounds_toArray, List.set_cons_zero, List.set_cons_succ]
                    refine wpAnyH_ready (rs := [16]) (by kernel_rfl) (by simp) ?_
                    refine AllReadyH.cons rfl (fun K hK => ?_) AllReadyH.nil
                    refine step_store_longY rfl _ _ rfl HF499.out rfl rfl ?_
                    intro x500 hl hX hB
                    have HB501 : Hid (Below wr.heap.size wr x500) := hB _ _ HB497.out HGbz.out.1
                    have HF502 : Hid (LongAt x500 bz false dr) := hl
                    have HF503 : Hid (LongAt x500 bq sq dq) := (hX bq HNE.out).trans HF498.out
                    clear hl hX hB
                    (refine hK _ _ HB501.out ?_; clear hK K; intro _)
                    try simp only [Act.put, List.setIfInBounds_toArray, List.set_cons_zero, List.set_cons_succ]
                    refine wpAnyH_done (by kernel_rfl) ?_ _
                    go_wp2
                    go_meet
                    exact ⟨bq, bz, sq, dq, dr, rfl, rfl, ⟨HF503.out, HF502.out, HB501.out, ⟨HQ.out.1, by rw [HQ.out.2, HYE.out]; rfl⟩, ⟨HZ.out.1, by rw [HZ.out.2, HYE.out]; rfl⟩, HGbq.out.1, HGbz.out.1, HNE.out⟩⟩
                · go_simp
                  have hl := lay1 xd false (fun _ => 0)
                  have hb : Below xd.heap.size xd (xd.alloc (.cells #[.bool false, .int .u64 0, .int .u64 0, .int .u64 0, .int .u64 0, .int .u64 0, .int .u64 0, .int .u64 0, .int .u64 0, .int .u64 0, .int .u64 0, .int .u64 0, .int .u64 0, .int .u64 0, .int .u64 0, .int .u64 0, .int .u64 0] 61)) := hl.2
                  obtain ⟨x504, hx⟩ : ∃ x504, x504 = xd.alloc (.cells #[.bool false, .int .u64 0, .int .u64 0, .int .u64 0, .int .u64 0, .int .u64 0, .int .u64 0, .int .u64 0, .int .u64 0, .int .u64 0, .int .u64 0, .int .u64 0, .int .u64 0, .int .u64 0, .int .u64 0, .int .u64 0, .int .u64 0] 61) := ⟨_, rfl⟩
                  rw [← hx] at hb
                  have hl1 : LongAt x504 xd.heap.size false (fun _ => 0) := by rw [hx]; exact hl.1
                  rw [← hx]
                  obtain ⟨bz, hn⟩ : ∃ bz, bz = xd.heap.size := ⟨_, rfl⟩
                  rw [← hn] at hl1
                  rw [← hn]
                  have HB505 : Hid (Below wr.heap.size wr x504) := bnx HBD.out hb
                  have HF506 : Hid (LongAt x504 bz false (fun _ => 0)) := hl1
                  have HGbz : Hid (wr.heap.size ≤ bz ∧ bz = xd.heap.size) := ⟨by rw [hn]; exact HBD.out.size, hn⟩
                  clear hx hl hl1 hn hb
                  (refine hK _ _ HB505.out ?_; clear hK K; intro _)
                  try simp only [Act.put, List.setIfInBounds_toArray, List.set_cons_zero, List.set_cons_succ]
                  refine wpAnyH_ready (rs := [1, 13]) (by kernel_rfl) (by simp) ?_
                  refine AllReadyH.cons rfl (fun K hK => ?_) (AllReadyH.cons rfl (fun K hK => ?_) AllReadyH.nil)
                  · go_simp
                    refine (of_is (T : Int) x504 HTI.out).mono ?_; rintro _ x507 ⟨ra, rfl, hra, hb⟩
                    have HB508 : Hid (Below wr.heap.size wr x507) := bnx HB505.out hb
                    have HF509 : Hid (LongAt x507 bz false (fun _ => 0)) := HF506.out.stay hb
                    have HRA : Hid (IsL ra (T : Int)) := hra
                    clear hra
                    clear hb
                    (refine hK _ _ HB508.out ?_; clear hK K; intro _)
                    try simp only [Act.put, List.setIfInBounds_toArray, List.set_cons_zero, List.set_cons_succ]
                    refine wpAnyH_ready (rs := [6, 13]) (by kernel_rfl) (by simp) ?_
                    refine AllReadyH.cons rfl (fun K hK => ?_) (AllReadyH.cons rfl (fun K hK => ?_) AllReadyH.nil)
                    · go_simp
                      refine (of_is (y : Int) x507 HYI.out).mono ?_; rintro _ x510 ⟨rb, rfl, hrb, hb⟩
                      have HB511 : Hid (Below wr.heap.size wr x510) := bnx HB508.out hb
                      have HF512 : Hid (LongAt x510 bz false (fun _ => 0)) := HF509.out.stay hb
                      have HRB : Hid (IsL rb (y : Int)) := hrb
                      clear hrb
                      clear hb
                      (refine hK _ _ HB511.out ?_; clear hK K; intro _)
                      try simp only [Act.put, List.setIfInBounds_toArray, List.set_cons_zero, List.set_cons_succ]
                      refine wpAnyH_ready (rs := [7, 13]) (by kernel_rfl) (by simp) ?_
                      refine AllReadyH.cons rfl (fun K hK => ?_) (AllReadyH.cons rfl (fun K hK => ?_) AllReadyH.nil)
                      · go_simp
                        refine (times_nat ra rb T y x510 HRA.out HRB.out HNS.out.1 HNS.out.2.1).mono ?_; rintro _ x513 ⟨rp, rfl, hrp, hb⟩
                        have HB514 : Hid (Below wr.heap.size wr x513) := bnx HB511.out hb
                        have HF515 : Hid (LongAt x513 bz false (fun _ => 0)) := HF512.out.stay hb
                        have HRP : Hid (IsL rp ((T * y : Nat) : Int)) := hrp
                        clear hrp
                        clear hb
                        (refine hK _ _ HB514.out ?_; clear hK K; intro _)
                        try simp only [Act.put, List.setIfInBounds_toArray, List.set_cons_zero, List.set_cons_succ]
                        refine wpAnyH_ready (rs := [9, 13]) (by kernel_rfl) (by simp) ?_
                        refine AllReadyH.cons rfl (fun K hK => ?_) (AllReadyH.cons rfl (fun K hK => ?_) AllReadyH.nil)
                        · go_simp
                          refine (over_qr rp (.agg (LA sA dA)) (T * y) W x513 HRP.out HAL.out HNS.out.2.2.1 HNS.out.2.2.2).mono ?_; rintro _ x516 ⟨sq, dq, dr, rfl, hq, hz, hb⟩
                          have HB517 : Hid (Below wr.heap.size wr x516) := bnx HB514.out hb
                          have HF518 : Hid (LongAt x516 bz false (fun _ => 0)) := HF515.out.stay hb
                          have HQ : Hid (Dig dq ∧ sgn sq (V dq 16) = ((T * y / W : Nat) : Int)) := hq
                          have HZ : Hid (Dig dr ∧ V dr 16 = T * y % W) := hz
                          clear hq hz
                          clear hb
                          (refine hK _ _ HB517.out ?_; clear hK K; intro _)
                          try simp only [Act.put, List.setIfInBounds_toArray, List.set_cons_zero, List.set_cons_succ]
                          refine wpAnyH_take (i := 10) (oi := { dst := some 66, op := Op.move (Operand.tmp 76), type := 68, pos := "ref.go:174", after := #[{ on := 9, ground := Ground.data }], guard := none }) (v := ?_) rfl (by kernel_rfl) (by kernel_rfl) (by kernel_rfl) (fun _ _ _ h => h) (Or.inl ⟨by rfl, ?_⟩) HB517.out ?_
                          rotate_left
                          · (intro y hy; go_simp; try (with_reducible rfl))
                          simp only [Act.put, List.setIfInBounds_toArray, List.set_cons_zero, List.set_cons_succ]
                          refine wpAnyH_take (i := 11) (oi := { dst := some 77, op := Op.extract (Operand.tmp 66) 0, type := 61, pos := "ref.go:174", after := #[{ on := 10, ground := Ground.data }], guard := none }) (v := ?_) rfl (by kernel_rfl) (by kernel_rfl) (by kernel_rfl) (fun _ _ _ h => h) (Or.inl ⟨by rfl, ?_⟩) HB517.out ?_
                          rotate_left
                          · (intro y hy; go_simp; try (with_reducible rfl))
                          simp only [Act.put, List.setIfInBounds_toArray, List.set_cons_zero, List.set_cons_succ]
                          refine wpAnyH_take (i := 12) (oi := { dst := some 78, op := Op.extract (Operand.tmp 66) 1, type := 61, pos := "ref.go:174", after := #[{ on := 10, ground := Ground.data }, { on := 15, ground := Ground.gcOnly Departure.lateStores }], guard := none }) (v := ?_) rfl (by kernel_rfl) (by kernel_rfl) (by kernel_rfl) (fun _ _ _ h => h) (Or.inl ⟨by rfl, ?_⟩) HB517.out ?_
                          rotate_left
                          · (intro y hy; go_simp; try (with_reducible rfl))
                          simp only [Act.put, List.setIfInBounds_toArray, List.set_cons_zero, List.set_cons_succ]
                          refine wpAnyH_ready (rs := [13]) (by kernel_rfl) (by simp) ?_
                          refine AllReadyH.cons rfl (fun K hK => ?_) AllReadyH.nil
                          have HLT : Hid (bz < x516.heap.size) := HF518.out.lt
                          go_simp
                          have hl := lay1 x516 false (fun _ => 0)
                          have hb : Below x516.heap.size x516 (x516.alloc (.cells #[.bool false, .int .u64 0, .int .u64 0, .int .u64 0, .int .u64 0, .int .u64 0, .int .u64 0, .int .u64 0, .int .u64 0, .int .u64 0, .int .u64 0, .int .u64 0, .int .u64 0, .int .u64 0, .int .u64 0, .int .u64 0, .int .u64 0] 61)) := hl.2
                          obtain ⟨x519, hx⟩ : ∃ x519, x519 = x516.alloc (.cells #[.bool false, .int .u64 0, .int .u64 0, .int .u64 0, .int .u64 0, .int .u64 0, .int .u64 0, .int .u64 0, .int .u64 0, .int .u64 0, .int .u64 0, .int .u64 0, .int .u64 0, .int .u64 0, .int .u64 0, .int .u64 0, .int .u64 0] 61) := ⟨_, rfl⟩
                          rw [← hx] at hb
                          have hl1 : LongAt x519 x516.heap.size false (fun _ => 0) := by rw [hx]; exact hl.1
                          rw [← hx]
                          obtain ⟨bq, hn⟩ : ∃ bq, bq = x516.heap.size := ⟨_, rfl⟩
                          rw [← hn] at hl1
                          rw [← hn]
                          have HB520 : Hid (Below wr.heap.size wr x519) := bnx HB517.out hb
                          have HF522 : Hid (LongAt x519 bz false (fun _ => 0)) := HF518.out.stay hb
                          have HF521 : Hid (LongAt x519 bq false (fun _ => 0)) := hl1
                          have HGbq : Hid (wr.heap.size ≤ bq ∧ bq = x516.heap.size) := ⟨by rw [hn]; exact HB517.out.size, hn⟩
                          clear hx hl hl1 hn hb
                          have HNE : Hid (bq ≠ bz) := by have h1 := HLT.out; have h2 := HGbq.out.2; show _ ≠ _; omega
                          (refine hK _ _ HB520.out ?_; clear hK K; intro _)
                          try simp only [Act.put, List.setIfInBounds_toArray, List.set_cons_zero, List.set_cons_succ]
                          refine wpAnyH_ready (rs := [15]) (by kernel_rfl) (by simp) ?_
                          refine AllReadyH.cons rfl (fun K hK => ?_) AllReadyH.nil
                          refine step_store_longY rfl _ _ rfl HF521.out rfl rfl ?_
                          intro x523 hl hX hB
                          have HB524 : Hid (Below wr.heap.size wr x523) := hB _ _ HB520.out HGbq.out.1
                          have HF525 : Hid (LongAt x523 bq sq dq) := hl
                          have HF526 : Hid (LongAt x523 bz false (fun _ => 0)) := (hX bz (fun e => HNE.out e.symm)).trans HF522.out
                          clear hl hX hB
                          (refine hK _ _ HB524.out ?_; clear hK K; intro _)
                          try simp only [Act.put, List.setIfInBounds_toArray, List.set_cons_zero, List.set_cons_succ]
                          refine wpAnyH_ready (rs := [16]) (by kernel_rfl) (by simp) ?_
                          refine AllReadyH.cons rfl (fun K hK => ?_) AllReadyH.nil
                          refine step_store_longY rfl _ _ rfl HF526.out rfl rfl ?_
                          intro x527 hl hX hB
                          have HB528 : Hid (Below wr.heap.size wr x527) := hB _ _ HB524.out HGbz.out.1
                          have HF529 : Hid (LongAt x527 bz false dr) := hl
                          have HF530 : Hid (LongAt x527 bq sq dq) := (hX bq HNE.out).trans HF525.out
                          clear hl hX hB
                          (refine hK _ _ HB528.out ?_; clear hK K; intro _)
                          try simp only [Act.put, List.setIfInBounds_toArray, List.set_cons_zero, List.set_cons_succ]
                          refine wpAnyH_done (by kernel_rfl) ?_ _
                          go_wp2
                          go_meet
                          exact ⟨bq, bz, sq, dq, dr, rfl, rfl, ⟨HF530.out, HF529.out, HB528.out, ⟨HQ.out.1, by rw [HQ.out.2, HYE.out]; rfl⟩, ⟨HZ.out.1, by rw [HZ.out.2, HYE.out]; rfl⟩, HGbq.out.1, HGbz.out.1, HNE.out⟩⟩
                        · have HLT : Hid (bz < x513.heap.size) := HF515.out.lt
                          go_simp
                          have hl := lay1 x513 false (fun _ => 0)
                          have hb : Below x513.heap.size x513 (x513.alloc (.cells #[.bool false, .int .u64 0, .int .u64 0, .int .u64 0, .int .u64 0, .int .u64 0, .int .u64 0, .int .u64 0, .int .u64 0, .int .u64 0, .int .u64 0, .int .u64 0, .int .u64 0, .int .u64 0, .int .u64 0, .int .u64 0, .int .u64 0] 61)) := hl.2
                          obtain ⟨x531, hx⟩ : ∃ x531, x531 = x513.alloc (.cells #[.bool false, .int .u64 0, .int .u64 0, .int .u64 0, .int .u64 0, .int .u64 0, .int .u64 0, .int .u64 0, .int .u64 0, .int .u64 0, .int .u64 0, .int .u64 0, .int .u64 0, .int .u64 0, .int .u64 0, .int .u64 0, .int .u64 0] 61) := ⟨_, rfl⟩
                          rw [← hx] at hb
                          have hl1 : LongAt x531 x513.heap.size false (fun _ => 0) := by rw [hx]; exact hl.1
                          rw [← hx]
                          obtain ⟨bq, hn⟩ : ∃ bq, bq = x513.heap.size := ⟨_, rfl⟩
                          rw [← hn] at hl1
                          rw [← hn]
                          have HB532 : Hid (Below wr.heap.size wr x531) := bnx HB514.out hb
                          have HF534 : Hid (LongAt x531 bz false (fun _ => 0)) := HF515.out.stay hb
                          have HF533 : Hid (LongAt x531 bq false (fun _ => 0)) := hl1
                          have HGbq : Hid (wr.heap.size ≤ bq ∧ bq = x513.heap.size) := ⟨by rw [hn]; exact HB514.out.size, hn⟩
                          clear hx hl hl1 hn hb
                          have HNE : Hid (bq ≠ bz) := by have h1 := HLT.out; have h2 := HGbq.out.2; show _ ≠ _; omega
                          (refine hK _ _ HB532.out ?_; clear hK K; intro _)
                          try simp only [Act.put, List.setIfInBounds_toArray, List.set_cons_zero, List.set_cons_succ]
                          refine wpAnyH_ready (rs := [9]) (by kernel_rfl) (by simp) ?_
                          refine AllReadyH.cons rfl (fun K hK => ?_) AllReadyH.nil
                          go_simp
                          refine (over_qr rp (.agg (LA sA dA)) (T * y) W x531 HRP.out HAL.out HNS.out.2.2.1 HNS.out.2.2.2).mono ?_; rintro _ x535 ⟨sq, dq, dr, rfl, hq, hz, hb⟩
                          have HB536 : Hid (Below wr.heap.size wr x535) := bnx HB532.out hb
                          have HF537 : Hid (LongAt x535 bz false (fun _ => 0)) := HF534.out.stay hb
                          have HF538 : Hid (LongAt x535 bq false (fun _ => 0)) := HF533.out.stay hb
                          have HQ : Hid (Dig dq ∧ sgn sq (V dq 16) = ((T * y / W : Nat) : Int)) := hq
                          have HZ : Hid (Dig dr ∧ V dr 16 = T * y % W) := hz
                          clear hq hz
                          clear hb
                          (refine hK _ _ HB536.out ?_; clear hK K; intro _)
                          try simp only [Act.put, List.setIfInBounds_toArray, List.set_cons_zero, List.set_cons_succ]
                          refine wpAnyH_take (i := 10) (oi := { dst := some 66, op := Op.move (Operand.tmp 76), type := 68, pos := "ref.go:174", after := #[{ on := 9, ground := Ground.data }], guard := none }) (v := ?_) rfl (by kernel_rfl) (by kernel_rfl) (by kernel_rfl) (fun _ _ _ h => h) (Or.inl ⟨by rfl, ?_⟩) HB536.out ?_
                          rotate_left
                          · (intro y hy; go_simp; try (with_reducible rfl))
                          simp only [Act.put, List.setIfInBounds_toArray, List.set_cons_zero, List.set_cons_succ]
                          refine wpAnyH_take (i := 11) (oi := { dst := some 77, op := Op.extract (Operand.tmp 66) 0, type := 61, pos := "ref.go:174", after := #[{ on := 10, ground := Ground.data }], guard := none }) (v := ?_) rfl (by kernel_rfl) (by kernel_rfl) (by kernel_rfl) (fun _ _ _ h => h) (Or.inl ⟨by rfl, ?_⟩) HB536.out ?_
                          rotate_left
                          · (intro y hy; go_simp; try (with_reducible rfl))
                          simp only [Act.put, List.setIfInBounds_toArray, List.set_cons_zero, List.set_cons_succ]
                          refine wpAnyH_take (i := 12) (oi := { dst := some 78, op := Op.extract (Operand.tmp 66) 1, type := 61, pos := "ref.go:174", after := #[{ on := 10, ground := Ground.data }, { on := 15, ground := Ground.gcOnly Departure.lateStores }], guard := none }) (v := ?_) rfl (by kernel_rfl) (by kernel_rfl) (by kernel_rfl) (fun _ _ _ h => h) (Or.inl ⟨by rfl, ?_⟩) HB536.out ?_
                          rotate_left
                          · (intro y hy; go_simp; try (with_reducible rfl))
                          simp only [Act.put, List.setIfInBounds_toArray, List.set_cons_zero, List.set_cons_succ]
                          refine wpAnyH_ready (rs := [15]) (by kernel_rfl) (by simp) ?_
                          refine AllReadyH.cons rfl (fun K hK => ?_) AllReadyH.nil
                          refine step_store_longY rfl _ _ rfl HF538.out rfl rfl ?_
                          intro x539 hl hX hB
                          have HB540 : Hid (Below wr.heap.size wr x539) := hB _ _ HB536.out HGbq.out.1
                          have HF541 : Hid (LongAt x539 bq sq dq) := hl
                          have HF542 : Hid (LongAt x539 bz false (fun _ => 0)) := (hX bz (fun e => HNE.out e.symm)).trans HF537.out
                          clear hl hX hB
                          (refine hK _ _ HB540.out ?_; clear hK K; intro _)
                          try simp only [Act.put, List.setIfInBounds_toArray, List.set_cons_zero, List.set_cons_succ]
                          refine wpAnyH_ready (rs := [16]) (by kernel_rfl) (by simp) ?_
                          refine AllReadyH.cons rfl (fun K hK => ?_) AllReadyH.nil
                          refine step_store_longY rfl _ _ rfl HF542.out rfl rfl ?_
                          intro x543 hl hX hB
                          have HB544 : Hid (Below wr.heap.size wr x543) := hB _ _ HB540.out HGbz.out.1
                          have HF545 : Hid (LongAt x543 bz false dr) := hl
                          have HF546 : Hid (LongAt x543 bq sq dq) := (hX bq HNE.out).trans HF541.out
                          clear hl hX hB
                          (refine hK _ _ HB544.out ?_; clear hK K; intro _)
                          try simp only [Act.put, List.setIfInBounds_toArray, List.set_cons_zero, List.set_cons_succ]
                          refine wpAnyH_done (by kernel_rfl) ?_ _
                          go_wp2
                          go_meet
                          exact ⟨bq, bz, sq, dq, dr, rfl, rfl, ⟨HF546.out, HF545.out, HB544.out, ⟨HQ.out.1, by rw [HQ.out.2, HYE.out]; rfl⟩, ⟨HZ.out.1, by rw [HZ.out.2, HYE.out]; rfl⟩, HGbq.out.1, HGbz.out.1, HNE.out⟩⟩
                      · have HLT : Hid (bz < x510.heap.size) := HF512.out.lt
                        go_simp
                        have hl := lay1 x510 false (fun _ => 0)
                        have hb : Below x510.heap.size x510 (x510.alloc (.cells #[.bool false, .int .u64 0, .int .u64 0, .int .u64 0, .int .u64 0, .int .u64 0, .int .u64 0, .int .u64 0, .int .u64 0, .int .u64 0, .int .u64 0, .int .u64 0, .int .u64 0, .int .u64 0, .int .u64 0, .int .u64 0, .int .u64 0] 61)) := hl.2
                        obtain ⟨x547, hx⟩ : ∃ x547, x547 = x510.alloc (.cells #[.bool false, .int .u64 0, .int .u64 0, .int .u64 0, .int .u64 0, .int .u64 0, .int .u64 0, .int .u64 0, .int .u64 0, .int .u64 0, .int .u64 0, .int .u64 0, .int .u64 0, .int .u64 0, .int .u64 0, .int .u64 0, .int .u64 0] 61) := ⟨_, rfl⟩
                        rw [← hx] at hb
                        have hl1 : LongAt x547 x510.heap.size false (fun _ => 0) := by rw [hx]; exact hl.1
                        rw [← hx]
                        obtain ⟨bq, hn⟩ : ∃ bq, bq = x510.heap.size := ⟨_, rfl⟩
                        rw [← hn] at hl1
                        rw [← hn]
                        have HB548 : Hid (Below wr.heap.size wr x547) := bnx HB511.out hb
                        have HF550 : Hid (LongAt x547 bz false (fun _ => 0)) := HF512.out.stay hb
                        have HF549 : Hid (LongAt x547 bq false (fun _ => 0)) := hl1
                        have HGbq : Hid (wr.heap.size ≤ bq ∧ bq = x510.heap.size) := ⟨by rw [hn]; exact HB511.out.size, hn⟩
                        clear hx hl hl1 hn hb
                        have HNE : Hid (bq ≠ bz) := by have h1 := HLT.out; have h2 := HGbq.out.2; show _ ≠ _; omega
                        (refine hK _ _ HB548.out ?_; clear hK K; intro _)
                        try simp only [Act.put, List.setIfInBounds_toArray, List.set_cons_zero, List.set_cons_succ]
                        refine wpAnyH_ready (rs := [7]) (by kernel_rfl) (by simp) ?_
                        refine AllReadyH.cons rfl (fun K hK => ?_) AllReadyH.nil
                        go_simp
                        refine (times_nat ra rb T y x547 HRA.out HRB.out HNS.out.1 HNS.out.2.1).mono ?_; rintro _ x551 ⟨rp, rfl, hrp, hb⟩
                        have HB552 : Hid (Below wr.heap.size wr x551) := bnx HB548.out hb
                        have HF553 : Hid (LongAt x551 bz false (fun _ => 0)) := HF550.out.stay hb
                        have HF554 : Hid (LongAt x551 bq false (fun _ => 0)) := HF549.out.stay hb
                        have HRP : Hid (IsL rp ((T * y : Nat) : Int)) := hrp
                        clear hrp
                        clear hb
                        (refine hK _ _ HB552.out ?_; clear hK K; intro _)
                        try simp only [Act.put, List.setIfInBounds_toArray, List.set_cons_zero, List.set_cons_succ]
                        refine wpAnyH_ready (rs := [9]) (by kernel_rfl) (by simp) ?_
                        refine AllReadyH.cons rfl (fun K hK => ?_) AllReadyH.nil
                        go_simp
                        refine (over_qr rp (.agg (LA sA dA)) (T * y) W x551 HRP.out HAL.out HNS.out.2.2.1 HNS.out.2.2.2).mono ?_; rintro _ x555 ⟨sq, dq, dr, rfl, hq, hz, hb⟩
                        have HB556 : Hid (Below wr.heap.size wr x555) := bnx HB552.out hb
                        have HF557 : Hid (LongAt x555 bz false (fun _ => 0)) := HF553.out.stay hb
                        have HF558 : Hid (LongAt x555 bq false (fun _ => 0)) := HF554.out.stay hb
                        have HQ : Hid (Dig dq ∧ sgn sq (V dq 16) = ((T * y / W : Nat) : Int)) := hq
                        have HZ : Hid (Dig dr ∧ V dr 16 = T * y % W) := hz
                        clear hq hz
                        clear hb
                        (refine hK _ _ HB556.out ?_; clear hK K; intro _)
                        try simp only [Act.put, List.setIfInBounds_toArray, List.set_cons_zero, List.set_cons_succ]
                        refine wpAnyH_take (i := 10) (oi := { dst := some 66, op := Op.move (Operand.tmp 76), type := 68, pos := "ref.go:174", after := #[{ on := 9, ground := Ground.data }], guard := none }) (v := ?_) rfl (by kernel_rfl) (by kernel_rfl) (by kernel_rfl) (fun _ _ _ h => h) (Or.inl ⟨by rfl, ?_⟩) HB556.out ?_
                        rotate_left
                        · (intro y hy; go_simp; try (with_reducible rfl))
                        simp only [Act.put, List.setIfInBounds_toArray, List.set_cons_zero, List.set_cons_succ]
                        refine wpAnyH_take (i := 11) (oi := { dst := some 77, op := Op.extract (Operand.tmp 66) 0, type := 61, pos := "ref.go:174", after := #[{ on := 10, ground := Ground.data }], guard := none }) (v := ?_) rfl (by kernel_rfl) (by kernel_rfl) (by kernel_rfl) (fun _ _ _ h => h) (Or.inl ⟨by rfl, ?_⟩) HB556.out ?_
                        rotate_left
                        · (intro y hy; go_simp; try (with_reducible rfl))
                        simp only [Act.put, List.setIfInBounds_toArray, List.set_cons_zero, List.set_cons_succ]
                        refine wpAnyH_take (i := 12) (oi := { dst := some 78, op := Op.extract (Operand.tmp 66) 1, type := 61, pos := "ref.go:174", after := #[{ on := 10, ground := Ground.data }, { on := 15, ground := Ground.gcOnly Departure.lateStores }], guard := none }) (v := ?_) rfl (by kernel_rfl) (by kernel_rfl) (by kernel_rfl) (fun _ _ _ h => h) (Or.inl ⟨by rfl, ?_⟩) HB556.out ?_
                        rotate_left
                        · (intro y hy; go_simp; try (with_reducible rfl))
                        simp only [Act.put, List.setIfInBounds_toArray, List.set_cons_zero, List.set_cons_succ]
                        refine wpAnyH_ready (rs := [15]) (by kernel_rfl) (by simp) ?_
                        refine AllReadyH.cons rfl (fun K hK => ?_) AllReadyH.nil
                        refine step_store_longY rfl _ _ rfl HF558.out rfl rfl ?_
                        intro x559 hl hX hB
                        have HB560 : Hid (Below wr.heap.size wr x559) := hB _ _ HB556.out HGbq.out.1
                        have HF561 : Hid (LongAt x559 bq sq dq) := hl
                        have HF562 : Hid (LongAt x559 bz false (fun _ => 0)) := (hX bz (fun e => HNE.out e.symm)).trans HF557.out
                        clear hl hX hB
                        (refine hK _ _ HB560.out ?_; clear hK K; intro _)
                        try simp only [Act.put, List.setIfInBounds_toArray, List.set_cons_zero, List.set_cons_succ]
                        refine wpAnyH_ready (rs := [16]) (by kernel_rfl) (by simp) ?_
                        refine AllReadyH.cons rfl (fun K hK => ?_) AllReadyH.nil
                        refine step_store_longY rfl _ _ rfl HF562.out rfl rfl ?_
                        intro x563 hl hX hB
                        have HB564 : Hid (Below wr.heap.size wr x563) := hB _ _ HB560.out HGbz.out.1
                        have HF565 : Hid (LongAt x563 bz false dr) := hl
                        have HF566 : Hid (LongAt x563 bq sq dq) := (hX bq HNE.out).trans HF561.out
                        clear hl hX hB
                        (refine hK _ _ HB564.out ?_; clear hK K; intro _)
                        try simp only [Act.put, List.setIfInBounds_toArray, List.set_cons_zero, List.set_cons_succ]
                        refine wpAnyH_done (by kernel_rfl) ?_ _
                        go_wp2
                        go_meet
                        exact ⟨bq, bz, sq, dq, dr, rfl, rfl, ⟨HF566.out, HF565.out, HB564.out, ⟨HQ.out.1, by rw [HQ.out.2, HYE.out]; rfl⟩, ⟨HZ.out.1, by rw [HZ.out.2, HYE.out]; rfl⟩, HGbq.out.1, HGbz.out.1, HNE.out⟩⟩
                    · have HLT : Hid (bz < x507.heap.size) := HF509.out.lt
                      go_simp
                      have hl := lay1 x507 false (fun _ => 0)
                      have hb : Below x507.heap.size x507 (x507.alloc (.cells #[.bool false, .int .u64 0, .int .u64 0, .int .u64 0, .int .u64 0, .int .u64 0, .int .u64 0, .int .u64 0, .int .u64 0, .int .u64 0, .int .u64 0, .int .u64 0, .int .u64 0, .int .u64 0, .int .u64 0, .int .u64 0, .int .u64 0] 61)) := hl.2
                      obtain ⟨x567, hx⟩ : ∃ x567, x567 = x507.alloc (.cells #[.bool false, .int .u64 0, .int .u64 0, .int .u64 0, .int .u64 0, .int .u64 0, .int .u64 0, .int .u64 0, .int .u64 0, .int .u64 0, .int .u64 0, .int .u64 0, .int .u64 0, .int .u64 0, .int .u64 0, .int .u64 0, .int .u64 0] 61) := ⟨_, rfl⟩
                      rw [← hx] at hb
                      have hl1 : LongAt x567 x507.heap.size false (fun _ => 0) := by rw [hx]; exact hl.1
                      rw [← hx]
                      obtain ⟨bq, hn⟩ : ∃ bq, bq = x507.heap.size := ⟨_, rfl⟩
                      rw [← hn] at hl1
                      rw [← hn]
                      have HB568 : Hid (Below wr.heap.size wr x567) := bnx HB508.out hb
                      have HF570 : Hid (LongAt x567 bz false (fun _ => 0)) := HF509.out.stay hb
                      have HF569 : Hid (LongAt x567 bq false (fun _ => 0)) := hl1
                      have HGbq : Hid (wr.heap.size ≤ bq ∧ bq = x507.heap.size) := ⟨by rw [hn]; exact HB508.out.size, hn⟩
                      clear hx hl hl1 hn hb
                      have HNE : Hid (bq ≠ bz) := by have h1 := HLT.out; have h2 := HGbq.out.2; show _ ≠ _; omega
                      (refine hK _ _ HB568.out ?_; clear hK K; intro _)
                      try simp only [Act.put, List.setIfInBounds_toArray, List.set_cons_zero, List.set_cons_succ]
                      refine wpAnyH_ready (rs := [6]) (by kernel_rfl) (by simp) ?_
                      refine AllReadyH.cons rfl (fun K hK => ?_) AllReadyH.nil
                      go_simp
                      refine (of_is (y : Int) x567 HYI.out).mono ?_; rintro _ x571 ⟨rb, rfl, hrb, hb⟩
                      have HB572 : Hid (Below wr.heap.size wr x571) := bnx HB568.out hb
                      have HF573 : Hid (LongAt x571 bz false (fun _ => 0)) := HF570.out.stay hb
                      have HF574 : Hid (LongAt x571 bq false (fun _ => 0)) := HF569.out.stay hb
                      have HRB : Hid (IsL rb (y : Int)) := hrb
                      clear hrb
                      clear hb
                      (refine hK _ _ HB572.out ?_; clear hK K; intro _)
                      try simp only [Act.put, List.setIfInBounds_toArray, List.set_cons_zero, List.set_cons_succ]
                      refine wpAnyH_ready (rs := [7]) (by kernel_rfl) (by simp) ?_
                      refine AllReadyH.cons rfl (fun K hK => ?_) AllReadyH.nil
                      go_simp
                      refine (times_nat ra rb T y x571 HRA.out HRB.out HNS.out.1 HNS.out.2.1).mono ?_; rintro _ x575 ⟨rp, rfl, hrp, hb⟩
                      have HB576 : Hid (Below wr.heap.size wr x575) := bnx HB572.out hb
                      have HF577 : Hid (LongAt x575 bz false (fun _ => 0)) := HF573.out.stay hb
                      have HF578 : Hid (LongAt x575 bq false (fun _ => 0)) := HF574.out.stay hb
                      have HRP : Hid (IsL rp ((T * y : Nat) : Int)) := hrp
                      clear hrp
                      clear hb
                      (refine hK _ _ HB576.out ?_; clear hK K; intro _)
                      try simp only [Act.put, List.setIfInBounds_toArray, List.set_cons_zero, List.set_cons_succ]
                      refine wpAnyH_ready (rs := [9]) (by kernel_rfl) (by simp) ?_
                      refine AllReadyH.cons rfl (fun K hK => ?_) AllReadyH.nil
                      go_simp
                      refine (over_qr rp (.agg (LA sA dA)) (T * y) W x575 HRP.out HAL.out HNS.out.2.2.1 HNS.out.2.2.2).mono ?_; rintro _ x579 ⟨sq, dq, dr, rfl, hq, hz, hb⟩
                      have HB580 : Hid (Below wr.heap.size wr x579) := bnx HB576.out hb
                      have HF581 : Hid (LongAt x579 bz false (fun _ => 0)) := HF577.out.stay hb
                      have HF582 : Hid (LongAt x579 bq false (fun _ => 0)) := HF578.out.stay hb
                      have HQ : Hid (Dig dq ∧ sgn sq (V dq 16) = ((T * y / W : Nat) : Int)) := hq
                      have HZ : Hid (Dig dr ∧ V dr 16 = T * y % W) := hz
                      clear hq hz
                      clear hb
                      (refine hK _ _ HB580.out ?_; clear hK K; intro _)
                      try simp only [Act.put, List.setIfInBounds_toArray, List.set_cons_zero, List.set_cons_succ]
                      refine wpAnyH_take (i := 10) (oi := { dst := some 66, op := Op.move (Operand.tmp 76), type := 68, pos := "ref.go:174", after := #[{ on := 9, ground := Ground.data }], guard := none }) (v := ?_) rfl (by kernel_rfl) (by kernel_rfl) (by kernel_rfl) (fun _ _ _ h => h) (Or.inl ⟨by rfl, ?_⟩) HB580.out ?_
                      rotate_left
                      · (intro y hy; go_simp; try (with_reducible rfl))
                      simp only [Act.put, List.setIfInBounds_toArray, List.set_cons_zero, List.set_cons_succ]
                      refine wpAnyH_take (i := 11) (oi := { dst := some 77, op := Op.extract (Operand.tmp 66) 0, type := 61, pos := "ref.go:174", after := #[{ on := 10, ground := Ground.data }], guard := none }) (v := ?_) rfl (by kernel_rfl) (by kernel_rfl) (by kernel_rfl) (fun _ _ _ h => h) (Or.inl ⟨by rfl, ?_⟩) HB580.out ?_
                      rotate_left
                      · (intro y hy; go_simp; try (with_reducible rfl))
                      simp only [Act.put, List.setIfInBounds_toArray, List.set_cons_zero, List.set_cons_succ]
                      refine wpAnyH_take (i := 12) (oi := { dst := some 78, op := Op.extract (Operand.tmp 66) 1, type := 61, pos := "ref.go:174", after := #[{ on := 10, ground := Ground.data }, { on := 15, ground := Ground.gcOnly Departure.lateStores }], guard := none }) (v := ?_) rfl (by kernel_rfl) (by kernel_rfl) (by kernel_rfl) (fun _ _ _ h => h) (Or.inl ⟨by rfl, ?_⟩) HB580.out ?_
                      rotate_left
                      · (intro y hy; go_simp; try (with_reducible rfl))
                      simp only [Act.put, List.setIfInBounds_toArray, List.set_cons_zero, List.set_cons_succ]
                      refine wpAnyH_ready (rs := [15]) (by kernel_rfl) (by simp) ?_
                      refine AllReadyH.cons rfl (fun K hK => ?_) AllReadyH.nil
                      refine step_store_longY rfl _ _ rfl HF582.out rfl rfl ?_
                      intro x583 hl hX hB
                      have HB584 : Hid (Below wr.heap.size wr x583) := hB _ _ HB580.out HGbq.out.1
                      have HF585 : Hid (LongAt x583 bq sq dq) := hl
                      have HF586 : Hid (LongAt x583 bz false (fun _ => 0)) := (hX bz (fun e => HNE.out e.symm)).trans HF581.out
                      clear hl hX hB
                      (refine hK _ _ HB584.out ?_; clear hK K; intro _)
                      try simp only [Act.put, List.setIfInBounds_toArray, List.set_cons_zero, List.set_cons_succ]
                      refine wpAnyH_ready (rs := [16]) (by kernel_rfl) (by simp) ?_
                      refine AllReadyH.cons rfl (fun K hK => ?_) AllReadyH.nil
                      refine step_store_longY rfl _ _ rfl HF586.out rfl rfl ?_
                      intro x587 hl hX hB
                      have HB588 : Hid (Below wr.heap.size wr x587) := hB _ _ HB584.out HGbz.out.1
                      have HF589 : Hid (LongAt x587 bz false dr) := hl
                      have HF590 : Hid (LongAt x587 bq sq dq) := (hX bq HNE.out).trans HF585.out
                      clear hl hX hB
                      (refine hK _ _ HB588.out ?_; clear hK K; intro _)
                      try simp only [Act.put, List.setIfInBounds_toArray, List.set_cons_zero, List.set_cons_succ]
                      refine wpAnyH_done (by kernel_rfl) ?_ _
                      go_wp2
                      go_meet
                      exact ⟨bq, bz, sq, dq, dr, rfl, rfl, ⟨HF590.out, HF589.out, HB588.out, ⟨HQ.out.1, by rw [HQ.out.2, HYE.out]; rfl⟩, ⟨HZ.out.1, by rw [HZ.out.2, HYE.out]; rfl⟩, HGbq.out.1, HGbz.out.1, HNE.out⟩⟩
                  · have HLT : Hid (bz < x504.heap.size) := HF506.out.lt
                    go_simp
                    have hl := lay1 x504 false (fun _ => 0)
                    have hb : Below x504.heap.size x504 (x504.alloc (.cells #[.bool false, .int .u64 0, .int .u64 0, .int .u64 0, .int .u64 0, .int .u64 0, .int .u64 0, .int .u64 0, .int .u64 0, .int .u64 0, .int .u64 0, .int .u64 0, .int .u64 0, .int .u64 0, .int .u64 0, .int .u64 0, .int .u64 0] 61)) := hl.2
                    obtain ⟨x591, hx⟩ : ∃ x591, x591 = x504.alloc (.cells #[.bool false, .int .u64 0, .int .u64 0, .int .u64 0, .int .u64 0, .int .u64 0, .int .u64 0, .int .u64 0, .int .u64 0, .int .u64 0, .int .u64 0, .int .u64 0, .int .u64 0, .int .u64 0, .int .u64 0, .int .u64 0, .int .u64 0] 61) := ⟨_, rfl⟩
                    rw [← hx] at hb
                    have hl1 : LongAt x591 x504.heap.size false (fun _ => 0) := by rw [hx]; exact hl.1
                    rw [← hx]
                    obtain ⟨bq, hn⟩ : ∃ bq, bq = x504.heap.size := ⟨_, rfl⟩
                    rw [← hn] at hl1
                    rw [← hn]
                    have HB592 : Hid (Below wr.heap.size wr x591) := bnx HB505.out hb
                    have HF594 : Hid (LongAt x591 bz false (fun _ => 0)) := HF506.out.stay hb
                    have HF593 : Hid (LongAt x591 bq false (fun _ => 0)) := hl1
                    have HGbq : Hid (wr.heap.size ≤ bq ∧ bq = x504.heap.size) := ⟨by rw [hn]; exact HB505.out.size, hn⟩
                    clear hx hl hl1 hn hb
                    have HNE : Hid (bq ≠ bz) := by have h1 := HLT.out; have h2 := HGbq.out.2; show _ ≠ _; omega
                    (refine hK _ _ HB592.out ?_; clear hK K; intro _)
                    try simp only [Act.put, List.setIfInBounds_toArray, List.set_cons_zero, List.set_cons_succ]
                    refine wpAnyH_ready (rs := [1]) (by kernel_rfl) (by simp) ?_
                    refine AllReadyH.cons rfl (fun K hK => ?_) AllReadyH.nil
                    go_simp
                    refine (of_is (T : Int) x591 HTI.out).mono ?_; rintro _ x595 ⟨ra, rfl, hra, hb⟩
                    have HB596 : Hid (Below wr.heap.size wr x595) := bnx HB592.out hb
                    have HF597 : Hid (LongAt x595 bz false (fun _ => 0)) := HF594.out.stay hb
                    have HF598 : Hid (LongAt x595 bq false (fun _ => 0)) := HF593.out.stay hb
                    have HRA : Hid (IsL ra (T : Int)) := hra
                    clear hra
                    clear hb
                    (refine hK _ _ HB596.out ?_; clear hK K; intro _)
                    try simp only [Act.put, List.setIfInBounds_toArray, List.set_cons_zero, List.set_cons_succ]
                    refine wpAnyH_ready (rs := [6]) (by kernel_rfl) (by simp) ?_
                    refine AllReadyH.cons rfl (fun K hK => ?_) AllReadyH.nil
                    go_simp
                    refine (of_is (y : Int) x595 HYI.out).mono ?_; rintro _ x599 ⟨rb, rfl, hrb, hb⟩
                    have HB600 : Hid (Below wr.heap.size wr x599) := bnx HB596.out hb
                    have HF601 : Hid (LongAt x599 bz false (fun _ => 0)) := HF597.out.stay hb
                    have HF602 : Hid (LongAt x599 bq false (fun _ => 0)) := HF598.out.stay hb
                    have HRB : Hid (IsL rb (y : Int)) := hrb
                    clear hrb
                    clear hb
                    (refine hK _ _ HB600.out ?_; clear hK K; intro _)
                    try simp only [Act.put, List.setIfInBounds_toArray, List.set_cons_zero, List.set_cons_succ]
                    refine wpAnyH_ready (rs := [7]) (by kernel_rfl) (by simp) ?_
                    refine AllReadyH.cons rfl (fun K hK => ?_) AllReadyH.nil
                    go_simp
                    refine (times_nat ra rb T y x599 HRA.out HRB.out HNS.out.1 HNS.out.2.1).mono ?_; rintro _ x603 ⟨rp, rfl, hrp, hb⟩
                    have HB604 : Hid (Below wr.heap.size wr x603) := bnx HB600.out hb
                    have HF605 : Hid (LongAt x603 bz false (fun _ => 0)) := HF601.out.stay hb
                    have HF606 : Hid (LongAt x603 bq false (fun _ => 0)) := HF602.out.stay hb
                    have HRP : Hid (IsL rp ((T * y : Nat) : Int)) := hrp
                    clear hrp
                    clear hb
                    (refine hK _ _ HB604.out ?_; clear hK K; intro _)
                    try simp only [Act.put, List.setIfInBounds_toArray, List.set_cons_zero, List.set_cons_succ]
                    refine wpAnyH_ready (rs := [9]) (by kernel_rfl) (by simp) ?_
                    refine AllReadyH.cons rfl (fun K hK => ?_) AllReadyH.nil
                    go_simp
                    refine (over_qr rp (.agg (LA sA dA)) (T * y) W x603 HRP.out HAL.out HNS.out.2.2.1 HNS.out.2.2.2).mono ?_; rintro _ x607 ⟨sq, dq, dr, rfl, hq, hz, hb⟩
                    have HB608 : Hid (Below wr.heap.size wr x607) := bnx HB604.out hb
                    have HF609 : Hid (LongAt x607 bz false (fun _ => 0)) := HF605.out.stay hb
                    have HF610 : Hid (LongAt x607 bq false (fun _ => 0)) := HF606.out.stay hb
                    have HQ : Hid (Dig dq ∧ sgn sq (V dq 16) = ((T * y / W : Nat) : Int)) := hq
                    have HZ : Hid (Dig dr ∧ V dr 16 = T * y % W) := hz
                    clear hq hz
                    clear hb
                    (refine hK _ _ HB608.out ?_; clear hK K; intro _)
                    try simp only [Act.put, List.setIfInBounds_toArray, List.set_cons_zero, List.set_cons_succ]
                    refine wpAnyH_take (i := 10) (oi := { dst := some 66, op := Op.move (Operand.tmp 76), type := 68, pos := "ref.go:174", after := #[{ on := 9, ground := Ground.data }], guard := none }) (v := ?_) rfl (by kernel_rfl) (by kernel_rfl) (by kernel_rfl) (fun _ _ _ h => h) (Or.inl ⟨by rfl, ?_⟩) HB608.out ?_
                    rotate_left
                    · (intro y hy; go_simp; try (with_reducible rfl))
                    simp only [Act.put, List.setIfInBounds_toArray, List.set_cons_zero, List.set_cons_succ]
                    refine wpAnyH_take (i := 11) (oi := { dst := some 77, op := Op.extract (Operand.tmp 66) 0, type := 61, pos := "ref.go:174", after := #[{ on := 10, ground := Ground.data }], guard := none }) (v := ?_) rfl (by kernel_rfl) (by kernel_rfl) (by kernel_rfl) (fun _ _ _ h => h) (Or.inl ⟨by rfl, ?_⟩) HB608.out ?_
                    rotate_left
                    · (intro y hy; go_simp; try (with_reducible rfl))
                    simp only [Act.put, List.setIfInBounds_toArray, List.set_cons_zero, List.set_cons_succ]
                    refine wpAnyH_take (i := 12) (oi := { dst := some 78, op := Op.extract (Operand.tmp 66) 1, type := 61, pos := "ref.go:174", after := #[{ on := 10, ground := Ground.data }, { on := 15, ground := Ground.gcOnly Departure.lateStores }], guard := none }) (v := ?_) rfl (by kernel_rfl) (by kernel_rfl) (by kernel_rfl) (fun _ _ _ h => h) (Or.inl ⟨by rfl, ?_⟩) HB608.out ?_
                    rotate_left
                    · (intro y hy; go_simp; try (with_reducible rfl))
                    simp only [Act.put, List.setIfInBounds_toArray, List.set_cons_zero, List.set_cons_succ]
                    refine wpAnyH_ready (rs := [15]) (by kernel_rfl) (by simp) ?_
                    refine AllReadyH.cons rfl (fun K hK => ?_) AllReadyH.nil
                    refine step_store_longY rfl _ _ rfl HF610.out rfl rfl ?_
                    intro x611 hl hX hB
                    have HB612 : Hid (Below wr.heap.size wr x611) := hB _ _ HB608.out HGbq.out.1
                    have HF613 : Hid (LongAt x611 bq sq dq) := hl
                    have HF614 : Hid (LongAt x611 bz false (fun _ => 0)) := (hX bz (fun e => HNE.out e.symm)).trans HF609.out
                    clear hl hX hB
                    (refine hK _ _ HB612.out ?_; clear hK K; intro _)
                    try simp only [Act.put, List.setIfInBounds_toArray, List.set_cons_zero, List.set_cons_succ]
                    refine wpAnyH_ready (rs := [16]) (by kernel_rfl) (by simp) ?_
                    refine AllReadyH.cons rfl (fun K hK => ?_) AllReadyH.nil
                    refine step_store_longY rfl _ _ rfl HF614.out rfl rfl ?_
                    intro x615 hl hX hB
                    have HB616 : Hid (Below wr.heap.size wr x615) := hB _ _ HB612.out HGbz.out.1
                    have HF617 : Hid (LongAt x615 bz false dr) := hl
                    have HF618 : Hid (LongAt x615 bq sq dq) := (hX bq HNE.out).trans HF613.out
                    clear hl hX hB
                    (refine hK _ _ HB616.out ?_; clear hK K; intro _)
                    try simp only [Act.put, List.setIfInBounds_toArray, List.set_cons_zero, List.set_cons_succ]
                    refine wpAnyH_done (by kernel_rfl) ?_ _
                    go_wp2
                    go_meet
                    exact ⟨bq, bz, sq, dq, dr, rfl, rfl, ⟨HF618.out, HF617.out, HB616.out, ⟨HQ.out.1, by rw [HQ.out.2, HYE.out]; rfl⟩, ⟨HZ.out.1, by rw [HZ.out.2, HYE.out]; rfl⟩, HGbq.out.1, HGbz.out.1, HNE.out⟩⟩
              case rest =>
                obtain ⟨bq, bz, sq, dq, dr, rfl, rfl, HQ⟩ := hcut
                rename World => z1
                have HSZ : Hid (gW < wr.heap.size ∧ gR < wr.heap.size ∧ bL < wr.heap.size) := ⟨(own_lt HST.out.ow).1, (own_lt HST.out.or).1, HST.out.L.lt⟩
                have HS1 : Hid (RSt w z1 T W (wtN l) bA bL sA dA m m m gW capW gR capR sK dK R) := HST.out.keep HQ.out.2.2.1
                obtain ⟨u, eu⟩ : ∃ u : Nat, u = quo T W (wtN l) m := ⟨_, rfl⟩
                have HU : Hid (u = quo T W (wtN l) m) := eu
                have huT : u ≤ T := by rw [eu]; exact quo_le HD.out.hW HD.out.W0 hkn
                have HFQ : Hid (fitV (u : Int) = (u : Int) ∧ fitB (u : Int) = true) := fit_in _ (by unfold inI; omega)
                have HLQ : Hid (IsL (.agg (LA sq dq)) (u : Int)) := by rw [eu]; exact ⟨sq, dq, rfl, HQ.out.2.2.2.1.1, HQ.out.2.2.2.1.2⟩
                clear eu
                go_upto_region 22 with (first
                  | ((with_reducible refine guard_load 61 ?_); refine wpList_load_long rfl _ rfl HQ.out.1 rfl ?_)
                  | (go_at_call 34; refine (fits_is (.agg (LA sq dq)) (u : Int) z1 HLQ.out).mono ?_; rw [HFQ.out.1, HFQ.out.2]; rintro e z2 ⟨rfl, hb2⟩; have HS2 : Hid (RSt w z2 T W (wtN l) bA bL sA dA m m m gW capW gR capR sK dK R) := HS1.out.keep hb2; have HQ2 : Hid (LongAt z2 bq sq dq ∧ LongAt z2 bz false dr ∧ wr.heap.size ≤ bq ∧ wr.heap.size ≤ bz) := ⟨HQ.out.1.stay hb2, HQ.out.2.1.stay hb2, HQ.out.2.2.2.2.2.1, HQ.out.2.2.2.2.2.2.1⟩; clear hb2)
                  | (at_builtin; refine wpList_append_twoK _ rfl _ _ 46 rfl w.heap.size 2 i0 (.int .i64 0) 1 8 (by decide) Tryz.underlying46 hi hz0 hz1 hz2 rfl gW m capW (BI (qL T W (wtN l) m)) rfl (HS2.out.keep (bal (Below.refl _ _) (.cells #[.int .i64 (u : Int)] 2))).ow ⟨z2.heap.size, 0, none⟩ 1 1 [.int .i64 (u : Int)] rfl rfl (fun j v hj => by cases j with | zero => (have h1 : v = .int .i64 (u : Int) := by simpa using hj.symm); subst h1; simp [go_sem, Addr.add] | succ j => simp at hj) (by simp [Value.oneCell']) (by decide) (by unfold maxLen; omega) (by omega) (by have h1 := HS2.out.b.size; simp; omega) ?_; intro g2 cap2 z3 hg2 hlt2 ho2 hgr2; have HS3 : Hid (RSt w z3 T W (wtN l) bA bL sA dA (m + 1) m m g2 cap2 gR capR sK dK R) := (HS2.out.keep (bal (Below.refl _ _) (.cells #[.int .i64 (u : Int)] 2))).addW hgr2 (by rw [← HU.out]; exact ho2) hg2; have HQ3 : Hid (LongAt z3 bq sq dq ∧ LongAt z3 bz false dr) := ⟨(hgr2.block bq (Nat.lt_trans HQ2.out.1.lt (by simp)) (by have h1 := HSZ.out; have h2 := HQ2.out; intro hh; cases hh; omega)).trans (HQ2.out.1.stay (bal (Below.refl _ _) _)), (hgr2.block bz (Nat.lt_trans HQ2.out.2.1.lt (by simp)) (by have h1 := HSZ.out; have h2 := HQ2.out; intro hh; cases hh; omega)).trans (HQ2.out.2.1.stay (bal (Below.refl _ _) _))⟩; clear hg2 hlt2 ho2 hgr2))
                have HSZ3 : Hid (gR < z3.heap.size ∧ gR ≠ bq) := ⟨(own_lt HS3.out.or).1, by have h1 := HSZ.out; have h2 := HQ2.out; omega⟩
                go_upto_region 23 with (first
                  | ((with_reducible refine guard_load 61 ?_); refine wpList_load_long rfl _ rfl HQ3.out.2 rfl ?_)
                  | ((with_reducible refine guard_build 66 ?_); refine wpList_build_long rfl _ rfl rfl ?_)
                  | (at_builtin; refine wpList_append_twoK _ rfl _ _ 66 rfl w.heap.size 61 j0 (.agg (LA false fun _ => 0)) 17 136 (by decide) Tryz.underlying66 hj hy0 hy1 hy2 rfl gR m capR (lcs R) rfl (HS3.out.keep (bal (Below.refl _ _) (.cells (LA false dr) 61))).or ⟨z3.heap.size, 0, none⟩ 1 1 (LA false dr).toList rfl rfl (la_cell z3 dr) (LA_oneL dr) (by decide) (by unfold maxLen; omega) (by omega) (by have h1 := HS3.out.b.size; simp; omega) ?_; intro g3 cap3 z4 hg3 hlt3 ho3 hgr3; have HS4 : Hid (RSt w z4 T W (wtN l) bA bL sA dA (m + 1) (m + 1) m g2 cap2 g3 cap3 sK dK (R ++ [dr])) := (HS3.out.keep (bal (Below.refl _ _) (.cells (LA false dr) 61))).addR hgr3 ho3 hg3 HQ.out.2.2.2.2.1; have HQ4 : Hid (LongAt z4 bq sq dq) := (hgr3.block bq (Nat.lt_trans HQ3.out.1.lt (by simp)) (by have h1 := HSZ3.out.2; intro hh; cases hh; exact h1 rfl)).trans (HQ3.out.1.stay (bal (Below.refl _ _) _)); clear hg3 hlt3 ho3 hgr3))
                have hsgn : z4.cell? ⟨bq, 0, none⟩ = some (.bool sq) := HQ4.out.sign
                have HPL : Hid (IsL (.agg (LA (!sq) dq)) (-(u : Int))) := neg_is HQ.out.2.2.2.1.1 (by rw [HU.out]; exact HQ.out.2.2.2.1.2)
                have HSK : Hid (IsL (.agg (LA sK dK)) ((T : Int) - (sumN m (quo T W (wtN l)) : Int))) := ⟨sK, dK, rfl, HS4.out.Ld.1, HS4.out.Ld.2⟩
                have HBD : Hid (((T : Int) - (sumN m (quo T W (wtN l)) : Int)).natAbs + (-(u : Int)).natAbs < 65536 ^ 16) := by
                  have h1 := sumN_pre (quo T W (wtN l)) (Nat.le_of_lt hkn)
                  have h2 := (sum_quo (T := T) HD.out.hW HD.out.W0).1
                  have h3 : (36893488147419103232 : Nat) ≤ 65536 ^ 16 := by decide
                  show _ < _
                  omega
                have HNX : Hid ((T : Int) - (sumN m (quo T W (wtN l)) : Int) + -(u : Int) = (T : Int) - (sumN (m + 1) (quo T W (wtN l)) : Int)) := by show _ = _; rw [sumN_succ, ← HU.out]; omega
                go_wp2_with (first
                  | ((with_reducible refine guard_load 61 ?_); refine wpList_load_long rfl _ rfl HS4.out.L rfl ?_)
                  | ((with_reducible refine guard_load 59 ?_); refine wpList_load_mid rfl 59 _ rfl bq 1 rfl (DA dq) _ HQ4.out.digits Tryz.underlying59 rfl Tryz.infoD ?_)
                  | ((with_reducible refine guard_fields 61 ?_); refine wpList_fields rfl _ _ rfl (s := !sq) (d := dq) rfl rfl ?_)
                  | (go_at_call 39; refine (plus_is (.agg (LA sK dK)) (.agg (LA (!sq) dq)) _ _ z4 HSK.out HPL.out HBD.out).mono ?_; rintro e z5 ⟨v5, rfl, ⟨s5, d5, rfl, hd5, hs5⟩, hb5⟩; have HS5 : Hid (RSt w z5 T W (wtN l) bA bL sA dA (m + 1) (m + 1) m g2 cap2 g3 cap3 sK dK (R ++ [dr])) := HS4.out.keep hb5; have HP5 : Hid (Dig d5 ∧ sgn s5 (V d5 16) = (T : Int) - (sumN (m + 1) (quo T W (wtN l)) : Int)) := ⟨hd5, by rw [hs5]; exact HNX.out⟩; clear hd5 hs5 hb5)
                  | ((with_reducible refine guard_store 61 ?_); refine wpList_store_longY rfl _ _ rfl HS5.out.L rfl rfl ?_; intro z6 hL6 hX6 hB6; have HS6 : Hid (RSt w z6 T W (wtN l) bA bL sA dA (m + 1) (m + 1) (m + 1) g2 cap2 g3 cap3 s5 d5 (R ++ [dr])) := HS5.out.setL hL6 hX6 hB6 HP5.out; clear hL6 hX6 hB6))
                go_roundw
                case rel => exact ⟨m + 1, g2, cap2, g3, cap3, s5, d5, R ++ [dr], rfl, rfl, by go_num, by omega, HS6.out⟩
                case measure => first | (simp [intOf]; done) | (simp [intOf]; omega)
            · obtain rfl : m = k := by omega
              have hlft := lft_lt (T := T) HD.out.hW HD.out.W0 HD.out.n0
              obtain ⟨f, ef⟩ : ∃ f : Nat, f = lft m T W (wtN l) := ⟨_, rfl⟩
              rw [← ef] at hlft
              have HFE : Hid (f = lft m T W (wtN l)) := ef
              have HLF : Hid (IsL (.agg (LA sK dK)) (f : Int)) := ⟨sK, dK, rfl, HST.out.Ld.1, by rw [HST.out.Ld.2, ef]; have h1 := (sum_quo (T := T) HD.out.hW HD.out.W0).1; unfold lft; omega⟩
              have HFF : Hid (fitV (f : Int) = (f : Int) ∧ fitB (f : Int) = true) := fit_in _ (by unfold inI; omega)
              clear ef
              go_upto_region 27 with (first
                | ((with_reducible refine guard_load 61 ?_); refine wpList_load_long rfl _ rfl HST.out.L rfl ?_)
                | (go_at_call 34; refine (fits_is (.agg (LA sK dK)) (f : Int) wr HLF.out).mono ?_; rw [HFF.out.1, HFF.out.2]; rintro e w7 ⟨rfl, hb7⟩; have HS7 : Hid (RSt w w7 T W (wtN l) bA bL sA dA m m m gW capW gR capR sK dK R) := HST.out.keep hb7; clear hb7))
              have HS8 : Hid (RSt w (w7.alloc (.cells #[] 2)) T W (wtN l) bA bL sA dA m m m gW capW gR capR sK dK R ∧ (w7.alloc (.cells #[] 2)).ownsRow w.heap.size 2 1 (.slice (some ⟨w7.heap.size, 0, none⟩) 0 0) 0 (BI (shL m T W (wtN l) 0)) ∧ bA ≠ w7.heap.size ∧ bL ≠ w7.heap.size ∧ gW ≠ w7.heap.size ∧ gR ≠ w7.heap.size) := by
                have h1 := HS7.out.A.lt; have h2 := HS7.out.L.lt; have h3 := (own_lt HS7.out.ow).1; have h4 := (own_lt HS7.out.or).1
                exact ⟨HS7.out.keep (bal (Below.refl _ _) _), World.ownsRow_lit w7 #[] 0 HS7.out.b.size (by simp) rfl, by omega, by omega, by omega, by omega⟩
              obtain ⟨g0, hg0⟩ : ∃ g, g = w7.heap.size := ⟨_, rfl⟩
              obtain ⟨w8, hw8⟩ : ∃ w8, w8 = w7.alloc (.cells #[] 2) := ⟨_, rfl⟩
              rw [← hw8, ← hg0] at HS8
              rw [← hw8, ← hg0]
              clear hw8 hg0 HS7 HST
              go_wp2
              go_loopw [20, 109] (fun v20 vi wr => ∃ (i go capO : Nat), v20 = .slice (some ⟨go, 0, none⟩) i capO ∧ vi = .int .i64 i ∧ i ≤ m ∧ Hid (RSt w wr T W (wtN l) bA bL sA dA m m m gW capW gR capR sK dK R ∧ wr.ownsRow w.heap.size 2 1 (.slice (some ⟨go, 0, none⟩) i capO) i (BI (shL m T W (wtN l) i)) ∧ bA ≠ go ∧ bL ≠ go ∧ gW ≠ go ∧ gR ≠ go)) (fun _ vi _ => m - (intOf vi).toNat)
              case atStart => exact ⟨0, g0, 0, rfl, rfl, Nat.zero_le _, HS8.out⟩
              case round =>
                obtain ⟨i, go, capO, rfl, rfl, him, HO⟩ := hrel
                clear HS8
                by_cases hik : i < m
                · have hiz : (i : Int) < (m : Int) := by omega
                  go_wp2
                  go_loopw [22, 114] (fun vc vj wr => ∃ (j c : Nat), vc = .int .i64 c ∧ vj = .int .i64 j ∧ j ≤ m ∧ c ≤ j ∧ Hid ((RSt w wr T W (wtN l) bA bL sA dA m m m gW capW gR capR sK dK R ∧ wr.ownsRow w.heap.size 2 1 (.slice (some ⟨go, 0, none⟩) i capO) i (BI (shL m T W (wtN l) i)) ∧ bA ≠ go ∧ bL ≠ go ∧ gW ≠ go ∧ gR ≠ go) ∧ c = sumN j (fun q => if Ahd (rst T W (wtN l)) q i then 1 else 0))) (fun _ vj _ => m - (intOf vj).toNat)
                  case atStart => exact ⟨0, 0, rfl, rfl, Nat.zero_le _, Nat.le_refl _, HO.out, rfl⟩
                  case round =>
                    obtain ⟨j, c, rfl, rfl, hjm, hcj, HC⟩ := hrel
                    clear HO
                    have HS : Hid (RSt w wr T W (wtN l) bA bL sA dA m m m gW capW gR capR sK dK R ∧ wr.ownsRow w.heap.size 2 1 (.slice (some ⟨go, 0, none⟩) i capO) i (BI (shL m T W (wtN l) i)) ∧ bA ≠ go ∧ bL ≠ go ∧ gW ≠ go ∧ gR ≠ go) := HC.out.1
                    have HCC : Hid (c = sumN j (fun q => if Ahd (rst T W (wtN l)) q i then 1 else 0)) := HC.out.2
                    clear HC
                    by_cases hjk : j < m
                    · obtain ⟨dj, ej⟩ : ∃ d, R.getD j (fun _ => 0) = d := ⟨_, rfl⟩
                      obtain ⟨di, ei⟩ : ∃ d, R.getD i (fun _ => 0) = d := ⟨_, rfl⟩
                      have HDJ : Hid (R.getD j (fun _ => 0) = dj) := ej
                      have HDI : Hid (R.getD i (fun _ => 0) = di) := ei
                      have hRj := HS.out.1.Rl.2 j hjk
                      have hRi := HS.out.1.Rl.2 i hik
                      rw [ej] at hRj
                      rw [ei] at hRi
                      have HDG : Hid (Dig dj ∧ Dig di) := ⟨hRj.1, hRi.1⟩
                      obtain ⟨v, ev⟩ : ∃ v, cmpV (V dj 16) (V di 16) = v := ⟨_, rfl⟩
                      have HV : Hid (cmpV (V dj 16) (V di 16) = v) := ev
                      have hsaid := cmpV_said (V dj 16) (V di 16)
                      rw [ev, hRj.2, hRi.2] at hsaid
                      have HSD : Hid ((0 < v ↔ rst T W (wtN l) i < rst T W (wtN l) j) ∧ (v = 0 ↔ rst T W (wtN l) j = rst T W (wtN l) i)) := hsaid
                      have hjz : (j : Int) < (m : Int) := by omega
                      clear ej ei hRj hRi ev hsaid
                      go_upto_region 34 with fail
                      go_cut [24] (fun v24 wx => v24 = .int .i64 v ∧ Below wr.heap.size wr wx)
                      case first =>
                        refine wp_region_held (S := (fun y => Below wr.heap.size wr y)) (by kernel_rfl) ?_
                        change wpAnyH _ _ _ _ _ _ _ _ (World.drew _)
                        obtain ⟨xd, hxd⟩ : ∃ xd, wr.drew = xd := ⟨_, rfl⟩
                        have HBD : Hid (Below wr.heap.size wr xd) := by rw [← hxd]; exact (Below.refl _ _).drew
                        rw [hxd]
                        clear hxd
                        refine wpAnyH_take (i := 0) (oi := { dst := some 117, op := Op.move (Operand.tmp 11), type := 66, pos := "ref.go:185", after := #[], guard := none }) (v := ?_) rfl (by kernel_rfl) (by kernel_rfl) (by kernel_rfl) (fun _ _ _ h => h) (Or.inl ⟨by rfl, ?_⟩) HBD.out ?_
                        rotate_left
                        · (intro y hy; go_simp; try (with_reducible rfl))
                        simp only [Act.put, List.setIfInBounds_toArray, List.set_cons_zero, List.set_cons_succ]
                        refine wpAnyH_take (i := 1) (oi := { dst := some 118, op := Op.move (Operand.tmp 23), type := 3, pos := "ref.go:185", after := #[], guard := none }) (v := ?_) rfl (by kernel_rfl) (by kernel_rfl) (by kernel_rfl) (fun _ _ _ h => h) (Or.inl ⟨by rfl, ?_⟩) HBD.out ?_
                        rotate_left
                        · (intro y hy; go_simp; try (with_reducible rfl))
                        simp only [Act.put, List.setIfInBounds_toArray, List.set_cons_zero, List.set_cons_succ]
                        refine wpAnyH_take (i := 2) (oi := { dst := some 119, op := Op.indexAddr 66 (Operand.tmp 117) (Operand.tmp 118), type := 0, pos := "ref.go:185", after := #[{ on := 0, ground := Ground.data }, { on := 1, ground := Ground.data }], guard := none }) (v := ?_) rfl (by kernel_rfl) (by kernel_rfl) (by kernel_rfl) (fun _ _ _ h => h) (Or.inl ⟨by rfl, ?_⟩) HBD.out ?_
                        rotate_left
                        · (intro y hy; go_simp; try (with_reducible rfl))
                        simp only [Act.put, List.setIfInBounds_toArray, List.set_cons_zero, List.set_cons_succ]
                        refine wpAnyH_take (i := 3) (oi := { dst := some 120, op := Op.load 61 (Operand.tmp 119), type := 61, pos := "ref.go:185", after := #[{ on := 2, ground := Ground.data }], guard := none }) (v := .agg (LA false dj)) rfl (by kernel_rfl) (by kernel_rfl) (by kernel_rfl) (fun _ _ _ h => h) (Or.inl ⟨by rfl, fun z hz => exec_load_row (.tmp 119) rfl rfl (by rw [← HDJ.out]; exact (HS.out.1.keep hz).row j hjk)⟩) HBD.out ?_
                        simp only [Act.put, List.setIfInBounds_toArray, List.set_cons_zero, List.set_cons_succ]
                        refine wpAnyH_take (i := 4) (oi := { dst := some 121, op := Op.move (Operand.tmp 11), type := 66, pos := "ref.go:185", after := #[], guard := none }) (v := ?_) rfl (by kernel_rfl) (by kernel_rfl) (by kernel_rfl) (fun _ _ _ h => h) (Or.inl ⟨by rfl, ?_⟩) HBD.out ?_
                        rotate_left
                        · (intro y hy; go_simp; try (with_reducible rfl))
                        simp only [Act.put, List.setIfInBounds_toArray, List.set_cons_zero, List.set_cons_succ]
                        refine wpAnyH_take (i := 5) (oi := { dst := some 122, op := Op.move (Operand.tmp 21), type := 3, pos := "ref.go:185", after := #[], guard := none }) (v := ?_) rfl (by kernel_rfl) (by kernel_rfl) (by kernel_rfl) (fun _ _ _ h => h) (Or.inl ⟨by rfl, ?_⟩) HBD.out ?_
                        rotate_left
                        · (intro y hy; go_simp; try (with_reducible rfl))
                        simp only [Act.put, List.setIfInBounds_toArray, List.set_cons_zero, List.set_cons_succ]
                        refine wpAnyH_take (i := 6) (oi := { dst := some 123, op := Op.indexAddr 66 (Operand.tmp 121) (Operand.tmp 122), type := 0, pos := "ref.go:185", after := #[{ on := 4, ground := Ground.data }, { on := 5, ground := Ground.data }], guard := none }) (v := ?_) rfl (by kernel_rfl) (by kernel_rfl) (by kernel_rfl) (fun _ _ _ h => h) (Or.inl ⟨by rfl, ?_⟩) HBD.out ?_
                        rotate_left
                        · (intro y hy; go_simp; try (with_reducible rfl))
                        simp only [Act.put, List.setIfInBounds_toArray, List.set_cons_zero, List.set_cons_succ]
                        refine wpAnyH_take (i := 7) (oi := { dst := some 124, op := Op.load 61 (Operand.tmp 123), type := 61, pos := "ref.go:185", after := #[{ on := 6, ground := Ground.data }], guard := none }) (v := .agg (LA false di)) rfl (by kernel_rfl) (by kernel_rfl) (by kernel_rfl) (fun _ _ _ h => h) (Or.inl ⟨by rfl, fun z hz => exec_load_row (.tmp 123) rfl rfl (by rw [← HDI.out]; exact (HS.out.1.keep hz).row i hik)⟩) HBD.out ?_
                        simp only [Act.put, List.setIfInBounds_toArray, List.set_cons_zero, List.set_cons_succ]
                        refine wpAnyH_ready (rs := [8]) (by kernel_rfl) (by simp) ?_
                        refine AllReadyH.cons rfl (fun K hK => ?_) AllReadyH.nil
                        go_simp
                        refine (cmp_any false false dj di xd HDG.out.1 HDG.out.2).mono ?_
                        rw [HV.out]
                        rintro _ x9 ⟨rfl, hb9⟩
                        have HB9 : Hid (Below wr.heap.size wr x9) := bnx HBD.out hb9
                        clear hb9
                        (refine hK _ _ HB9.out ?_; clear hK K; intro _)
                        try simp only [Act.put, List.setIfInBounds_toArray, List.set_cons_zero, List.set_cons_succ]
                        refine wpAnyH_ready (rs := [9]) (by kernel_rfl) (by simp) ?_
                        refine AllReadyH.cons rfl (fun K hK => ?_) AllReadyH.nil
                        go_simp
                        (refine hK _ _ HB9.out ?_; clear hK K; intro _)
                        try simp only [Act.put, List.setIfInBounds_toArray, List.set_cons_zero, List.set_cons_succ]
                        refine wpAnyH_done (by kernel_rfl) ?_ _
                        go_wp2
                        go_meet
                        exact ⟨rfl, HB9.out⟩
                      case rest =>
                      obtain ⟨rfl, hbx⟩ := hcut
                      rename World => x8
                      have HS8 : Hid (RSt w x8 T W (wtN l) bA bL sA dA m m m gW capW gR capR sK dK R ∧ x8.ownsRow w.heap.size 2 1 (.slice (some ⟨go, 0, none⟩) i capO) i (BI (shL m T W (wtN l) i)) ∧ bA ≠ go ∧ bL ≠ go ∧ gW ≠ go ∧ gR ≠ go) := ⟨HS.out.1.keep hbx, own_at HS.out.2.1 (hbx.block _ (own_lt HS.out.2.1).1), HS.out.2.2⟩
                      clear hbx
                      by_cases h1 : rst T W (wtN l) i < rst T W (wtN l) j
                      · have hv : 0 < v := HSD.out.1.2 h1
                        have HNX : Hid (c + 1 = sumN (j + 1) (fun q => if Ahd (rst T W (wtN l)) q i then 1 else 0)) := by show _ = _; rw [sumN_succ, ← HCC.out, if_pos (.inl h1)]
                        have hcw : IntKind.i64.wrap ((c : Int) + 1) = (c : Int) + 1 := by rw [IntKind.wrap_i64]; omega
                        clear h1
                        go_wp2
                        go_roundw
                        case rel => exact ⟨j + 1, c + 1, by go_num, by go_num, by omega, by omega, HS8.out, HNX.out⟩
                        case measure => first | (simp [intOf]; done) | (simp [intOf]; omega)
                      · have hv : ¬ 0 < v := fun h => h1 (HSD.out.1.1 h)
                        by_cases h2 : rst T W (wtN l) j = rst T W (wtN l) i
                        · have hv0 : v = 0 := HSD.out.2.2 h2
                          subst hv0
                          by_cases h3 : j < i
                          · have h3z : (j : Int) < (i : Int) := by omega
                            have HNX : Hid (c + 1 = sumN (j + 1) (fun q => if Ahd (rst T W (wtN l)) q i then 1 else 0)) := by show _ = _; rw [sumN_succ, ← HCC.out, if_pos (.inr ⟨h2, h3⟩)]
                            have hcw : IntKind.i64.wrap ((c : Int) + 1) = (c : Int) + 1 := by rw [IntKind.wrap_i64]; omega
                            clear h1 h2
                            go_wp2
                            go_roundw
                            case rel => exact ⟨j + 1, c + 1, by go_num, by go_num, by omega, by omega, HS8.out, HNX.out⟩
                            case measure => first | (simp [intOf]; done) | (simp [intOf]; omega)
                          · have h3z : ¬ (j : Int) < (i : Int) := by omega
                            have HNX : Hid (c = sumN (j + 1) (fun q => if Ahd (rst T W (wtN l)) q i then 1 else 0)) := by show _ = _; rw [sumN_succ, ← HCC.out, if_neg (by rintro (h | ⟨_, h⟩); exact h1 h; exact h3 h)]; rfl
                            clear h1 h2
                            go_wp2
                            go_roundw
                            case rel => exact ⟨j + 1, c, rfl, by go_num, by omega, by omega, HS8.out, HNX.out⟩
                            case measure => first | (simp [intOf]; done) | (simp [intOf]; omega)
                        · have hv0 : (v == 0) = false := by simpa using fun h => h2 (HSD.out.2.1 h)
                          have HNX : Hid (c = sumN (j + 1) (fun q => if Ahd (rst T W (wtN l)) q i then 1 else 0)) := by show _ = _; rw [sumN_succ, ← HCC.out, if_neg (by rintro (h | ⟨h, _⟩); exact h1 h; exact h2 h)]; rfl
                          clear h1 h2
                          go_wp2
                          go_roundw
                          case rel => exact ⟨j + 1, c, rfl, by go_num, by omega, by omega, HS8.out, HNX.out⟩
                          case measure => first | (simp [intOf]; done) | (simp [intOf]; omega)
                    · obtain rfl : j = m := by omega
                      have hqc := HS.out.1.whole i hik
                      obtain ⟨u, eu⟩ : ∃ u : Nat, quo T W (wtN l) i = u := ⟨_, rfl⟩
                      rw [eu] at hqc
                      have HSH : Hid (shp j T W (wtN l) i = u + if c < f then 1 else 0) := by
                        show _ = _
                        unfold shp ahead
                        rw [eu, ← HCC.out, ← HFE.out]
                      have hle : u + (if c < f then 1 else 0) ≤ T := by rw [← HSH.out]; exact shp_le0 HD.out.hW HD.out.W0 hik
                      clear eu
                      by_cases hcf : c < f
                      · rw [if_pos hcf] at hle
                        have HS1 : Hid (shp j T W (wtN l) i = u + 1) := by show _ = _; rw [HSH.out, if_pos hcf]
                        have hcz : (c : Int) < (f : Int) := by omega
                        obtain ⟨p, ep⟩ : ∃ p, p = u + 1 := ⟨_, rfl⟩
                        have hpz : (u : Int) + 1 = (p : Int) := by omega
                        have hpw : IntKind.i64.wrap (p : Int) = (p : Int) := by rw [IntKind.wrap_i64]; omega
                        rw [← ep] at HS1
                        clear ep hcf hle
                        go_wp2_with (first
                          | (at_builtin; refine wpList_append_twoK _ rfl _ _ 46 rfl w.heap.size 2 i0 (.int .i64 0) 1 8 (by decide) Tryz.underlying46 hi hz0 hz1 hz2 rfl go i capO (BI (shL j T W (wtN l) i)) rfl (own_at HS.out.2.1 ((bal (Below.refl wr.heap.size wr) (.cells #[.int .i64 (p : Int)] 2)).block _ (own_lt HS.out.2.1).1)) ⟨wr.heap.size, 0, none⟩ 1 1 [.int .i64 (p : Int)] rfl rfl (fun j v hj => by cases j with | zero => (have h1 : v = .int .i64 (p : Int) := by simpa using hj.symm); subst h1; simp [go_sem, Addr.add] | succ j => simp at hj) (by simp [Value.oneCell']) (by decide) (by unfold maxLen; omega) (by omega) (by have h1 := HS.out.1.b.size; simp; omega) ?_; intro g2 cap2 w9 hg2 hlt2 ho2 hgr2; have HO9 : Hid (RSt w w9 T W (wtN l) bA bL sA dA j j j gW capW gR capR sK dK R ∧ w9.ownsRow w.heap.size 2 1 (.slice (some ⟨g2, 0, none⟩) (i + 1) cap2) (i + 1) (BI (shL j T W (wtN l) (i + 1))) ∧ bA ≠ g2 ∧ bL ≠ g2 ∧ gW ≠ g2 ∧ gR ≠ g2) := ⟨(HS.out.1.keep (bal (Below.refl _ _) (.cells #[.int .i64 (p : Int)] 2))).other hgr2 ⟨HS.out.2.2.1, HS.out.2.2.2.1, HS.out.2.2.2.2.1, HS.out.2.2.2.2.2, (own_lt HS.out.2.1).2⟩, by rw [shL_succ, HS1.out]; exact ho2, by have h1 := HS.out.1.A.lt; have h2 := HS.out.1.L.lt; have h3 := (own_lt HS.out.1.ow).1; have h4 := (own_lt HS.out.1.or).1; have h5 := HS.out.2.2; have h6 : wr.heap.size + 1 = (wr.alloc (.cells #[.int .i64 (p : Int)] 2)).heap.size := (by simp); omega⟩; clear hg2 hlt2 ho2 hgr2))
                        go_roundw
                        case rel => exact ⟨i + 1, g2, cap2, rfl, by go_num, by omega, HO9.out⟩
                        case measure => first | (simp [intOf]; done) | (simp [intOf]; omega)
                      · have HS1 : Hid (shp j T W (wtN l) i = u) := by show _ = _; rw [HSH.out, if_neg hcf]; rfl
                        have hcz : ¬ (c : Int) < (f : Int) := by omega
                        obtain ⟨p, ep⟩ : ∃ p, p = u := ⟨_, rfl⟩
                        subst ep
                        clear hcf hle
                        go_wp2_with (first
                          | (at_builtin; refine wpList_append_twoK _ rfl _ _ 46 rfl w.heap.size 2 i0 (.int .i64 0) 1 8 (by decide) Tryz.underlying46 hi hz0 hz1 hz2 rfl go i capO (BI (shL j T W (wtN l) i)) rfl (own_at HS.out.2.1 ((bal (Below.refl wr.heap.size wr) (.cells #[.int .i64 (p : Int)] 2)).block _ (own_lt HS.out.2.1).1)) ⟨wr.heap.size, 0, none⟩ 1 1 [.int .i64 (p : Int)] rfl rfl (fun j v hj => by cases j with | zero => (have h1 : v = .int .i64 (p : Int) := by simpa using hj.symm); subst h1; simp [go_sem, Addr.add] | succ j => simp at hj) (by simp [Value.oneCell']) (by decide) (by unfold maxLen; omega) (by omega) (by have h1 := HS.out.1.b.size; simp; omega) ?_; intro g2 cap2 w9 hg2 hlt2 ho2 hgr2; have HO9 : Hid (RSt w w9 T W (wtN l) bA bL sA dA j j j gW capW gR capR sK dK R ∧ w9.ownsRow w.heap.size 2 1 (.slice (some ⟨g2, 0, none⟩) (i + 1) cap2) (i + 1) (BI (shL j T W (wtN l) (i + 1))) ∧ bA ≠ g2 ∧ bL ≠ g2 ∧ gW ≠ g2 ∧ gR ≠ g2) := ⟨(HS.out.1.keep (bal (Below.refl _ _) (.cells #[.int .i64 (p : Int)] 2))).other hgr2 ⟨HS.out.2.2.1, HS.out.2.2.2.1, HS.out.2.2.2.2.1, HS.out.2.2.2.2.2, (own_lt HS.out.2.1).2⟩, by rw [shL_succ, HS1.out]; exact ho2, by have h1 := HS.out.1.A.lt; have h2 := HS.out.1.L.lt; have h3 := (own_lt HS.out.1.ow).1; have h4 := (own_lt HS.out.1.or).1; have h5 := HS.out.2.2; have h6 : wr.heap.size + 1 = (wr.alloc (.cells #[.int .i64 (p : Int)] 2)).heap.size := (by simp); omega⟩; clear hg2 hlt2 ho2 hgr2))
                        go_roundw
                        case rel => exact ⟨i + 1, g2, cap2, rfl, by go_num, by omega, HO9.out⟩
                        case measure => first | (simp [intOf]; done) | (simp [intOf]; omega)
                · obtain rfl : i = m := by omega
                  go_wp2
                  go_ret2
                  refine ⟨.slice (some ⟨go, 0, none⟩) i capO, by rw [HYES.out]; rfl, HO.out.1.b, (fun h => absurd (HYES.out.symm.trans h) (by decide)), fun _ => ?_⟩
                  have hW : l.sum.toNat = W := by rw [HD.out.s]; simp
                  rw [hW, show ((T : Int)).toNat = T from by simp]
                  refine ⟨shp_in HD.out, ?_⟩
                  rw [shpL_len]
                  exact HO.out.2.1
end Go.Proofs.YtblfmfanfpohbaaGreat
