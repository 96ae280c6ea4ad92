/- Own texts, joined: Rv3A0, Rv3A1, Rv3A2. -/
import Derived.Test.YtblfmfanfpohbaaGreatG15
namespace Go.Proofs.YtblfmfanfpohbaaGreat
open Go.ChangeShapes Go.WideShapes Go.ChangeAt Go.RowKit
set_option linter.unusedVariables false
set_option linter.unusedSimpArgs false
set_option maxRecDepth 20000 in
set_option maxHeartbeats 16000000 in
theorem rvalid_restA0 (s : St) (a : Option Addr) (n cap : Nat) (w : World) (hn : s.lines.length = n) (hl : Lns w a s.lines) (hm : n ≤ maxLen) (h1 : NumOk s) (h2 : chk 4 (whoE s.who) = 0) (h3 : linesB s.lines = true) (h4 : 0 ≤ s.refunded ∧ s.refunded ≤ s.paid ∧ 0 ≤ s.paid ∧ s.paid ≤ dueS s) (hst : s.status = 2) (hp1 : s.prior = 1) (hp : 0 < s.paid) (hq : (s.paid == dueS s) = false) : Calls Tryz.prog 13 #[.agg (stA s (.slice a n cap))] w fun e w' => e = .returned (.bool (priorB s && fitsB s)) ∧ Below w.heap.size w w' := by
  have HN : Hid (s.lines.length = n) := hn
  obtain ⟨W, hW⟩ : ∃ W, w.alloc (.cells (stA s (.slice a n cap)) 25) = W := ⟨_, rfl⟩
  have HS := StC.new w s a n cap hl
  rw [hW] at HS
  have HSH : Hid (StC w w.heap.size s a n cap W) := HS
  obtain ⟨c0, c1, c2, c3, c4, c6, c7, c8, c9, c10, c11, c5⟩ := stcells HS.1
  have HW4 : Hid (_) := h2
  have HLB : Hid (_) := h3
  obtain ⟨a1, a2, b1, b2, e1, e2, f1, f2, g1, g2, i1, i2, j1, j2⟩ := h1
  obtain ⟨E, hE⟩ : ∃ E, StC w w.heap.size s a n cap = E := ⟨_, rfl⟩
  have R : Hid (∀ w2, E w2 → w2.cell? ⟨w.heap.size, 6, none⟩ = some (.int .i64 s.paid) ∧ w2.cell? ⟨w.heap.size, 7, none⟩ = some (.int .i64 s.refunded)) := fun w2 h => by rw [← hE] at h; exact ⟨h.1.cell 6 _ rfl, h.1.cell 7 _ rfl⟩
  have RS : Hid (∀ w2, E w2 → StAt w2 w.heap.size s (.slice a n cap)) := fun w2 h => by rw [← hE] at h; exact h.1
  have HBel : Hid (∀ w2, E w2 → Below w.heap.size w w2) := fun w2 h => by rw [← hE] at h; exact h.2.2
  have HLn : Hid (∀ w2, E w2 → Lns w2 a s.lines) := fun w2 h => by rw [← hE] at h; exact h.2.1
  have HK : Hid (∀ w1 w2, E w1 → Below w1.heap.size w1 w2 → E w2) := fun w1 w2 h h2 => by rw [← hE] at h ⊢; exact h.keep h2
  have HEi : Hid (∀ w2, StC w w.heap.size s a n cap w2 → E w2) := fun w2 h => by rw [← hE]; exact h
  obtain ⟨D, hD⟩ : ∃ D, dueS s = D := ⟨_, rfl⟩
  have CD : Hid (∀ w2, E w2 → Calls Tryz.prog 16 #[.agg (stA s (.slice a n cap))] w2 fun e w' => e = .returned (.int .i64 D) ∧ E w') := fun w2 h => (rdue_any s a n cap w2 hn (HLn.out w2 h) h3 f1 f2).mono fun e w' ⟨k1, k2⟩ => ⟨by rw [← hD]; exact k1, HK.out _ _ h k2⟩
  rw [hD] at h4
  obtain ⟨m1, m2, m3, m4⟩ := h4
  have gt1 : decide (s.refunded < 0) = false := decide_eq_false (by omega)
  have gt2 : decide (s.paid < s.refunded) = false := decide_eq_false (by omega)
  have gt3 : decide (s.paid < 0) = false := decide_eq_false (by omega)
  have gt4 : decide (D < s.paid) = false := decide_eq_false (by omega)
  have CU : Hid (∀ w2, E w2 → _) := fun w2 h => runt_any s a n cap w2 hn (HLn.out w2 h) hm
  have CWh : Hid (∀ w2, E w2 → _) := fun w2 h => rwhole_any s a n cap w2 hn (HLn.out w2 h) hm
  obtain ⟨Pd, hPd⟩ : ∃ P, paidB s = P := ⟨_, rfl⟩
  have HPd : Hid ((decide (0 < s.paid) && s.paid == D) = Pd) := by show _ = _; rw [← hPd]; unfold paidB; rw [hD]
  obtain ⟨U, hU⟩ : ∃ U, unshB s.lines = U := ⟨_, rfl⟩
  obtain ⟨Wh, hWh⟩ : ∃ W, wholeB s.lines = W := ⟨_, rfl⟩
  obtain ⟨k, hk⟩ : ∃ k, standS s = k := ⟨_, rfl⟩
  have HKK : Hid (_) := hk
  rw [hU] at CU
  rw [hWh] at CWh
  have HF : Hid (fitsB s = if k = 0 then (((n : Int) == 0) && (s.cur == 0 && (s.tax == 0 && (s.paid == 0 && (s.stamp == 0 && (s.who.toList == [] && s.refused == s.events)))))) else if k = 1 then U && (s.refunded == 0 && !Pd) else if k = 3 then Pd && !Wh else if k = 4 then Pd && Wh else U) := by
    show _ = _
    unfold fitsB
    rw [hk, hPd, hU, hWh]
    have : untB s = (((n : Int) == 0) && (s.cur == 0 && (s.tax == 0 && (s.paid == 0 && (s.stamp == 0 && (s.who.toList == [] && s.refused == s.events)))))) := by
      unfold untB
      rw [hn]
      congr 1
      cases n <;> rfl
    rw [this]
  rw [hD] at hq
  clear hn hl HS h2 h3 hE hD hk hU hWh hPd
  go_enter Tryz.func13, Tryz.ntmps13
  go_wp2_with (first
    | (go_at_call 28; refine (rcheck_ev 4 (whoE s.who) _).mono ?_; rw [HW4.out]; rintro _ x1 ⟨rfl, hb1⟩; have HC1 : Hid (StC w w.heap.size s a n cap x1) := StC.keep HSH.out hb1; obtain ⟨d0, d1, d2, d3, d4, d6, d7, d8, d9, d10, d11, d5⟩ := stcells (StC.keep HSH.out hb1).1; clear hb1)
    | ((with_reducible refine guard_loadg 25 ?_); refine wpList_load_stg rfl _ rfl HC1.out.1 rfl ?_)
    | (go_at_call 29; refine (rlines_any s a n cap _ HN.out HC1.out.2.1 hm).mono ?_; rw [HLB.out]; rintro _ x2 ⟨rfl, hb2⟩; have HC2 : Hid (StC w w.heap.size s a n cap x2) := StC.keep HC1.out hb2; clear hb2))
  refine wp_region_quiet (C := E) (by kernel_rfl) (by kernel_rfl) (HK.out x2 _ (HEi.out _ HC2.out) (Below.refl _ _).drew) ?_
  simp only [List.toList_toArray]
  repeat (any_goals (first
    | go_big_quiet_skip
    | (go_big_quiet_want
       first
       | (refine quiet_val (v := .agg (stA s (.slice a n cap))) (fun w2 hw2 => exec_load_st (.tmp 1) rfl rfl (RS.out w2 hw2)) ?_
          go_big_quiet_on; simp only [Act.put, List.setIfInBounds_toArray, List.set_cons_zero, List.set_cons_succ])
       | (refine quiet_val (v := ?_) (fun w2 hw2 => ?_) ?_
          rotate_left
          · (first | (go_simp; with_reducible rfl) | (obtain ⟨q1, q2⟩ := R.out w2 hw2; go_simp; with_reducible rfl))
          go_big_quiet_on; simp only [Act.put, List.setIfInBounds_toArray, List.set_cons_zero, List.set_cons_succ])
       | (refine quiet_call (v := ?_) (f := ?_) (args := ?_) (fun w2 hw2 => ?_) (fun w2 hw2 => ?_) ?_
          rotate_left 3
          · (go_simp; refine ⟨?_, ?_⟩ <;> with_reducible rfl)
          · exact CD.out _ hw2
          (go_big_quiet_on; simp only [Act.put, List.setIfInBounds_toArray, List.set_cons_zero, List.set_cons_succ])))))
  all_goals
    refine wpQuiet_nil ?_
    intro w3 hw3
    have HW3 : Hid (E w3) := hw3
    obtain ⟨k0, k1, k2, k3, k4, k6, k7, k8, k9, k10, k11, k5⟩ := stcells (RS.out w3 hw3)
    have HEE : Hid (E w3.drew) := HK.out w3 _ hw3 (Below.refl _ _).drew
    clear hw3 c0 c1 c2 c3 c4 c6 c7 c8 c9 c10 c11 c5 d0 d1 d2 d3 d4 d6 d7 d8 d9 d10 d11 d5
    have e2 : (s.status == 2) = true := by simpa using hst
    have n2 : (s.status != 2) = false := by simpa using hst
    have f1 : (s.prior != 1) = false := by simpa using hp1
    have HPB : Hid (priorB s = true) := by show _ = _; unfold priorB; rw [if_pos hst, hp1]; rfl
    clear hst hp1
    have gp : decide (0 < s.paid) = true := decide_eq_true hp
    obtain rfl : Pd = false := by rw [← HPd.out, gp, hq]; rfl
    clear HPd hp
    go_wp2
    refine wp_region_quiet (C := E) (by kernel_rfl) (by kernel_rfl) HEE.out ?_
    simp only [List.toList_toArray]
    repeat (any_goals (first
      | go_big_quiet_skip
      | (go_big_quiet_want
         first
         | (refine quiet_val (v := .agg (stA s (.slice a n cap))) (fun w2 hw2 => exec_load_st (.tmp 1) rfl rfl (RS.out w2 hw2)) ?_
            go_big_quiet_on; simp only [Act.put, List.setIfInBounds_toArray, List.set_cons_zero, List.set_cons_succ])
         | (refine quiet_val (v := ?_) (fun w2 hw2 => ?_) ?_
            rotate_left
            · (first | (go_simp; with_reducible rfl) | (obtain ⟨q1, q2⟩ := R.out w2 hw2; go_simp; with_reducible rfl))
            go_big_quiet_on; simp only [Act.put, List.setIfInBounds_toArray, List.set_cons_zero, List.set_cons_succ])
         | (refine quiet_call (v := ?_) (f := ?_) (args := ?_) (fun w2 hw2 => ?_) (fun w2 hw2 => ?_) ?_
            rotate_left 3
            · (go_simp; refine ⟨?_, ?_⟩ <;> with_reducible rfl)
            · exact CD.out _ hw2
            (go_big_quiet_on; simp only [Act.put, List.setIfInBounds_toArray, List.set_cons_zero, List.set_cons_succ])))))
    all_goals
      refine wpQuiet_nil ?_
      intro w4 hw4
      have HX : Hid (E w4) := hw4
      clear hw4
      go_wp2_with (first
        | ((with_reducible refine guard_load 25 ?_); refine wpList_load_st rfl _ rfl (RS.out _ HX.out) rfl ?_)
        | ((with_reducible refine guard_loadg 25 ?_); refine wpList_load_stg rfl _ rfl (RS.out _ HX.out) rfl ?_)
        | (go_at_call 30; refine (rstands_any s a n cap _).mono ?_; rw [HKK.out]; rintro _ w5 ⟨rfl, hb5⟩; have HY : Hid (E w5) := HK.out _ _ HX.out hb5; clear HX hb5; have HX := HY; clear HY; obtain ⟨l0, l1, l2, l3, l4, l6, l7, l8, l9, l10, l11, l5⟩ := stcells (RS.out w5 HX.out); rcases fitc HF.out with ⟨rfl, g0, hv⟩ | ⟨rfl, g0, g1, hv⟩ | ⟨rfl, g0, g1, g2, hv⟩ | ⟨rfl, g0, g1, g2, g3, hv⟩ | ⟨rfl, g0, g1, g2, g3, g4, hv⟩ | ⟨rfl, g0, g1, g2, g3, g4, g5, hv⟩ | ⟨rfl, g0, g1, g2, g3, g4, g5, hv⟩ | ⟨rfl, rfl, hv⟩ | ⟨rfl, rfl, g0, hv⟩ | ⟨rfl, rfl, g0, hv⟩ | ⟨rfl, hv⟩ | ⟨rfl, hv⟩ | ⟨g0, g1, g2, g3, hv⟩ <;> (have HV : Hid (_ = _) := hv; clear hv))
        | (go_at_call 31; refine (CU.out _ HX.out).mono ?_; rintro _ w5 ⟨rfl, hb5⟩; have HY : Hid (E w5) := HK.out _ _ HX.out hb5; clear HX hb5; have HX := HY; clear HY; have m7 : World.cell? w5 ⟨w.heap.size, 7, none⟩ = some (.int .i64 s.refunded) := (RS.out w5 HX.out).cell 7 _ rfl)
        | (go_at_call 32; refine (CWh.out _ HX.out).mono ?_; rintro _ w5 ⟨rfl, hb5⟩; have HY : Hid (E w5) := HK.out _ _ HX.out hb5; clear HX hb5; have HX := HY; clear HY))
      all_goals
        go_ret
        exact ⟨ret_bool (by rw [HPB.out, HV.out]; first | rfl | simp [hq]), HBel.out _ HX.out⟩
end Go.Proofs.YtblfmfanfpohbaaGreat
namespace Go.Proofs.YtblfmfanfpohbaaGreat
open Go.ChangeShapes Go.WideShapes Go.ChangeAt Go.RowKit
set_option linter.unusedVariables false
set_option linter.unusedSimpArgs false
set_option maxRecDepth 20000 in
set_option maxHeartbeats 16000000 in
theorem rvalid_restA1 (s : St) (a : Option Addr) (n cap : Nat) (w : World) (hn : s.lines.length = n) (hl : Lns w a s.lines) (hm : n ≤ maxLen) (h1 : NumOk s) (h2 : chk 4 (whoE s.who) = 0) (h3 : linesB s.lines = true) (h4 : 0 ≤ s.refunded ∧ s.refunded ≤ s.paid ∧ 0 ≤ s.paid ∧ s.paid ≤ dueS s) (hst : s.status = 2) (hp1 : s.prior = 1) (hp : 0 < s.paid) (hq : (s.paid == dueS s) = true) : Calls Tryz.prog 13 #[.agg (stA s (.slice a n cap))] w fun e w' => e = .returned (.bool (priorB s && fitsB s)) ∧ Below w.heap.size w w' := by
  have HN : Hid (s.lines.length = n) := hn
  obtain ⟨W, hW⟩ : ∃ W, w.alloc (.cells (stA s (.slice a n cap)) 25) = W := ⟨_, rfl⟩
  have HS := StC.new w s a n cap hl
  rw [hW] at HS
  have HSH : Hid (StC w w.heap.size s a n cap W) := HS
  obtain ⟨c0, c1, c2, c3, c4, c6, c7, c8, c9, c10, c11, c5⟩ := stcells HS.1
  have HW4 : Hid (_) := h2
  have HLB : Hid (_) := h3
  obtain ⟨a1, a2, b1, b2, e1, e2, f1, f2, g1, g2, i1, i2, j1, j2⟩ := h1
  obtain ⟨E, hE⟩ : ∃ E, StC w w.heap.size s a n cap = E := ⟨_, rfl⟩
  have R : Hid (∀ w2, E w2 → w2.cell? ⟨w.heap.size, 6, none⟩ = some (.int .i64 s.paid) ∧ w2.cell? ⟨w.heap.size, 7, none⟩ = some (.int .i64 s.refunded)) := fun w2 h => by rw [← hE] at h; exact ⟨h.1.cell 6 _ rfl, h.1.cell 7 _ rfl⟩
  have RS : Hid (∀ w2, E w2 → StAt w2 w.heap.size s (.slice a n cap)) := fun w2 h => by rw [← hE] at h; exact h.1
  have HBel : Hid (∀ w2, E w2 → Below w.heap.size w w2) := fun w2 h => by rw [← hE] at h; exact h.2.2
  have HLn : Hid (∀ w2, E w2 → Lns w2 a s.lines) := fun w2 h => by rw [← hE] at h; exact h.2.1
  have HK : Hid (∀ w1 w2, E w1 → Below w1.heap.size w1 w2 → E w2) := fun w1 w2 h h2 => by rw [← hE] at h ⊢; exact h.keep h2
  have HEi : Hid (∀ w2, StC w w.heap.size s a n cap w2 → E w2) := fun w2 h => by rw [← hE]; exact h
  obtain ⟨D, hD⟩ : ∃ D, dueS s = D := ⟨_, rfl⟩
  have CD : Hid (∀ w2, E w2 → Calls Tryz.prog 16 #[.agg (stA s (.slice a n cap))] w2 fun e w' => e = .returned (.int .i64 D) ∧ E w') := fun w2 h => (rdue_any s a n cap w2 hn (HLn.out w2 h) h3 f1 f2).mono fun e w' ⟨k1, k2⟩ => ⟨by rw [← hD]; exact k1, HK.out _ _ h k2⟩
  rw [hD] at h4
  obtain ⟨m1, m2, m3, m4⟩ := h4
  have gt1 : decide (s.refunded < 0) = false := decide_eq_false (by omega)
  have gt2 : decide (s.paid < s.refunded) = false := decide_eq_false (by omega)
  have gt3 : decide (s.paid < 0) = false := decide_eq_false (by omega)
  have gt4 : decide (D < s.paid) = false := decide_eq_false (by omega)
  have CU : Hid (∀ w2, E w2 → _) := fun w2 h => runt_any s a n cap w2 hn (HLn.out w2 h) hm
  have CWh : Hid (∀ w2, E w2 → _) := fun w2 h => rwhole_any s a n cap w2 hn (HLn.out w2 h) hm
  obtain ⟨Pd, hPd⟩ : ∃ P, paidB s = P := ⟨_, rfl⟩
  have HPd : Hid ((decide (0 < s.paid) && s.paid == D) = Pd) := by show _ = _; rw [← hPd]; unfold paidB; rw [hD]
  obtain ⟨U, hU⟩ : ∃ U, unshB s.lines = U := ⟨_, rfl⟩
  obtain ⟨Wh, hWh⟩ : ∃ W, wholeB s.lines = W := ⟨_, rfl⟩
  obtain ⟨k, hk⟩ : ∃ k, standS s = k := ⟨_, rfl⟩
  have HKK : Hid (_) := hk
  rw [hU] at CU
  rw [hWh] at CWh
  have HF : Hid (fitsB s = if k = 0 then (((n : Int) == 0) && (s.cur == 0 && (s.tax == 0 && (s.paid == 0 && (s.stamp == 0 && (s.who.toList == [] && s.refused == s.events)))))) else if k = 1 then U && (s.refunded == 0 && !Pd) else if k = 3 then Pd && !Wh else if k = 4 then Pd && Wh else U) := by
    show _ = _
    unfold fitsB
    rw [hk, hPd, hU, hWh]
    have : untB s = (((n : Int) == 0) && (s.cur == 0 && (s.tax == 0 && (s.paid == 0 && (s.stamp == 0 && (s.who.toList == [] && s.refused == s.events)))))) := by
      unfold untB
      rw [hn]
      congr 1
      cases n <;> rfl
    rw [this]
  rw [hD] at hq
  clear hn hl HS h2 h3 hE hD hk hU hWh hPd
  go_enter Tryz.func13, Tryz.ntmps13
  go_wp2_with (first
    | (go_at_call 28; refine (rcheck_ev 4 (whoE s.who) _).mono ?_; rw [HW4.out]; rintro _ x1 ⟨rfl, hb1⟩; have HC1 : Hid (StC w w.heap.size s a n cap x1) := StC.keep HSH.out hb1; obtain ⟨d0, d1, d2, d3, d4, d6, d7, d8, d9, d10, d11, d5⟩ := stcells (StC.keep HSH.out hb1).1; clear hb1)
    | ((with_reducible refine guard_loadg 25 ?_); refine wpList_load_stg rfl _ rfl HC1.out.1 rfl ?_)
    | (go_at_call 29; refine (rlines_any s a n cap _ HN.out HC1.out.2.1 hm).mono ?_; rw [HLB.out]; rintro _ x2 ⟨rfl, hb2⟩; have HC2 : Hid (StC w w.heap.size s a n cap x2) := StC.keep HC1.out hb2; clear hb2))
  refine wp_region_quiet (C := E) (by kernel_rfl) (by kernel_rfl) (HK.out x2 _ (HEi.out _ HC2.out) (Below.refl _ _).drew) ?_
  simp only [List.toList_toArray]
  repeat (any_goals (first
    | go_big_quiet_skip
    | (go_big_quiet_want
       first
       | (refine quiet_val (v := .agg (stA s (.slice a n cap))) (fun w2 hw2 => exec_load_st (.tmp 1) rfl rfl (RS.out w2 hw2)) ?_
          go_big_quiet_on; simp only [Act.put, List.setIfInBounds_toArray, List.set_cons_zero, List.set_cons_succ])
       | (refine quiet_val (v := ?_) (fun w2 hw2 => ?_) ?_
          rotate_left
          · (first | (go_simp; with_reducible rfl) | (obtain ⟨q1, q2⟩ := R.out w2 hw2; go_simp; with_reducible rfl))
          go_big_quiet_on; simp only [Act.put, List.setIfInBounds_toArray, List.set_cons_zero, List.set_cons_succ])
       | (refine quiet_call (v := ?_) (f := ?_) (args := ?_) (fun w2 hw2 => ?_) (fun w2 hw2 => ?_) ?_
          rotate_left 3
          · (go_simp; refine ⟨?_, ?_⟩ <;> with_reducible rfl)
          · exact CD.out _ hw2
          (go_big_quiet_on; simp only [Act.put, List.setIfInBounds_toArray, List.set_cons_zero, List.set_cons_succ])))))
  all_goals
    refine wpQuiet_nil ?_
    intro w3 hw3
    have HW3 : Hid (E w3) := hw3
    obtain ⟨k0, k1, k2, k3, k4, k6, k7, k8, k9, k10, k11, k5⟩ := stcells (RS.out w3 hw3)
    have HEE : Hid (E w3.drew) := HK.out w3 _ hw3 (Below.refl _ _).drew
    clear hw3 c0 c1 c2 c3 c4 c6 c7 c8 c9 c10 c11 c5 d0 d1 d2 d3 d4 d6 d7 d8 d9 d10 d11 d5
    have e2 : (s.status == 2) = true := by simpa using hst
    have n2 : (s.status != 2) = false := by simpa using hst
    have f1 : (s.prior != 1) = false := by simpa using hp1
    have HPB : Hid (priorB s = true) := by show _ = _; unfold priorB; rw [if_pos hst, hp1]; rfl
    clear hst hp1
    have gp : decide (0 < s.paid) = true := decide_eq_true hp
    obtain rfl : Pd = true := by rw [← HPd.out, gp, hq]; rfl
    clear HPd hp
    go_wp2
    refine wp_region_quiet (C := E) (by kernel_rfl) (by kernel_rfl) HEE.out ?_
    simp only [List.toList_toArray]
    repeat (any_goals (first
      | go_big_quiet_skip
      | (go_big_quiet_want
         first
         | (refine quiet_val (v := .agg (stA s (.slice a n cap))) (fun w2 hw2 => exec_load_st (.tmp 1) rfl rfl (RS.out w2 hw2)) ?_
            go_big_quiet_on; simp only [Act.put, List.setIfInBounds_toArray, List.set_cons_zero, List.set_cons_succ])
         | (refine quiet_val (v := ?_) (fun w2 hw2 => ?_) ?_
            rotate_left
            · (first | (go_simp; with_reducible rfl) | (obtain ⟨q1, q2⟩ := R.out w2 hw2; go_simp; with_reducible rfl))
            go_big_quiet_on; simp only [Act.put, List.setIfInBounds_toArray, List.set_cons_zero, List.set_cons_succ])
         | (refine quiet_call (v := ?_) (f := ?_) (args := ?_) (fun w2 hw2 => ?_) (fun w2 hw2 => ?_) ?_
            rotate_left 3
            · (go_simp; refine ⟨?_, ?_⟩ <;> with_reducible rfl)
            · exact CD.out _ hw2
            (go_big_quiet_on; simp only [Act.put, List.setIfInBounds_toArray, List.set_cons_zero, List.set_cons_succ])))))
    all_goals
      refine wpQuiet_nil ?_
      intro w4 hw4
      have HX : Hid (E w4) := hw4
      clear hw4
      go_wp2_with (first
        | ((with_reducible refine guard_load 25 ?_); refine wpList_load_st rfl _ rfl (RS.out _ HX.out) rfl ?_)
        | ((with_reducible refine guard_loadg 25 ?_); refine wpList_load_stg rfl _ rfl (RS.out _ HX.out) rfl ?_)
        | (go_at_call 30; refine (rstands_any s a n cap _).mono ?_; rw [HKK.out]; rintro _ w5 ⟨rfl, hb5⟩; have HY : Hid (E w5) := HK.out _ _ HX.out hb5; clear HX hb5; have HX := HY; clear HY; obtain ⟨l0, l1, l2, l3, l4, l6, l7, l8, l9, l10, l11, l5⟩ := stcells (RS.out w5 HX.out); rcases fitc HF.out with ⟨rfl, g0, hv⟩ | ⟨rfl, g0, g1, hv⟩ | ⟨rfl, g0, g1, g2, hv⟩ | ⟨rfl, g0, g1, g2, g3, hv⟩ | ⟨rfl, g0, g1, g2, g3, g4, hv⟩ | ⟨rfl, g0, g1, g2, g3, g4, g5, hv⟩ | ⟨rfl, g0, g1, g2, g3, g4, g5, hv⟩ | ⟨rfl, rfl, hv⟩ | ⟨rfl, rfl, g0, hv⟩ | ⟨rfl, rfl, g0, hv⟩ | ⟨rfl, hv⟩ | ⟨rfl, hv⟩ | ⟨g0, g1, g2, g3, hv⟩ <;> (have HV : Hid (_ = _) := hv; clear hv))
        | (go_at_call 31; refine (CU.out _ HX.out).mono ?_; rintro _ w5 ⟨rfl, hb5⟩; have HY : Hid (E w5) := HK.out _ _ HX.out hb5; clear HX hb5; have HX := HY; clear HY; have m7 : World.cell? w5 ⟨w.heap.size, 7, none⟩ = some (.int .i64 s.refunded) := (RS.out w5 HX.out).cell 7 _ rfl)
        | (go_at_call 32; refine (CWh.out _ HX.out).mono ?_; rintro _ w5 ⟨rfl, hb5⟩; have HY : Hid (E w5) := HK.out _ _ HX.out hb5; clear HX hb5; have HX := HY; clear HY))
      all_goals
        go_ret
        exact ⟨ret_bool (by rw [HPB.out, HV.out]; first | rfl | simp [hq]), HBel.out _ HX.out⟩
end Go.Proofs.YtblfmfanfpohbaaGreat
namespace Go.Proofs.YtblfmfanfpohbaaGreat
open Go.ChangeShapes Go.WideShapes Go.ChangeAt Go.RowKit
set_option linter.unusedVariables false
set_option linter.unusedSimpArgs false
set_option maxRecDepth 20000 in
set_option maxHeartbeats 16000000 in
theorem rvalid_restA2 (s : St) (a : Option Addr) (n cap : Nat) (w : World) (hn : s.lines.length = n) (hl : Lns w a s.lines) (hm : n ≤ maxLen) (h1 : NumOk s) (h2 : chk 4 (whoE s.who) = 0) (h3 : linesB s.lines = true) (h4 : 0 ≤ s.refunded ∧ s.refunded ≤ s.paid ∧ 0 ≤ s.paid ∧ s.paid ≤ dueS s) (hst : s.status = 2) (hp1 : s.prior = 1) (hp : ¬ 0 < s.paid) : Calls Tryz.prog 13 #[.agg (stA s (.slice a n cap))] w fun e w' => e = .returned (.bool (priorB s && fitsB s)) ∧ Below w.heap.size w w' := by
  have HN : Hid (s.lines.length = n) := hn
  obtain ⟨W, hW⟩ : ∃ W, w.alloc (.cells (stA s (.slice a n cap)) 25) = W := ⟨_, rfl⟩
  have HS := StC.new w s a n cap hl
  rw [hW] at HS
  have HSH : Hid (StC w w.heap.size s a n cap W) := HS
  obtain ⟨c0, c1, c2, c3, c4, c6, c7, c8, c9, c10, c11, c5⟩ := stcells HS.1
  have HW4 : Hid (_) := h2
  have HLB : Hid (_) := h3
  obtain ⟨a1, a2, b1, b2, e1, e2, f1, f2, g1, g2, i1, i2, j1, j2⟩ := h1
  obtain ⟨E, hE⟩ : ∃ E, StC w w.heap.size s a n cap = E := ⟨_, rfl⟩
  have R : Hid (∀ w2, E w2 → w2.cell? ⟨w.heap.size, 6, none⟩ = some (.int .i64 s.paid) ∧ w2.cell? ⟨w.heap.size, 7, none⟩ = some (.int .i64 s.refunded)) := fun w2 h => by rw [← hE] at h; exact ⟨h.1.cell 6 _ rfl, h.1.cell 7 _ rfl⟩
  have RS : Hid (∀ w2, E w2 → StAt w2 w.heap.size s (.slice a n cap)) := fun w2 h => by rw [← hE] at h; exact h.1
  have HBel : Hid (∀ w2, E w2 → Below w.heap.size w w2) := fun w2 h => by rw [← hE] at h; exact h.2.2
  have HLn : Hid (∀ w2, E w2 → Lns w2 a s.lines) := fun w2 h => by rw [← hE] at h; exact h.2.1
  have HK : Hid (∀ w1 w2, E w1 → Below w1.heap.size w1 w2 → E w2) := fun w1 w2 h h2 => by rw [← hE] at h ⊢; exact h.keep h2
  have HEi : Hid (∀ w2, StC w w.heap.size s a n cap w2 → E w2) := fun w2 h => by rw [← hE]; exact h
  obtain ⟨D, hD⟩ : ∃ D, dueS s = D := ⟨_, rfl⟩
  have CD : Hid (∀ w2, E w2 → Calls Tryz.prog 16 #[.agg (stA s (.slice a n cap))] w2 fun e w' => e = .returned (.int .i64 D) ∧ E w') := fun w2 h => (rdue_any s a n cap w2 hn (HLn.out w2 h) h3 f1 f2).mono fun e w' ⟨k1, k2⟩ => ⟨by rw [← hD]; exact k1, HK.out _ _ h k2⟩
  rw [hD] at h4
  obtain ⟨m1, m2, m3, m4⟩ := h4
  have gt1 : decide (s.refunded < 0) = false := decide_eq_false (by omega)
  have gt2 : decide (s.paid < s.refunded) = false := decide_eq_false (by omega)
  have gt3 : decide (s.paid < 0) = false := decide_eq_false (by omega)
  have gt4 : decide (D < s.paid) = false := decide_eq_false (by omega)
  have CU : Hid (∀ w2, E w2 → _) := fun w2 h => runt_any s a n cap w2 hn (HLn.out w2 h) hm
  have CWh : Hid (∀ w2, E w2 → _) := fun w2 h => rwhole_any s a n cap w2 hn (HLn.out w2 h) hm
  obtain ⟨Pd, hPd⟩ : ∃ P, paidB s = P := ⟨_, rfl⟩
  have HPd : Hid ((decide (0 < s.paid) && s.paid == D) = Pd) := by show _ = _; rw [← hPd]; unfold paidB; rw [hD]
  obtain ⟨U, hU⟩ : ∃ U, unshB s.lines = U := ⟨_, rfl⟩
  obtain ⟨Wh, hWh⟩ : ∃ W, wholeB s.lines = W := ⟨_, rfl⟩
  obtain ⟨k, hk⟩ : ∃ k, standS s = k := ⟨_, rfl⟩
  have HKK : Hid (_) := hk
  rw [hU] at CU
  rw [hWh] at CWh
  have HF : Hid (fitsB s = if k = 0 then (((n : Int) == 0) && (s.cur == 0 && (s.tax == 0 && (s.paid == 0 && (s.stamp == 0 && (s.who.toList == [] && s.refused == s.events)))))) else if k = 1 then U && (s.refunded == 0 && !Pd) else if k = 3 then Pd && !Wh else if k = 4 then Pd && Wh else U) := by
    show _ = _
    unfold fitsB
    rw [hk, hPd, hU, hWh]
    have : untB s = (((n : Int) == 0) && (s.cur == 0 && (s.tax == 0 && (s.paid == 0 && (s.stamp == 0 && (s.who.toList == [] && s.refused == s.events)))))) := by
      unfold untB
      rw [hn]
      congr 1
      cases n <;> rfl
    rw [this]
  clear hn hl HS h2 h3 hE hD hk hU hWh hPd
  go_enter Tryz.func13, Tryz.ntmps13
  go_wp2_with (first
    | (go_at_call 28; refine (rcheck_ev 4 (whoE s.who) _).mono ?_; rw [HW4.out]; rintro _ x1 ⟨rfl, hb1⟩; have HC1 : Hid (StC w w.heap.size s a n cap x1) := StC.keep HSH.out hb1; obtain ⟨d0, d1, d2, d3, d4, d6, d7, d8, d9, d10, d11, d5⟩ := stcells (StC.keep HSH.out hb1).1; clear hb1)
    | ((with_reducible refine guard_loadg 25 ?_); refine wpList_load_stg rfl _ rfl HC1.out.1 rfl ?_)
    | (go_at_call 29; refine (rlines_any s a n cap _ HN.out HC1.out.2.1 hm).mono ?_; rw [HLB.out]; rintro _ x2 ⟨rfl, hb2⟩; have HC2 : Hid (StC w w.heap.size s a n cap x2) := StC.keep HC1.out hb2; clear hb2))
  refine wp_region_quiet (C := E) (by kernel_rfl) (by kernel_rfl) (HK.out x2 _ (HEi.out _ HC2.out) (Below.refl _ _).drew) ?_
  simp only [List.toList_toArray]
  repeat (any_goals (first
    | go_big_quiet_skip
    | (go_big_quiet_want
       first
       | (refine quiet_val (v := .agg (stA s (.slice a n cap))) (fun w2 hw2 => exec_load_st (.tmp 1) rfl rfl (RS.out w2 hw2)) ?_
          go_big_quiet_on; simp only [Act.put, List.setIfInBounds_toArray, List.set_cons_zero, List.set_cons_succ])
       | (refine quiet_val (v := ?_) (fun w2 hw2 => ?_) ?_
          rotate_left
          · (first | (go_simp; with_reducible rfl) | (obtain ⟨q1, q2⟩ := R.out w2 hw2; go_simp; with_reducible rfl))
          go_big_quiet_on; simp only [Act.put, List.setIfInBounds_toArray, List.set_cons_zero, List.set_cons_succ])
       | (refine quiet_call (v := ?_) (f := ?_) (args := ?_) (fun w2 hw2 => ?_) (fun w2 hw2 => ?_) ?_
          rotate_left 3
          · (go_simp; refine ⟨?_, ?_⟩ <;> with_reducible rfl)
          · exact CD.out _ hw2
          (go_big_quiet_on; simp only [Act.put, List.setIfInBounds_toArray, List.set_cons_zero, List.set_cons_succ])))))
  all_goals
    refine wpQuiet_nil ?_
    intro w3 hw3
    have HW3 : Hid (E w3) := hw3
    obtain ⟨k0, k1, k2, k3, k4, k6, k7, k8, k9, k10, k11, k5⟩ := stcells (RS.out w3 hw3)
    have HEE : Hid (E w3.drew) := HK.out w3 _ hw3 (Below.refl _ _).drew
    clear hw3 c0 c1 c2 c3 c4 c6 c7 c8 c9 c10 c11 c5 d0 d1 d2 d3 d4 d6 d7 d8 d9 d10 d11 d5
    have e2 : (s.status == 2) = true := by simpa using hst
    have n2 : (s.status != 2) = false := by simpa using hst
    have f1 : (s.prior != 1) = false := by simpa using hp1
    have HPB : Hid (priorB s = true) := by show _ = _; unfold priorB; rw [if_pos hst, hp1]; rfl
    clear hst hp1
    have hq : decide (0 < s.paid) = false := decide_eq_false (by omega)
    obtain rfl : Pd = false := by rw [← HPd.out, hq]; rfl
    clear HPd hp
    go_wp2
    refine wp_region_quiet (C := E) (by kernel_rfl) (by kernel_rfl) HEE.out ?_
    simp only [List.toList_toArray]
    repeat (any_goals (first
      | go_big_quiet_skip
      | (go_big_quiet_want
         first
         | (refine quiet_val (v := .agg (stA s (.slice a n cap))) (fun w2 hw2 => exec_load_st (.tmp 1) rfl rfl (RS.out w2 hw2)) ?_
            go_big_quiet_on; simp only [Act.put, List.setIfInBounds_toArray, List.set_cons_zero, List.set_cons_succ])
         | (refine quiet_val (v := ?_) (fun w2 hw2 => ?_) ?_
            rotate_left
            · (first | (go_simp; with_reducible rfl) | (obtain ⟨q1, q2⟩ := R.out w2 hw2; go_simp; with_reducible rfl))
            go_big_quiet_on; simp only [Act.put, List.setIfInBounds_toArray, List.set_cons_zero, List.set_cons_succ])
         | (refine quiet_call (v := ?_) (f := ?_) (args := ?_) (fun w2 hw2 => ?_) (fun w2 hw2 => ?_) ?_
            rotate_left 3
            · (go_simp; refine ⟨?_, ?_⟩ <;> with_reducible rfl)
            · exact CD.out _ hw2
            (go_big_quiet_on; simp only [Act.put, List.setIfInBounds_toArray, List.set_cons_zero, List.set_cons_succ])))))
    all_goals
      refine wpQuiet_nil ?_
      intro w4 hw4
      have HX : Hid (E w4) := hw4
      clear hw4
      go_wp2_with (first
        | ((with_reducible refine guard_load 25 ?_); refine wpList_load_st rfl _ rfl (RS.out _ HX.out) rfl ?_)
        | ((with_reducible refine guard_loadg 25 ?_); refine wpList_load_stg rfl _ rfl (RS.out _ HX.out) rfl ?_)
        | (go_at_call 30; refine (rstands_any s a n cap _).mono ?_; rw [HKK.out]; rintro _ w5 ⟨rfl, hb5⟩; have HY : Hid (E w5) := HK.out _ _ HX.out hb5; clear HX hb5; have HX := HY; clear HY; obtain ⟨l0, l1, l2, l3, l4, l6, l7, l8, l9, l10, l11, l5⟩ := stcells (RS.out w5 HX.out); rcases fitc HF.out with ⟨rfl, g0, hv⟩ | ⟨rfl, g0, g1, hv⟩ | ⟨rfl, g0, g1, g2, hv⟩ | ⟨rfl, g0, g1, g2, g3, hv⟩ | ⟨rfl, g0, g1, g2, g3, g4, hv⟩ | ⟨rfl, g0, g1, g2, g3, g4, g5, hv⟩ | ⟨rfl, g0, g1, g2, g3, g4, g5, hv⟩ | ⟨rfl, rfl, hv⟩ | ⟨rfl, rfl, g0, hv⟩ | ⟨rfl, rfl, g0, hv⟩ | ⟨rfl, hv⟩ | ⟨rfl, hv⟩ | ⟨g0, g1, g2, g3, hv⟩ <;> (have HV : Hid (_ = _) := hv; clear hv))
        | (go_at_call 31; refine (CU.out _ HX.out).mono ?_; rintro _ w5 ⟨rfl, hb5⟩; have HY : Hid (E w5) := HK.out _ _ HX.out hb5; clear HX hb5; have HX := HY; clear HY; have m7 : World.cell? w5 ⟨w.heap.size, 7, none⟩ = some (.int .i64 s.refunded) := (RS.out w5 HX.out).cell 7 _ rfl)
        | (go_at_call 32; refine (CWh.out _ HX.out).mono ?_; rintro _ w5 ⟨rfl, hb5⟩; have HY : Hid (E w5) := HK.out _ _ HX.out hb5; clear HX hb5; have HX := HY; clear HY))
      all_goals
        go_ret
        exact ⟨ret_bool (by rw [HPB.out, HV.out]; first | rfl | simp [hq]), HBel.out _ HX.out⟩
end Go.Proofs.YtblfmfanfpohbaaGreat
