/- Own texts, joined: Rv3D, Rv4. -/
import Derived.Test.YtldbdhhbmnbmaaaGreatK56
import Derived.Test.YtldbdhhbmnbmaaaGreatM57
import Derived.Test.YtldbdhhbmnbmaaaGreatM58
import Derived.Test.YtldbdhhbmnbmaaaGreatM60
namespace Go.Proofs.YtldbdhhbmnbmaaaGreat
open Go.ChangeShapes Go.WideShapes Go.ChangeAt Go.RowKit
set_option linter.unusedVariables false
set_option linter.unusedSimpArgs false
set_option maxRecDepth 20000 in
set_option maxHeartbeats 16000000 in
theorem rvalid_restD (s : St) (a : Option Addr) (n cap : Nat) (w : World) (hn : s.lines.length = n) (hl : Lns w a s.lines) (hm : n ≤ maxLen) (h1 : NumOk s) (h2 : chk 4 (whoE s.who) = 0) (h3 : linesB s.lines = true) (h4 : 0 ≤ s.refunded ∧ s.refunded ≤ s.paid ∧ 0 ≤ s.paid ∧ s.paid ≤ dueS s) (hst : s.status = 2) (hp1 : s.prior ≠ 1) (hp3 : s.prior ≠ 3) : Calls Tryz.prog 29 #[.agg (stA s (.slice a n cap))] w fun e w' => e = .returned (.bool (priorB s && fitsB s)) ∧ Below w.heap.size w w' := by
  have HN : Hid (s.lines.length = n) := hn
  obtain ⟨W, hW⟩ : ∃ W, w.alloc (.cells (stA s (.slice a n cap)) 25) = W := ⟨_, rfl⟩
  have HS := StC.new w s a n cap hl
  rw [hW] at HS
  have HSH : Hid (StC w w.heap.size s a n cap W) := HS
  obtain ⟨c0, c1, c2, c3, c4, c6, c7, c8, c9, c10, c11, c5⟩ := stcells HS.1
  have HW4 : Hid (_) := h2
  have HLB : Hid (_) := h3
  obtain ⟨a1, a2, b1, b2, e1, e2, f1, f2, g1, g2, i1, i2, j1, j2⟩ := h1
  obtain ⟨E, hE⟩ : ∃ E, StC w w.heap.size s a n cap = E := ⟨_, rfl⟩
  have R : Hid (∀ w2, E w2 → w2.cell? ⟨w.heap.size, 6, none⟩ = some (.int .i64 s.paid) ∧ w2.cell? ⟨w.heap.size, 7, none⟩ = some (.int .i64 s.refunded)) := fun w2 h => by rw [← hE] at h; exact ⟨h.1.cell 6 _ rfl, h.1.cell 7 _ rfl⟩
  have RS : Hid (∀ w2, E w2 → StAt w2 w.heap.size s (.slice a n cap)) := fun w2 h => by rw [← hE] at h; exact h.1
  have HBel : Hid (∀ w2, E w2 → Below w.heap.size w w2) := fun w2 h => by rw [← hE] at h; exact h.2.2
  have HLn : Hid (∀ w2, E w2 → Lns w2 a s.lines) := fun w2 h => by rw [← hE] at h; exact h.2.1
  have HK : Hid (∀ w1 w2, E w1 → Below w1.heap.size w1 w2 → E w2) := fun w1 w2 h h2 => by rw [← hE] at h ⊢; exact h.keep h2
  have HEi : Hid (∀ w2, StC w w.heap.size s a n cap w2 → E w2) := fun w2 h => by rw [← hE]; exact h
  obtain ⟨D, hD⟩ : ∃ D, dueS s = D := ⟨_, rfl⟩
  have CD : Hid (∀ w2, E w2 → Calls Tryz.prog 17 #[.agg (stA s (.slice a n cap))] w2 fun e w' => e = .returned (.int .i64 D) ∧ E w') := fun w2 h => (rdue_any s a n cap w2 hn (HLn.out w2 h) h3 f1 f2).mono fun e w' ⟨k1, k2⟩ => ⟨by rw [← hD]; exact k1, HK.out _ _ h k2⟩
  rw [hD] at h4
  obtain ⟨m1, m2, m3, m4⟩ := h4
  have gt1 : decide (s.refunded < 0) = false := decide_eq_false (by omega)
  have gt2 : decide (s.paid < s.refunded) = false := decide_eq_false (by omega)
  have gt3 : decide (s.paid < 0) = false := decide_eq_false (by omega)
  have gt4 : decide (D < s.paid) = false := decide_eq_false (by omega)
  have CU : Hid (∀ w2, E w2 → _) := fun w2 h => runt_any s a n cap w2 hn (HLn.out w2 h) hm
  have CWh : Hid (∀ w2, E w2 → _) := fun w2 h => rwhole_any s a n cap w2 hn (HLn.out w2 h) hm
  obtain ⟨Pd, hPd⟩ : ∃ P, paidB s = P := ⟨_, rfl⟩
  have HPd : Hid ((decide (0 < s.paid) && s.paid == D) = Pd) := by show _ = _; rw [← hPd]; unfold paidB; rw [hD]
  obtain ⟨U, hU⟩ : ∃ U, unshB s.lines = U := ⟨_, rfl⟩
  obtain ⟨Wh, hWh⟩ : ∃ W, wholeB s.lines = W := ⟨_, rfl⟩
  obtain ⟨k, hk⟩ : ∃ k, standS s = k := ⟨_, rfl⟩
  have HKK : Hid (_) := hk
  rw [hU] at CU
  rw [hWh] at CWh
  have HF : Hid (fitsB s = if k = 0 then (((n : Int) == 0) && (s.cur == 0 && (s.tax == 0 && (s.paid == 0 && (s.stamp == 0 && (s.who.toList == [] && s.refused == s.events)))))) else if k = 1 then U && (s.refunded == 0 && !Pd) else if k = 3 then Pd && !Wh else if k = 4 then Pd && Wh else U) := by
    show _ = _
    unfold fitsB
    rw [hk, hPd, hU, hWh]
    have : untB s = (((n : Int) == 0) && (s.cur == 0 && (s.tax == 0 && (s.paid == 0 && (s.stamp == 0 && (s.who.toList == [] && s.refused == s.events)))))) := by
      unfold untB
      rw [hn]
      congr 1
      cases n <;> rfl
    rw [this]
  clear hn hl HS h2 h3 hE hD hk hU hWh hPd
  go_enter Tryz.func29, Tryz.ntmps29
  go_wp2_with (first
    | (go_at_call 30; refine (rcheck_ev 4 (whoE s.who) _).mono ?_; rw [HW4.out]; rintro _ x1 ⟨rfl, hb1⟩; have HC1 : Hid (StC w w.heap.size s a n cap x1) := StC.keep HSH.out hb1; obtain ⟨d0, d1, d2, d3, d4, d6, d7, d8, d9, d10, d11, d5⟩ := stcells (StC.keep HSH.out hb1).1; clear hb1)
    | ((with_reducible refine guard_loadg 25 ?_); refine wpList_load_stg rfl _ rfl HC1.out.1 rfl ?_)
    | (go_at_call 64; refine (rlines_any s a n cap _ HN.out HC1.out.2.1 hm).mono ?_; rw [HLB.out]; rintro _ x2 ⟨rfl, hb2⟩; have HC2 : Hid (StC w w.heap.size s a n cap x2) := StC.keep HC1.out hb2; clear hb2))
  refine wp_region_quiet (C := E) (by kernel_rfl) (by kernel_rfl) (HK.out x2 _ (HEi.out _ HC2.out) (Below.refl _ _).drew) ?_
  simp only [List.toList_toArray]
  repeat (any_goals (first
    | go_big_quiet_skip
    | (go_big_quiet_want
       first
       | (refine quiet_val (v := .agg (stA s (.slice a n cap))) (fun w2 hw2 => exec_load_st (.tmp 1) rfl rfl (RS.out w2 hw2)) ?_
          go_big_quiet_on; simp only [Act.put, List.setIfInBounds_toArray, List.set_cons_zero, List.set_cons_succ])
       | (refine quiet_val (v := ?_) (fun w2 hw2 => ?_) ?_
          rotate_left
          · (first | (go_simp; with_reducible rfl) | (obtain ⟨q1, q2⟩ := R.out w2 hw2; go_simp; with_reducible rfl))
          go_big_quiet_on; simp only [Act.put, List.setIfInBounds_toArray, List.set_cons_zero, List.set_cons_succ])
       | (refine quiet_call (v := ?_) (f := ?_) (args := ?_) (fun w2 hw2 => ?_) (fun w2 hw2 => ?_) ?_
          rotate_left 3
          · (go_simp; refine ⟨?_, ?_⟩ <;> with_reducible rfl)
          · exact CD.out _ hw2
          (go_big_quiet_on; simp only [Act.put, List.setIfInBounds_toArray, List.set_cons_zero, List.set_cons_succ])))))
  all_goals
    refine wpQuiet_nil ?_
    intro w3 hw3
    have HW3 : Hid (E w3) := hw3
    obtain ⟨k0, k1, k2, k3, k4, k6, k7, k8, k9, k10, k11, k5⟩ := stcells (RS.out w3 hw3)
    have HEE : Hid (E w3.drew) := HK.out w3 _ hw3 (Below.refl _ _).drew
    clear hw3 c0 c1 c2 c3 c4 c6 c7 c8 c9 c10 c11 c5 d0 d1 d2 d3 d4 d6 d7 d8 d9 d10 d11 d5
    have e2 : (s.status == 2) = true := by simpa using hst
    have n2 : (s.status != 2) = false := by simpa using hst
    have f1 : (s.prior != 1) = true := by simpa using hp1
    have f3 : (s.prior != 3) = true := by simpa using hp3
    have HPB : Hid (priorB s = false) := by show _ = _; unfold priorB; rw [if_pos hst]; simp [hp1, hp3]
    clear hst hp1 hp3
    go_wp2
    go_ret
    exact ⟨ret_bool (by rw [HPB.out]; rfl), HBel.out _ HW3.out⟩
set_option maxRecDepth 20000 in
set_option maxHeartbeats 16000000 in
theorem rvalid_restE (s : St) (a : Option Addr) (n cap : Nat) (w : World) (hn : s.lines.length = n) (hl : Lns w a s.lines) (hm : n ≤ maxLen) (h1 : NumOk s) (h2 : chk 4 (whoE s.who) = 0) (h3 : linesB s.lines = true) (h4 : 0 ≤ s.refunded ∧ s.refunded ≤ s.paid ∧ 0 ≤ s.paid ∧ s.paid ≤ dueS s) (hst : ¬ s.status = 2) (hp0 : s.prior ≠ 0) : Calls Tryz.prog 29 #[.agg (stA s (.slice a n cap))] w fun e w' => e = .returned (.bool (priorB s && fitsB s)) ∧ Below w.heap.size w w' := by
  have HN : Hid (s.lines.length = n) := hn
  obtain ⟨W, hW⟩ : ∃ W, w.alloc (.cells (stA s (.slice a n cap)) 25) = W := ⟨_, rfl⟩
  have HS := StC.new w s a n cap hl
  rw [hW] at HS
  have HSH : Hid (StC w w.heap.size s a n cap W) := HS
  obtain ⟨c0, c1, c2, c3, c4, c6, c7, c8, c9, c10, c11, c5⟩ := stcells HS.1
  have HW4 : Hid (_) := h2
  have HLB : Hid (_) := h3
  obtain ⟨a1, a2, b1, b2, e1, e2, f1, f2, g1, g2, i1, i2, j1, j2⟩ := h1
  obtain ⟨E, hE⟩ : ∃ E, StC w w.heap.size s a n cap = E := ⟨_, rfl⟩
  have R : Hid (∀ w2, E w2 → w2.cell? ⟨w.heap.size, 6, none⟩ = some (.int .i64 s.paid) ∧ w2.cell? ⟨w.heap.size, 7, none⟩ = some (.int .i64 s.refunded)) := fun w2 h => by rw [← hE] at h; exact ⟨h.1.cell 6 _ rfl, h.1.cell 7 _ rfl⟩
  have RS : Hid (∀ w2, E w2 → StAt w2 w.heap.size s (.slice a n cap)) := fun w2 h => by rw [← hE] at h; exact h.1
  have HBel : Hid (∀ w2, E w2 → Below w.heap.size w w2) := fun w2 h => by rw [← hE] at h; exact h.2.2
  have HLn : Hid (∀ w2, E w2 → Lns w2 a s.lines) := fun w2 h => by rw [← hE] at h; exact h.2.1
  have HK : Hid (∀ w1 w2, E w1 → Below w1.heap.size w1 w2 → E w2) := fun w1 w2 h h2 => by rw [← hE] at h ⊢; exact h.keep h2
  have HEi : Hid (∀ w2, StC w w.heap.size s a n cap w2 → E w2) := fun w2 h => by rw [← hE]; exact h
  obtain ⟨D, hD⟩ : ∃ D, dueS s = D := ⟨_, rfl⟩
  have CD : Hid (∀ w2, E w2 → Calls Tryz.prog 17 #[.agg (stA s (.slice a n cap))] w2 fun e w' => e = .returned (.int .i64 D) ∧ E w') := fun w2 h => (rdue_any s a n cap w2 hn (HLn.out w2 h) h3 f1 f2).mono fun e w' ⟨k1, k2⟩ => ⟨by rw [← hD]; exact k1, HK.out _ _ h k2⟩
  rw [hD] at h4
  obtain ⟨m1, m2, m3, m4⟩ := h4
  have gt1 : decide (s.refunded < 0) = false := decide_eq_false (by omega)
  have gt2 : decide (s.paid < s.refunded) = false := decide_eq_false (by omega)
  have gt3 : decide (s.paid < 0) = false := decide_eq_false (by omega)
  have gt4 : decide (D < s.paid) = false := decide_eq_false (by omega)
  have CU : Hid (∀ w2, E w2 → _) := fun w2 h => runt_any s a n cap w2 hn (HLn.out w2 h) hm
  have CWh : Hid (∀ w2, E w2 → _) := fun w2 h => rwhole_any s a n cap w2 hn (HLn.out w2 h) hm
  obtain ⟨Pd, hPd⟩ : ∃ P, paidB s = P := ⟨_, rfl⟩
  have HPd : Hid ((decide (0 < s.paid) && s.paid == D) = Pd) := by show _ = _; rw [← hPd]; unfold paidB; rw [hD]
  obtain ⟨U, hU⟩ : ∃ U, unshB s.lines = U := ⟨_, rfl⟩
  obtain ⟨Wh, hWh⟩ : ∃ W, wholeB s.lines = W := ⟨_, rfl⟩
  obtain ⟨k, hk⟩ : ∃ k, standS s = k := ⟨_, rfl⟩
  have HKK : Hid (_) := hk
  rw [hU] at CU
  rw [hWh] at CWh
  have HF : Hid (fitsB s = if k = 0 then (((n : Int) == 0) && (s.cur == 0 && (s.tax == 0 && (s.paid == 0 && (s.stamp == 0 && (s.who.toList == [] && s.refused == s.events)))))) else if k = 1 then U && (s.refunded == 0 && !Pd) else if k = 3 then Pd && !Wh else if k = 4 then Pd && Wh else U) := by
    show _ = _
    unfold fitsB
    rw [hk, hPd, hU, hWh]
    have : untB s = (((n : Int) == 0) && (s.cur == 0 && (s.tax == 0 && (s.paid == 0 && (s.stamp == 0 && (s.who.toList == [] && s.refused == s.events)))))) := by
      unfold untB
      rw [hn]
      congr 1
      cases n <;> rfl
    rw [this]
  clear hn hl HS h2 h3 hE hD hk hU hWh hPd
  go_enter Tryz.func29, Tryz.ntmps29
  go_wp2_with (first
    | (go_at_call 30; refine (rcheck_ev 4 (whoE s.who) _).mono ?_; rw [HW4.out]; rintro _ x1 ⟨rfl, hb1⟩; have HC1 : Hid (StC w w.heap.size s a n cap x1) := StC.keep HSH.out hb1; obtain ⟨d0, d1, d2, d3, d4, d6, d7, d8, d9, d10, d11, d5⟩ := stcells (StC.keep HSH.out hb1).1; clear hb1)
    | ((with_reducible refine guard_loadg 25 ?_); refine wpList_load_stg rfl _ rfl HC1.out.1 rfl ?_)
    | (go_at_call 64; refine (rlines_any s a n cap _ HN.out HC1.out.2.1 hm).mono ?_; rw [HLB.out]; rintro _ x2 ⟨rfl, hb2⟩; have HC2 : Hid (StC w w.heap.size s a n cap x2) := StC.keep HC1.out hb2; clear hb2))
  refine wp_region_quiet (C := E) (by kernel_rfl) (by kernel_rfl) (HK.out x2 _ (HEi.out _ HC2.out) (Below.refl _ _).drew) ?_
  simp only [List.toList_toArray]
  repeat (any_goals (first
    | go_big_quiet_skip
    | (go_big_quiet_want
       first
       | (refine quiet_val (v := .agg (stA s (.slice a n cap))) (fun w2 hw2 => exec_load_st (.tmp 1) rfl rfl (RS.out w2 hw2)) ?_
          go_big_quiet_on; simp only [Act.put, List.setIfInBounds_toArray, List.set_cons_zero, List.set_cons_succ])
       | (refine quiet_val (v := ?_) (fun w2 hw2 => ?_) ?_
          rotate_left
          · (first | (go_simp; with_reducible rfl) | (obtain ⟨q1, q2⟩ := R.out w2 hw2; go_simp; with_reducible rfl))
          go_big_quiet_on; simp only [Act.put, List.setIfInBounds_toArray, List.set_cons_zero, List.set_cons_succ])
       | (refine quiet_call (v := ?_) (f := ?_) (args := ?_) (fun w2 hw2 => ?_) (fun w2 hw2 => ?_) ?_
          rotate_left 3
          · (go_simp; refine ⟨?_, ?_⟩ <;> with_reducible rfl)
          · exact CD.out _ hw2
          (go_big_quiet_on; simp only [Act.put, List.setIfInBounds_toArray, List.set_cons_zero, List.set_cons_succ])))))
  all_goals
    refine wpQuiet_nil ?_
    intro w3 hw3
    have HW3 : Hid (E w3) := hw3
    obtain ⟨k0, k1, k2, k3, k4, k6, k7, k8, k9, k10, k11, k5⟩ := stcells (RS.out w3 hw3)
    have HEE : Hid (E w3.drew) := HK.out w3 _ hw3 (Below.refl _ _).drew
    clear hw3 c0 c1 c2 c3 c4 c6 c7 c8 c9 c10 c11 c5 d0 d1 d2 d3 d4 d6 d7 d8 d9 d10 d11 d5
    have e2 : (s.status == 2) = false := by simpa using hst
    have n2 : (s.status != 2) = true := by simpa using hst
    have f0 : (s.prior != 0) = true := by simpa using hp0
    have HPB : Hid (priorB s = false) := by show _ = _; unfold priorB; rw [if_neg hst]; simp [hp0]
    clear hst hp0
    go_wp2
    go_ret
    exact ⟨ret_bool (by rw [HPB.out]; rfl), HBel.out _ HW3.out⟩
end Go.Proofs.YtldbdhhbmnbmaaaGreat
namespace Go.Proofs.YtldbdhhbmnbmaaaGreat
open Go.ChangeShapes Go.WideShapes Go.ChangeAt Go.RowKit
theorem rvalid_any (s : St) (a : Option Addr) (n cap : Nat) (w : World) (hn : s.lines.length = n) (hl : Lns w a s.lines) (hm : n ≤ maxLen) :
    Calls Tryz.prog 29 #[.agg (stA s (.slice a n cap))] w fun e w' => e = .returned (.bool (vldB s)) ∧ Below w.heap.size w w' := by
  by_cases h1 : NumOk s
  · by_cases h2 : chk 4 (whoE s.who) = 0
    · cases h3 : linesB s.lines with
      | false =>
        rw [vldB_no (fun h => by rw [h3] at h; exact absurd h.2.1 (by decide))]
        exact rvalid_lines s a n cap w hn hl hm h1 h2 h3
      | true =>
        by_cases h4 : 0 ≤ s.refunded ∧ s.refunded ≤ s.paid ∧ 0 ≤ s.paid ∧ s.paid ≤ dueS s
        · have hv : vldB s = (priorB s && fitsB s) := by
            have a1 : bndS s = true := (bndS_iff s).2 ⟨h1, h2⟩
            have a2 : wit 0 s.paid (dueS s) = true := by simp only [wit_true]; exact ⟨h4.2.2.1, h4.2.2.2⟩
            have a3 : wit 0 s.refunded s.paid = true := by simp only [wit_true]; exact ⟨h4.1, h4.2.1⟩
            unfold vldB
            rw [a1, h3, a2, a3]
            simp only [Bool.true_and]
          rw [hv]
          by_cases hst : s.status = 2
          · by_cases hp1 : s.prior = 1
            · by_cases hp : 0 < s.paid
              · cases hq : (s.paid == dueS s) with
                | false => exact rvalid_restA0 s a n cap w hn hl hm h1 h2 h3 h4 hst hp1 hp hq
                | true => exact rvalid_restA1 s a n cap w hn hl hm h1 h2 h3 h4 hst hp1 hp hq
              · exact rvalid_restA2 s a n cap w hn hl hm h1 h2 h3 h4 hst hp1 hp
            · by_cases hp3 : s.prior = 3
              · by_cases hp : 0 < s.paid
                · cases hq : (s.paid == dueS s) with
                  | false => exact rvalid_restB0 s a n cap w hn hl hm h1 h2 h3 h4 hst hp1 hp3 hp hq
                  | true => exact rvalid_restB1 s a n cap w hn hl hm h1 h2 h3 h4 hst hp1 hp3 hp hq
                · exact rvalid_restB2 s a n cap w hn hl hm h1 h2 h3 h4 hst hp1 hp3 hp
              · exact rvalid_restD s a n cap w hn hl hm h1 h2 h3 h4 hst hp1 hp3
          · by_cases hp0 : s.prior = 0
            · by_cases hp : 0 < s.paid
              · cases hq : (s.paid == dueS s) with
                | false => exact rvalid_restC0 s a n cap w hn hl hm h1 h2 h3 h4 hst hp0 hp hq
                | true => exact rvalid_restC1 s a n cap w hn hl hm h1 h2 h3 h4 hst hp0 hp hq
              · exact rvalid_restC2 s a n cap w hn hl hm h1 h2 h3 h4 hst hp0 hp
            · exact rvalid_restE s a n cap w hn hl hm h1 h2 h3 h4 hst hp0
        · rw [vldB_no (fun h => h4 (by
            have b1 := h.2.2.2.1
            have b2 := h.2.2.2.2.1
            simp only [wit_true] at b1 b2
            exact ⟨b2.1, b2.2, b1.1, b1.2⟩))]
          exact rvalid_money s a n cap w hn hl hm h1 h2 h3 h4
    · rw [vldB_no (fun h => h2 ((bndS_iff s).1 h.1).2)]
      exact rvalid_who s a n cap w hn hl hm h1 h2
  · rw [vldB_no (fun h => h1 ((bndS_iff s).1 h.1).1)]
    exact rvalid_num s a n cap w hn hl hm h1
end Go.Proofs.YtldbdhhbmnbmaaaGreat
