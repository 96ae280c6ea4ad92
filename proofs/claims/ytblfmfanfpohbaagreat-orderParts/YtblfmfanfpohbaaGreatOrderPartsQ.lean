/- Parts are the document's, and add up to what is due: for every state. -/
import Derived.Test.YtblfmfanfpohbaaGreatG13
import Derived.SizedLaws
import Derived.ChangeOld
import Derived.Test.YtblfmfanfpohbaaGreatG15
import Derived.Test.YtblfmfanfpohbaaGreatG17
import Derived.Test.YtblfmfanfpohbaaGreatG18
import Derived.Test.YtblfmfanfpohbaaGreatG19
import Derived.Test.YtblfmfanfpohbaaGreatG14
import Derived.Deep.RegionHeld3
namespace Go.Proofs.YtblfmfanfpohbaaGreat
open Go.ChangeShapes Go.WideShapes Go.ChangeAt Go.RowKit
set_option linter.unusedVariables false
set_option linter.unusedSimpArgs false
set_option maxRecDepth 20000 in
set_option maxHeartbeats 16000000 in
theorem rvalid_restD (s : St) (a : Option Addr) (n cap : Nat) (w : World) (hn : s.lines.length = n) (hl : Lns w a s.lines) (hm : n ≤ maxLen) (h1 : NumOk s) (h2 : chk 4 (whoE s.who) = 0) (h3 : linesB s.lines = true) (h4 : 0 ≤ s.refunded ∧ s.refunded ≤ s.paid ∧ 0 ≤ s.paid ∧ s.paid ≤ dueS s) (hst : s.status = 2) (hp1 : s.prior ≠ 1) (hp3 : s.prior ≠ 3) : Calls Tryz.prog 13 #[.agg (stA s (.slice a n cap))] w fun e w' => e = .returned (.bool (priorB s && fitsB s)) ∧ Below w.heap.size w w' := by
  have HN : Hid (s.lines.length = n) := hn
  obtain ⟨W, hW⟩ : ∃ W, w.alloc (.cells (stA s (.slice a n cap)) 25) = W := ⟨_, rfl⟩
  have HS := StC.new w s a n cap hl
  rw [hW] at HS
  have HSH : Hid (StC w w.heap.size s a n cap W) := HS
  obtain ⟨c0, c1, c2, c3, c4, c6, c7, c8, c9, c10, c11, c5⟩ := stcells HS.1
  have HW4 : Hid (_) := h2
  have HLB : Hid (_) := h3
  obtain ⟨a1, a2, b1, b2, e1, e2, f1, f2, g1, g2, i1, i2, j1, j2⟩ := h1
  obtain ⟨E, hE⟩ : ∃ E, StC w w.heap.size s a n cap = E := ⟨_, rfl⟩
  have R : Hid (∀ w2, E w2 → w2.cell? ⟨w.heap.size, 6, none⟩ = some (.int .i64 s.paid) ∧ w2.cell? ⟨w.heap.size, 7, none⟩ = some (.int .i64 s.refunded)) := fun w2 h => by rw [← hE] at h; exact ⟨h.1.cell 6 _ rfl, h.1.cell 7 _ rfl⟩
  have RS : Hid (∀ w2, E w2 → StAt w2 w.heap.size s (.slice a n cap)) := fun w2 h => by rw [← hE] at h; exact h.1
  have HBel : Hid (∀ w2, E w2 → Below w.heap.size w w2) := fun w2 h => by rw [← hE] at h; exact h.2.2
  have HLn : Hid (∀ w2, E w2 → Lns w2 a s.lines) := fun w2 h => by rw [← hE] at h; exact h.2.1
  have HK : Hid (∀ w1 w2, E w1 → Below w1.heap.size w1 w2 → E w2) := fun w1 w2 h h2 => by rw [← hE] at h ⊢; exact h.keep h2
  have HEi : Hid (∀ w2, StC w w.heap.size s a n cap w2 → E w2) := fun w2 h => by rw [← hE]; exact h
  obtain ⟨D, hD⟩ : ∃ D, dueS s = D := ⟨_, rfl⟩
  have CD : Hid (∀ w2, E w2 → Calls Tryz.prog 16 #[.agg (stA s (.slice a n cap))] w2 fun e w' => e = .returned (.int .i64 D) ∧ E w') := fun w2 h => (rdue_any s a n cap w2 hn (HLn.out w2 h) h3 f1 f2).mono fun e w' ⟨k1, k2⟩ => ⟨by rw [← hD]; exact k1, HK.out _ _ h k2⟩
  rw [hD] at h4
  obtain ⟨m1, m2, m3, m4⟩ := h4
  have gt1 : decide (s.refunded < 0) = false := decide_eq_false (by omega)
  have gt2 : decide (s.paid < s.refunded) = false := decide_eq_false (by omega)
  have gt3 : decide (s.paid < 0) = false := decide_eq_false (by omega)
  have gt4 : decide (D < s.paid) = false := decide_eq_false (by omega)
  have CU : Hid (∀ w2, E w2 → _) := fun w2 h => runt_any s a n cap w2 hn (HLn.out w2 h) hm
  have CWh : Hid (∀ w2, E w2 → _) := fun w2 h => rwhole_any s a n cap w2 hn (HLn.out w2 h) hm
  obtain ⟨Pd, hPd⟩ : ∃ P, paidB s = P := ⟨_, rfl⟩
  have HPd : Hid ((decide (0 < s.paid) && s.paid == D) = Pd) := by show _ = _; rw [← hPd]; unfold paidB; rw [hD]
  obtain ⟨U, hU⟩ : ∃ U, unshB s.lines = U := ⟨_, rfl⟩
  obtain ⟨Wh, hWh⟩ : ∃ W, wholeB s.lines = W := ⟨_, rfl⟩
  obtain ⟨k, hk⟩ : ∃ k, standS s = k := ⟨_, rfl⟩
  have HKK : Hid (_) := hk
  rw [hU] at CU
  rw [hWh] at CWh
  have HF : Hid (fitsB s = if k = 0 then (((n : Int) == 0) && (s.cur == 0 && (s.tax == 0 && (s.paid == 0 && (s.stamp == 0 && (s.who.toList == [] && s.refused == s.events)))))) else if k = 1 then U && (s.refunded == 0 && !Pd) else if k = 3 then Pd && !Wh else if k = 4 then Pd && Wh else U) := by
    show _ = _
    unfold fitsB
    rw [hk, hPd, hU, hWh]
    have : untB s = (((n : Int) == 0) && (s.cur == 0 && (s.tax == 0 && (s.paid == 0 && (s.stamp == 0 && (s.who.toList == [] && s.refused == s.events)))))) := by
      unfold untB
      rw [hn]
      congr 1
      cases n <;> rfl
    rw [this]
  clear hn hl HS h2 h3 hE hD hk hU hWh hPd
  go_enter Tryz.func13, Tryz.ntmps13
  go_wp2_with (first
    | (go_at_call 28; refine (rcheck_ev 4 (whoE s.who) _).mono ?_; rw [HW4.out]; rintro _ x1 ⟨rfl, hb1⟩; have HC1 : Hid (StC w w.heap.size s a n cap x1) := StC.keep HSH.out hb1; obtain ⟨d0, d1, d2, d3, d4, d6, d7, d8, d9, d10, d11, d5⟩ := stcells (StC.keep HSH.out hb1).1; clear hb1)
    | ((with_reducible refine guard_loadg 25 ?_); refine wpList_load_stg rfl _ rfl HC1.out.1 rfl ?_)
    | (go_at_call 29; refine (rlines_any s a n cap _ HN.out HC1.out.2.1 hm).mono ?_; rw [HLB.out]; rintro _ x2 ⟨rfl, hb2⟩; have HC2 : Hid (StC w w.heap.size s a n cap x2) := StC.keep HC1.out hb2; clear hb2))
  refine wp_region_quiet (C := E) (by kernel_rfl) (by kernel_rfl) (HK.out x2 _ (HEi.out _ HC2.out) (Below.refl _ _).drew) ?_
  simp only [List.toList_toArray]
  repeat (any_goals (first
    | go_big_quiet_skip
    | (go_big_quiet_want
       first
       | (refine quiet_val (v := .agg (stA s (.slice a n cap))) (fun w2 hw2 => exec_load_st (.tmp 1) rfl rfl (RS.out w2 hw2)) ?_
          go_big_quiet_on; simp only [Act.put, List.setIfInBounds_toArray, List.set_cons_zero, List.set_cons_succ])
       | (refine quiet_val (v := ?_) (fun w2 hw2 => ?_) ?_
          rotate_left
          · (first | (go_simp; with_reducible rfl) | (obtain ⟨q1, q2⟩ := R.out w2 hw2; go_simp; with_reducible rfl))
          go_big_quiet_on; simp only [Act.put, List.setIfInBounds_toArray, List.set_cons_zero, List.set_cons_succ])
       | (refine quiet_call (v := ?_) (f := ?_) (args := ?_) (fun w2 hw2 => ?_) (fun w2 hw2 => ?_) ?_
          rotate_left 3
          · (go_simp; refine ⟨?_, ?_⟩ <;> with_reducible rfl)
          · exact CD.out _ hw2
          (go_big_quiet_on; simp only [Act.put, List.setIfInBounds_toArray, List.set_cons_zero, List.set_cons_succ])))))
  all_goals
    refine wpQuiet_nil ?_
    intro w3 hw3
    have HW3 : Hid (E w3) := hw3
    obtain ⟨k0, k1, k2, k3, k4, k6, k7, k8, k9, k10, k11, k5⟩ := stcells (RS.out w3 hw3)
    have HEE : Hid (E w3.drew) := HK.out w3 _ hw3 (Below.refl _ _).drew
    clear hw3 c0 c1 c2 c3 c4 c6 c7 c8 c9 c10 c11 c5 d0 d1 d2 d3 d4 d6 d7 d8 d9 d10 d11 d5
    have e2 : (s.status == 2) = true := by simpa using hst
    have n2 : (s.status != 2) = false := by simpa using hst
    have f1 : (s.prior != 1) = true := by simpa using hp1
    have f3 : (s.prior != 3) = true := by simpa using hp3
    have HPB : Hid (priorB s = false) := by show _ = _; unfold priorB; rw [if_pos hst]; simp [hp1, hp3]
    clear hst hp1 hp3
    go_wp2
    go_ret
    exact ⟨ret_bool (by rw [HPB.out]; rfl), HBel.out _ HW3.out⟩
set_option maxRecDepth 20000 in
set_option maxHeartbeats 16000000 in
theorem rvalid_restE (s : St) (a : Option Addr) (n cap : Nat) (w : World) (hn : s.lines.length = n) (hl : Lns w a s.lines) (hm : n ≤ maxLen) (h1 : NumOk s) (h2 : chk 4 (whoE s.who) = 0) (h3 : linesB s.lines = true) (h4 : 0 ≤ s.refunded ∧ s.refunded ≤ s.paid ∧ 0 ≤ s.paid ∧ s.paid ≤ dueS s) (hst : ¬ s.status = 2) (hp0 : s.prior ≠ 0) : Calls Tryz.prog 13 #[.agg (stA s (.slice a n cap))] w fun e w' => e = .returned (.bool (priorB s && fitsB s)) ∧ Below w.heap.size w w' := by
  have HN : Hid (s.lines.length = n) := hn
  obtain ⟨W, hW⟩ : ∃ W, w.alloc (.cells (stA s (.slice a n cap)) 25) = W := ⟨_, rfl⟩
  have HS := StC.new w s a n cap hl
  rw [hW] at HS
  have HSH : Hid (StC w w.heap.size s a n cap W) := HS
  obtain ⟨c0, c1, c2, c3, c4, c6, c7, c8, c9, c10, c11, c5⟩ := stcells HS.1
  have HW4 : Hid (_) := h2
  have HLB : Hid (_) := h3
  obtain ⟨a1, a2, b1, b2, e1, e2, f1, f2, g1, g2, i1, i2, j1, j2⟩ := h1
  obtain ⟨E, hE⟩ : ∃ E, StC w w.heap.size s a n cap = E := ⟨_, rfl⟩
  have R : Hid (∀ w2, E w2 → w2.cell? ⟨w.heap.size, 6, none⟩ = some (.int .i64 s.paid) ∧ w2.cell? ⟨w.heap.size, 7, none⟩ = some (.int .i64 s.refunded)) := fun w2 h => by rw [← hE] at h; exact ⟨h.1.cell 6 _ rfl, h.1.cell 7 _ rfl⟩
  have RS : Hid (∀ w2, E w2 → StAt w2 w.heap.size s (.slice a n cap)) := fun w2 h => by rw [← hE] at h; exact h.1
  have HBel : Hid (∀ w2, E w2 → Below w.heap.size w w2) := fun w2 h => by rw [← hE] at h; exact h.2.2
  have HLn : Hid (∀ w2, E w2 → Lns w2 a s.lines) := fun w2 h => by rw [← hE] at h; exact h.2.1
  have HK : Hid (∀ w1 w2, E w1 → Below w1.heap.size w1 w2 → E w2) := fun w1 w2 h h2 => by rw [← hE] at h ⊢; exact h.keep h2
  have HEi : Hid (∀ w2, StC w w.heap.size s a n cap w2 → E w2) := fun w2 h => by rw [← hE]; exact h
  obtain ⟨D, hD⟩ : ∃ D, dueS s = D := ⟨_, rfl⟩
  have CD : Hid (∀ w2, E w2 → Calls Tryz.prog 16 #[.agg (stA s (.slice a n cap))] w2 fun e w' => e = .returned (.int .i64 D) ∧ E w') := fun w2 h => (rdue_any s a n cap w2 hn (HLn.out w2 h) h3 f1 f2).mono fun e w' ⟨k1, k2⟩ => ⟨by rw [← hD]; exact k1, HK.out _ _ h k2⟩
  rw [hD] at h4
  obtain ⟨m1, m2, m3, m4⟩ := h4
  have gt1 : decide (s.refunded < 0) = false := decide_eq_false (by omega)
  have gt2 : decide (s.paid < s.refunded) = false := decide_eq_false (by omega)
  have gt3 : decide (s.paid < 0) = false := decide_eq_false (by omega)
  have gt4 : decide (D < s.paid) = false := decide_eq_false (by omega)
  have CU : Hid (∀ w2, E w2 → _) := fun w2 h => runt_any s a n cap w2 hn (HLn.out w2 h) hm
  have CWh : Hid (∀ w2, E w2 → _) := fun w2 h => rwhole_any s a n cap w2 hn (HLn.out w2 h) hm
  obtain ⟨Pd, hPd⟩ : ∃ P, paidB s = P := ⟨_, rfl⟩
  have HPd : Hid ((decide (0 < s.paid) && s.paid == D) = Pd) := by show _ = _; rw [← hPd]; unfold paidB; rw [hD]
  obtain ⟨U, hU⟩ : ∃ U, unshB s.lines = U := ⟨_, rfl⟩
  obtain ⟨Wh, hWh⟩ : ∃ W, wholeB s.lines = W := ⟨_, rfl⟩
  obtain ⟨k, hk⟩ : ∃ k, standS s = k := ⟨_, rfl⟩
  have HKK : Hid (_) := hk
  rw [hU] at CU
  rw [hWh] at CWh
  have HF : Hid (fitsB s = if k = 0 then (((n : Int) == 0) && (s.cur == 0 && (s.tax == 0 && (s.paid == 0 && (s.stamp == 0 && (s.who.toList == [] && s.refused == s.events)))))) else if k = 1 then U && (s.refunded == 0 && !Pd) else if k = 3 then Pd && !Wh else if k = 4 then Pd && Wh else U) := by
    show _ = _
    unfold fitsB
    rw [hk, hPd, hU, hWh]
    have : untB s = (((n : Int) == 0) && (s.cur == 0 && (s.tax == 0 && (s.paid == 0 && (s.stamp == 0 && (s.who.toList == [] && s.refused == s.events)))))) := by
      unfold untB
      rw [hn]
      congr 1
      cases n <;> rfl
    rw [this]
  clear hn hl HS h2 h3 hE hD hk hU hWh hPd
  go_enter Tryz.func13, Tryz.ntmps13
  go_wp2_with (first
    | (go_at_call 28; refine (rcheck_ev 4 (whoE s.who) _).mono ?_; rw [HW4.out]; rintro _ x1 ⟨rfl, hb1⟩; have HC1 : Hid (StC w w.heap.size s a n cap x1) := StC.keep HSH.out hb1; obtain ⟨d0, d1, d2, d3, d4, d6, d7, d8, d9, d10, d11, d5⟩ := stcells (StC.keep HSH.out hb1).1; clear hb1)
    | ((with_reducible refine guard_loadg 25 ?_); refine wpList_load_stg rfl _ rfl HC1.out.1 rfl ?_)
    | (go_at_call 29; refine (rlines_any s a n cap _ HN.out HC1.out.2.1 hm).mono ?_; rw [HLB.out]; rintro _ x2 ⟨rfl, hb2⟩; have HC2 : Hid (StC w w.heap.size s a n cap x2) := StC.keep HC1.out hb2; clear hb2))
  refine wp_region_quiet (C := E) (by kernel_rfl) (by kernel_rfl) (HK.out x2 _ (HEi.out _ HC2.out) (Below.refl _ _).drew) ?_
  simp only [List.toList_toArray]
  repeat (any_goals (first
    | go_big_quiet_skip
    | (go_big_quiet_want
       first
       | (refine quiet_val (v := .agg (stA s (.slice a n cap))) (fun w2 hw2 => exec_load_st (.tmp 1) rfl rfl (RS.out w2 hw2)) ?_
          go_big_quiet_on; simp only [Act.put, List.setIfInBounds_toArray, List.set_cons_zero, List.set_cons_succ])
       | (refine quiet_val (v := ?_) (fun w2 hw2 => ?_) ?_
          rotate_left
          · (first | (go_simp; with_reducible rfl) | (obtain ⟨q1, q2⟩ := R.out w2 hw2; go_simp; with_reducible rfl))
          go_big_quiet_on; simp only [Act.put, List.setIfInBounds_toArray, List.set_cons_zero, List.set_cons_succ])
       | (refine quiet_call (v := ?_) (f := ?_) (args := ?_) (fun w2 hw2 => ?_) (fun w2 hw2 => ?_) ?_
          rotate_left 3
          · (go_simp; refine ⟨?_, ?_⟩ <;> with_reducible rfl)
          · exact CD.out _ hw2
          (go_big_quiet_on; simp only [Act.put, List.setIfInBounds_toArray, List.set_cons_zero, List.set_cons_succ])))))
  all_goals
    refine wpQuiet_nil ?_
    intro w3 hw3
    have HW3 : Hid (E w3) := hw3
    obtain ⟨k0, k1, k2, k3, k4, k6, k7, k8, k9, k10, k11, k5⟩ := stcells (RS.out w3 hw3)
    have HEE : Hid (E w3.drew) := HK.out w3 _ hw3 (Below.refl _ _).drew
    clear hw3 c0 c1 c2 c3 c4 c6 c7 c8 c9 c10 c11 c5 d0 d1 d2 d3 d4 d6 d7 d8 d9 d10 d11 d5
    have e2 : (s.status == 2) = false := by simpa using hst
    have n2 : (s.status != 2) = true := by simpa using hst
    have f0 : (s.prior != 0) = true := by simpa using hp0
    have HPB : Hid (priorB s = false) := by show _ = _; unfold priorB; rw [if_neg hst]; simp [hp0]
    clear hst hp0
    go_wp2
    go_ret
    exact ⟨ret_bool (by rw [HPB.out]; rfl), HBel.out _ HW3.out⟩
end Go.Proofs.YtblfmfanfpohbaaGreat
namespace Go.Proofs.YtblfmfanfpohbaaGreat
open Go.ChangeShapes Go.WideShapes Go.ChangeAt Go.RowKit
theorem rvalid_any (s : St) (a : Option Addr) (n cap : Nat) (w : World) (hn : s.lines.length = n) (hl : Lns w a s.lines) (hm : n ≤ maxLen) :
    Calls Tryz.prog 13 #[.agg (stA s (.slice a n cap))] w fun e w' => e = .returned (.bool (vldB s)) ∧ Below w.heap.size w w' := by
  by_cases h1 : NumOk s
  · by_cases h2 : chk 4 (whoE s.who) = 0
    · cases h3 : linesB s.lines with
      | false =>
        rw [vldB_no (fun h => by rw [h3] at h; exact absurd h.2.1 (by decide))]
        exact rvalid_lines s a n cap w hn hl hm h1 h2 h3
      | true =>
        by_cases h4 : 0 ≤ s.refunded ∧ s.refunded ≤ s.paid ∧ 0 ≤ s.paid ∧ s.paid ≤ dueS s
        · have hv : vldB s = (priorB s && fitsB s) := by
            have a1 : bndS s = true := (bndS_iff s).2 ⟨h1, h2⟩
            have a2 : wit 0 s.paid (dueS s) = true := by simp only [wit_true]; exact ⟨h4.2.2.1, h4.2.2.2⟩
            have a3 : wit 0 s.refunded s.paid = true := by simp only [wit_true]; exact ⟨h4.1, h4.2.1⟩
            unfold vldB
            rw [a1, h3, a2, a3]
            simp only [Bool.true_and]
          rw [hv]
          by_cases hst : s.status = 2
          · by_cases hp1 : s.prior = 1
            · by_cases hp : 0 < s.paid
              · cases hq : (s.paid == dueS s) with
                | false => exact rvalid_restA0 s a n cap w hn hl hm h1 h2 h3 h4 hst hp1 hp hq
                | true => exact rvalid_restA1 s a n cap w hn hl hm h1 h2 h3 h4 hst hp1 hp hq
              · exact rvalid_restA2 s a n cap w hn hl hm h1 h2 h3 h4 hst hp1 hp
            · by_cases hp3 : s.prior = 3
              · by_cases hp : 0 < s.paid
                · cases hq : (s.paid == dueS s) with
                  | false => exact rvalid_restB0 s a n cap w hn hl hm h1 h2 h3 h4 hst hp1 hp3 hp hq
                  | true => exact rvalid_restB1 s a n cap w hn hl hm h1 h2 h3 h4 hst hp1 hp3 hp hq
                · exact rvalid_restB2 s a n cap w hn hl hm h1 h2 h3 h4 hst hp1 hp3 hp
              · exact rvalid_restD s a n cap w hn hl hm h1 h2 h3 h4 hst hp1 hp3
          · by_cases hp0 : s.prior = 0
            · by_cases hp : 0 < s.paid
              · cases hq : (s.paid == dueS s) with
                | false => exact rvalid_restC0 s a n cap w hn hl hm h1 h2 h3 h4 hst hp0 hp hq
                | true => exact rvalid_restC1 s a n cap w hn hl hm h1 h2 h3 h4 hst hp0 hp hq
              · exact rvalid_restC2 s a n cap w hn hl hm h1 h2 h3 h4 hst hp0 hp
            · exact rvalid_restE s a n cap w hn hl hm h1 h2 h3 h4 hst hp0
        · rw [vldB_no (fun h => h4 (by
            have b1 := h.2.2.2.1
            have b2 := h.2.2.2.2.1
            simp only [wit_true] at b1 b2
            exact ⟨b2.1, b2.2, b1.1, b1.2⟩))]
          exact rvalid_money s a n cap w hn hl hm h1 h2 h3 h4
    · rw [vldB_no (fun h => h2 ((bndS_iff s).1 h.1).2)]
      exact rvalid_who s a n cap w hn hl hm h1 h2
  · rw [vldB_no (fun h => h1 ((bndS_iff s).1 h.1).1)]
    exact rvalid_num s a n cap w hn hl hm h1
end Go.Proofs.YtblfmfanfpohbaaGreat
namespace Go.Proofs.YtblfmfanfpohbaaGreat
open Go.ChangeShapes Go.WideShapes Go.ChangeAt Go.RowKit Go.Sort
set_option linter.unusedVariables false
set_option linter.unusedSimpArgs false
set_option maxRecDepth 20000 in
set_option maxHeartbeats 8000000 in
theorem rparts_any (s : St) (a : Option Addr) (n cap : Nat) (w : World) (hn : s.lines.length = n) (hl : Lns w a s.lines) (hm : n ≤ maxLen) :
    Calls Tryz.prog 5 #[.agg (stA s (.slice a n cap))] w (PtP w s) := by
  have HN : Hid (s.lines.length = n) := hn
  have HC0 : Hid (StC w w.heap.size s a n cap (w.alloc (.cells (stA s (.slice a n cap)) 25))) := StC.new w s a n cap hl
  cases hv : vldB s with
  | false =>
    have HV : Hid (vldB s = false) := hv
    have HNO : Hid (ptB s = false) := by show _ = _; unfold ptB; rw [hv]; rfl
    clear hn hl hv
    go_enter Tryz.func5, Tryz.ntmps5
    go_wp2_with (first
      | ((with_reducible refine guard_load 25 ?_); refine wpList_load_st rfl _ rfl HC0.out.1 rfl ?_)
      | (go_at_call 13; refine (rvalid_any s a n cap _ HN.out HC0.out.2.1 hm).mono ?_; rw [HV.out]; rintro _ x1 ⟨rfl, hb1⟩; have HC1 : Hid (StC w w.heap.size s a n cap x1) := StC.keep HC0.out hb1; clear hb1))
    go_ret2
    exact PtP.no HNO.out HC1.out.2.2
  | true =>
    have HV : Hid (vldB s = true) := hv
    have HDU : Hid (linesB s.lines = true ∧ 0 ≤ s.tax ∧ s.tax ≤ 5000) := by have h := vld_due hv; exact ⟨h.1, h.2.1, h.2.2.1⟩
    have hn16 : n ≤ 16 := by rw [← hn]; exact (linesB_facts HDU.out.1).1
    have HSH : Hid (shB (dueS s) (wsL s.lines) = ptB s ∧ inI (dueS s)) := by
      obtain ⟨h1, h2, h3, _⟩ := sh_lines hv
      exact ⟨by rw [h1]; unfold ptB; rw [hv, Bool.true_and], by unfold inI; omega⟩
    have HPT : Hid (parts (dueS s) (wsL s.lines) n = ptL s) := by rw [← hn]; exact pt_parts hv
    have hn0 := (sh_lines hv).2.2.2
    obtain ⟨nt, hnt⟩ : ∃ nt, net s.lines = nt := ⟨_, rfl⟩
    have HNT : Hid (net s.lines = nt) := hnt
    rw [hnt] at hn0
    obtain ⟨i0, hi, hz0, hz1, hz2⟩ := info_parts Tryz.infoI
    obtain ⟨j0, hj0, hy0, hy1, hy2⟩ := info_parts Tryz.infoInt
    have hlw := hl
    by_cases hz : nt = 0
    · have HNO : Hid (ptB s = false) := by show _ = _; unfold ptB; rw [hnt, hz]; simp
      have hzb : (nt == 0) = true := by simpa using hz
      clear hn hl hv hnt hz
      go_enter Tryz.func5, Tryz.ntmps5
      go_wp2_with (first
        | ((with_reducible refine guard_load 25 ?_); refine wpList_load_st rfl _ rfl HC0.out.1 rfl ?_)
        | (go_at_call 13; refine (rvalid_any s a n cap _ HN.out HC0.out.2.1 hm).mono ?_; rw [HV.out]; rintro _ x1 ⟨rfl, hb1⟩; have HC1 : Hid (StC w w.heap.size s a n cap x1) := StC.keep HC0.out hb1; clear hb1)
        | ((with_reducible refine guard_loadg 25 ?_); refine wpList_load_stg rfl _ rfl HC1.out.1 rfl ?_)
        | (go_at_call 14; refine (rnet_any s a n cap _ HN.out HC1.out.2.1 HDU.out.1).mono ?_; rw [HNT.out]; rintro _ x2 ⟨rfl, hb2⟩; have HC2 : Hid (StC w w.heap.size s a n cap x2) := StC.keep HC1.out hb2; clear hb2))
      go_ret2
      exact PtP.no HNO.out HC2.out.2.2
    · have HYES : Hid (ptB s = true) := by show _ = _; unfold ptB; rw [hnt, HV.out, Bool.true_and]; exact decide_eq_true (by omega)
      have hzb : (nt == 0) = false := by simpa using hz
      clear hn hl hv hnt hz
      go_enter Tryz.func5, Tryz.ntmps5
      go_upto_region 4 with (first
        | ((with_reducible refine guard_load 25 ?_); refine wpList_load_st rfl _ rfl HC0.out.1 rfl ?_)
        | (go_at_call 13; refine (rvalid_any s a n cap _ HN.out HC0.out.2.1 hm).mono ?_; rw [HV.out]; rintro _ x1 ⟨rfl, hb1⟩; have HC1 : Hid (StC w w.heap.size s a n cap x1) := StC.keep HC0.out hb1; clear hb1)
        | ((with_reducible refine guard_loadg 25 ?_); refine wpList_load_stg rfl _ rfl HC1.out.1 rfl ?_)
        | (go_at_call 14; refine (rnet_any s a n cap _ HN.out HC1.out.2.1 HDU.out.1).mono ?_; rw [HNT.out]; rintro _ x2 ⟨rfl, hb2⟩; have HC2 : Hid (StC w w.heap.size s a n cap x2) := StC.keep HC1.out hb2; clear hb2))
      obtain ⟨g0, hg0⟩ : ∃ g, g = x2.heap.size := ⟨_, rfl⟩
      have HW0 : Hid (StW w s a n cap 2 g0 0 0 (wsL (s.lines.take 0)) (x2.alloc (.cells #[] 2))) := by
        have hlt : w.heap.size < x2.heap.size := lt_of_heap HC2.out.1
        rw [hg0]
        refine ⟨HC2.out.1.after (bal (Below.refl _ _) _), bal HC2.out.2.2 _, ?_, by omega⟩
        have h := World.ownsRow_lit (base := w.heap.size) (e := 2) (size := 1) x2 #[] 0 HC2.out.2.2.size (by simp) rfl
        simpa [wsL, BI] using h
      have HL : Hid (Lns w a s.lines) := hlw
      rw [← hg0]
      obtain ⟨x3, hx3⟩ : ∃ x3, x3 = x2.alloc (.cells #[] 2) := ⟨_, rfl⟩
      rw [← hx3] at HW0
      rw [← hx3]
      have c6 : x3.cell? ⟨w.heap.size, 5, none⟩ = some (.slice a n cap) := HW0.out.1.cell 5 _ rfl
      clear hg0 hx3 HC0 HC1 HC2 hlw
      go_wp2
      go_loopw [4, 22] (fun v4 vi wr => ∃ (k g c : Nat), v4 = .slice (some ⟨g, 0, none⟩) k c ∧ vi = .int .i64 k ∧ k ≤ n ∧ Hid (StW w s a n cap 2 g k c (wsL (s.lines.take k)) wr)) (fun _ vi _ => n - (intOf vi).toNat)
      case atStart => exact ⟨0, g0, 0, rfl, rfl, Nat.zero_le _, HW0.out⟩
      case round =>
        obtain ⟨k, g, c, rfl, rfl, hk, HW⟩ := hrel
        clear HW0 c6
        by_cases hkn : k < n
        · obtain ⟨p, hp⟩ := ln_get (L := s.lines) (k := k) (by rw [HN.out]; exact hkn)
          obtain ⟨b, off, rfl, hlt, q0, q1, q2, q3⟩ := HL.out.cells k p hp
          have f := (linesB_facts HDU.out.1).2 k p hp
          obtain ⟨b1, b2⟩ := worth_bound (q := p.qty) (p := p.price) (by omega) (by omega) (by omega) (by omega)
          obtain ⟨W, hW⟩ : ∃ W, p.qty * p.price = W := ⟨_, rfl⟩
          have HWT : Hid (BI (wsL (s.lines.take (k + 1))) = BI (wsL (s.lines.take k)) ++ [.int .i64 W]) := by show _ = _; rw [← hW]; exact wsL_take s.lines k p hp
          rw [hW] at b1 b2
          have HWW : Hid (wrap64 (p.qty * p.price) = W) := by show _ = _; rw [hW]; exact wrap64_in (by omega) (by omega)
          have HWI : Hid (IntKind.i64.wrap (p.qty * p.price) = W) := by have h := HWW.out; unfold wrap64 at h; show _ = _; rw [IntKind.wrap_i64]; exact h
          have HQC : Hid (∀ z : World, Below w.heap.size w z → z.cell? ⟨b, off + k * 4 + 2, none⟩ = some (.int .i64 p.qty) ∧ z.cell? ⟨b, off + k * 4 + 1, none⟩ = some (.int .i64 p.price)) := fun z hz => ⟨(hz.cell (p := ⟨b, off + k * 4 + 2, none⟩) hlt).trans q2, (hz.cell (p := ⟨b, off + k * 4 + 1, none⟩) hlt).trans q1⟩
          have hkz : (k : Int) < (n : Int) := by omega
          clear f hW hp q0 q1 q2 q3
          go_upto_region 7 with fail
          refine wp_region_held (S := (fun y => StAt y w.heap.size s (.slice (some ⟨b, off, none⟩) n cap) ∧ Below w.heap.size w y)) (by kernel_rfl) ?_
          change wpAnyH _ _ _ _ _ _ _ _ (World.drew _)
          obtain ⟨xd, hxd⟩ : ∃ xd, wr.drew = xd := ⟨_, rfl⟩
          have HBD : Hid (Below wr.heap.size wr xd) := by rw [← hxd]; exact (Below.refl _ _).drew
          rw [hxd]
          clear hxd
          refine wpAnyH_take (i := 0) (oi := { dst := some 25, op := Op.move (Operand.tmp 4), type := 46, pos := "ref.go:309", after := #[], guard := none }) (v := ?_) rfl (by kernel_rfl) (by kernel_rfl) (by kernel_rfl) (fun _ _ _ h => h) (Or.inl ⟨by rfl, ?_⟩) ⟨(HW.out.keep HBD.out).1, (HW.out.keep HBD.out).2.1⟩ ?_
          rotate_left
          · (intro y hy; go_simp; try (with_reducible rfl))
          simp only [Act.put, List.setIfInBounds_toArray, List.set_cons_zero, List.set_cons_succ]
          refine wpAnyH_take (i := 1) (oi := { dst := some 26, op := Op.fieldAddr 25 (Operand.tmp 1) 5, type := 0, pos := "ref.go:309", after := #[], guard := none }) (v := ?_) rfl (by kernel_rfl) (by kernel_rfl) (by kernel_rfl) (fun _ _ _ h => h) (Or.inl ⟨by rfl, ?_⟩) ⟨(HW.out.keep HBD.out).1, (HW.out.keep HBD.out).2.1⟩ ?_
          rotate_left
          · (intro y hy; go_simp; try (with_reducible rfl))
          simp only [Act.put, List.setIfInBounds_toArray, List.set_cons_zero, List.set_cons_succ]
          refine wpAnyH_take (i := 2) (oi := { dst := some 27, op := Op.load 23 (Operand.tmp 26), type := 23, pos := "ref.go:309", after := #[{ on := 1, ground := Ground.data }], guard := none }) (v := .slice (some ⟨b, off, none⟩) n cap) rfl (by kernel_rfl) (by kernel_rfl) (by kernel_rfl) (fun _ _ _ h => h) (Or.inl ⟨by rfl, ?_⟩) ⟨(HW.out.keep HBD.out).1, (HW.out.keep HBD.out).2.1⟩ ?_
          · (intro z hz; have h0 : z.cell? ⟨w.heap.size, 5, none⟩ = some (.slice (some ⟨b, off, none⟩) n cap) := hz.1.cell 5 _ rfl; go_simp)
          simp only [Act.put, List.setIfInBounds_toArray, List.set_cons_zero, List.set_cons_succ]
          refine wpAnyH_take (i := 3) (oi := { dst := some 28, op := Op.move (Operand.tmp 5), type := 3, pos := "ref.go:309", after := #[], guard := none }) (v := ?_) rfl (by kernel_rfl) (by kernel_rfl) (by kernel_rfl) (fun _ _ _ h => h) (Or.inl ⟨by rfl, ?_⟩) ⟨(HW.out.keep HBD.out).1, (HW.out.keep HBD.out).2.1⟩ ?_
          rotate_left
          · (intro y hy; go_simp; try (with_reducible rfl))
          simp only [Act.put, List.setIfInBounds_toArray, List.set_cons_zero, List.set_cons_succ]
          refine wpAnyH_take (i := 4) (oi := { dst := some 29, op := Op.indexAddr 23 (Operand.tmp 27) (Operand.tmp 28), type := 0, pos := "ref.go:309", after := #[{ on := 2, ground := Ground.data }, { on := 3, ground := Ground.data }], guard := none }) (v := ?_) rfl (by kernel_rfl) (by kernel_rfl) (by kernel_rfl) (fun _ _ _ h => h) (Or.inl ⟨by rfl, ?_⟩) ⟨(HW.out.keep HBD.out).1, (HW.out.keep HBD.out).2.1⟩ ?_
          rotate_left
          · (intro y hy; go_simp; try (with_reducible rfl))
          simp only [Act.put, List.setIfInBounds_toArray, List.set_cons_zero, List.set_cons_succ]
          refine wpAnyH_take (i := 5) (oi := { dst := some 30, op := Op.fieldAddr 44 (Operand.tmp 29) 2, type := 0, pos := "ref.go:309", after := #[{ on := 4, ground := Ground.data }], guard := none }) (v := ?_) rfl (by kernel_rfl) (by kernel_rfl) (by kernel_rfl) (fun _ _ _ h => h) (Or.inl ⟨by rfl, ?_⟩) ⟨(HW.out.keep HBD.out).1, (HW.out.keep HBD.out).2.1⟩ ?_
          rotate_left
          · (intro y hy; go_simp; try (with_reducible rfl))
          simp only [Act.put, List.setIfInBounds_toArray, List.set_cons_zero, List.set_cons_succ]
          refine wpAnyH_take (i := 6) (oi := { dst := some 31, op := Op.load 3 (Operand.tmp 30), type := 3, pos := "ref.go:309", after := #[{ on := 5, ground := Ground.data }], guard := none }) (v := .int .i64 p.qty) rfl (by kernel_rfl) (by kernel_rfl) (by kernel_rfl) (fun _ _ _ h => h) (Or.inl ⟨by rfl, ?_⟩) ⟨(HW.out.keep HBD.out).1, (HW.out.keep HBD.out).2.1⟩ ?_
          · (intro z hz; have h0 := (HQC.out z hz.2).1; go_simp)
          simp only [Act.put, List.setIfInBounds_toArray, List.set_cons_zero, List.set_cons_succ]
          refine wpAnyH_take (i := 7) (oi := { dst := some 32, op := Op.fieldAddr 25 (Operand.tmp 1) 5, type := 0, pos := "ref.go:309", after := #[], guard := none }) (v := ?_) rfl (by kernel_rfl) (by kernel_rfl) (by kernel_rfl) (fun _ _ _ h => h) (Or.inl ⟨by rfl, ?_⟩) ⟨(HW.out.keep HBD.out).1, (HW.out.keep HBD.out).2.1⟩ ?_
          rotate_left
          · (intro y hy; go_simp; try (with_reducible rfl))
          simp only [Act.put, List.setIfInBounds_toArray, List.set_cons_zero, List.set_cons_succ]
          refine wpAnyH_take (i := 8) (oi := { dst := some 33, op := Op.load 23 (Operand.tmp 32), type := 23, pos := "ref.go:309", after := #[{ on := 7, ground := Ground.data }], guard := none }) (v := .slice (some ⟨b, off, none⟩) n cap) rfl (by kernel_rfl) (by kernel_rfl) (by kernel_rfl) (fun _ _ _ h => h) (Or.inl ⟨by rfl, ?_⟩) ⟨(HW.out.keep HBD.out).1, (HW.out.keep HBD.out).2.1⟩ ?_
          · (intro z hz; have h0 : z.cell? ⟨w.heap.size, 5, none⟩ = some (.slice (some ⟨b, off, none⟩) n cap) := hz.1.cell 5 _ rfl; go_simp)
          simp only [Act.put, List.setIfInBounds_toArray, List.set_cons_zero, List.set_cons_succ]
          refine wpAnyH_take (i := 9) (oi := { dst := some 34, op := Op.move (Operand.tmp 5), type := 3, pos := "ref.go:309", after := #[], guard := none }) (v := ?_) rfl (by kernel_rfl) (by kernel_rfl) (by kernel_rfl) (fun _ _ _ h => h) (Or.inl ⟨by rfl, ?_⟩) ⟨(HW.out.keep HBD.out).1, (HW.out.keep HBD.out).2.1⟩ ?_
          rotate_left
          · (intro y hy; go_simp; try (with_reducible rfl))
          simp only [Act.put, List.setIfInBounds_toArray, List.set_cons_zero, List.set_cons_succ]
          refine wpAnyH_take (i := 10) (oi := { dst := some 35, op := Op.indexAddr 23 (Operand.tmp 33) (Operand.tmp 34), type := 0, pos := "ref.go:309", after := #[{ on := 8, ground := Ground.data }, { on := 9, ground := Ground.data }], guard := none }) (v := ?_) rfl (by kernel_rfl) (by kernel_rfl) (by kernel_rfl) (fun _ _ _ h => h) (Or.inl ⟨by rfl, ?_⟩) ⟨(HW.out.keep HBD.out).1, (HW.out.keep HBD.out).2.1⟩ ?_
          rotate_left
          · (intro y hy; go_simp; try (with_reducible rfl))
          simp only [Act.put, List.setIfInBounds_toArray, List.set_cons_zero, List.set_cons_succ]
          refine wpAnyH_take (i := 11) (oi := { dst := some 36, op := Op.fieldAddr 44 (Operand.tmp 35) 1, type := 0, pos := "ref.go:309", after := #[{ on := 10, ground := Ground.data }], guard := none }) (v := ?_) rfl (by kernel_rfl) (by kernel_rfl) (by kernel_rfl) (fun _ _ _ h => h) (Or.inl ⟨by rfl, ?_⟩) ⟨(HW.out.keep HBD.out).1, (HW.out.keep HBD.out).2.1⟩ ?_
          rotate_left
          · (intro y hy; go_simp; try (with_reducible rfl))
          simp only [Act.put, List.setIfInBounds_toArray, List.set_cons_zero, List.set_cons_succ]
          refine wpAnyH_take (i := 12) (oi := { dst := some 37, op := Op.load 3 (Operand.tmp 36), type := 3, pos := "ref.go:309", after := #[{ on := 11, ground := Ground.data }], guard := none }) (v := .int .i64 p.price) rfl (by kernel_rfl) (by kernel_rfl) (by kernel_rfl) (fun _ _ _ h => h) (Or.inl ⟨by rfl, ?_⟩) ⟨(HW.out.keep HBD.out).1, (HW.out.keep HBD.out).2.1⟩ ?_
          · (intro z hz; have h0 := (HQC.out z hz.2).2; go_simp)
          simp only [Act.put, List.setIfInBounds_toArray, List.set_cons_zero, List.set_cons_succ]
          refine wpAnyH_take (i := 13) (oi := { dst := some 38, op := Op.binOp BinOp.mul 3 (Operand.tmp 31) (Operand.tmp 37) 3, type := 3, pos := "ref.go:309", after := #[{ on := 6, ground := Ground.data }, { on := 12, ground := Ground.data }], guard := none }) (v := .int .i64 W) rfl (by kernel_rfl) (by kernel_rfl) (by kernel_rfl) (fun _ _ _ h => h) (Or.inl ⟨by rfl, ?_⟩) ⟨(HW.out.keep HBD.out).1, (HW.out.keep HBD.out).2.1⟩ ?_
          · (intro z hz; have h1 := HWI.out; have h2 := HWW.out; go_simp)
          simp only [Act.put, List.setIfInBounds_toArray, List.set_cons_zero, List.set_cons_succ]
          refine wpAnyH_ready (rs := [14]) (by kernel_rfl) (by simp) ?_
          refine AllReadyH.cons rfl (fun K hK => ?_) AllReadyH.nil
          go_simp
          obtain ⟨x8, hx8⟩ : ∃ x8, x8 = xd.alloc (.cells #[.int .i64 W] 2) := ⟨_, rfl⟩
          rw [← hx8]
          have hb8 : Below xd.heap.size xd x8 := by rw [hx8]; exact bal (Below.refl _ _) _
          have hc8 := row_one xd W 2
          rw [← hx8] at hc8
          have HC8 : Hid (∀ j v, ([.int .i64 W] : List Value)[j]? = some v → x8.cell? ((⟨xd.heap.size, 0, none⟩ : Addr).add j) = some v) := hc8
          have HB8 : Hid (Below wr.heap.size wr x8) := bnx HBD.out hb8
          clear hx8 hb8 hc8
          (refine hK _ _ ⟨(HW.out.keep HB8.out).1, (HW.out.keep HB8.out).2.1⟩ ?_; clear hK K; intro _)
          try simp only [Act.put, List.setIfInBounds_toArray, List.set_cons_zero, List.set_cons_succ]
          refine wpAnyH_ready (rs := [15]) (by kernel_rfl) (by simp) ?_
          refine AllReadyH.cons rfl (fun K hK => ?_) AllReadyH.nil
          refine step_append_int x8 rfl _ _ 46 rfl w.heap.size 2 i0 (.int .i64 0) 8 Tryz.underlying46 hi hz0 hz1 hz2 rfl (.slice (some ⟨g, 0, none⟩) k c) k (BI (wsL (s.lines.take k))) rfl (HW.out.keep HB8.out).2.2.1 ⟨xd.heap.size, 0, none⟩ 1 1 [.int .i64 W] rfl rfl HC8.out (by simp [Value.oneCell']) (by unfold maxLen; omega) (by omega) (by have h1 := (HW.out.keep HB8.out).2.1.size; exact h1) ?_
          intro v9 x9 ho9 hgr9
          rw [← HWT.out] at ho9
          obtain ⟨g2, c2, rfl, hw9⟩ := (HW.out.keep HB8.out).grow2 (by decide) hgr9 ho9
          have HW9 : Hid (StW w s (some ⟨b, off, none⟩) n cap 2 g2 (k + 1) c2 (wsL (s.lines.take (k + 1))) x9) := hw9
          clear ho9 hgr9 hw9
          (refine hK _ _ ⟨HW9.out.1, HW9.out.2.1⟩ ?_; clear hK K; intro _)
          try simp only [Act.put, List.setIfInBounds_toArray, List.set_cons_zero, List.set_cons_succ]
          refine wpAnyH_ready (rs := [16]) (by kernel_rfl) (by simp) ?_
          refine AllReadyH.cons rfl (fun K hK => ?_) AllReadyH.nil
          go_simp
          (refine hK _ _ ⟨HW9.out.1, HW9.out.2.1⟩ ?_; clear hK K; intro _)
          try simp only [Act.put, List.setIfInBounds_toArray, List.set_cons_zero, List.set_cons_succ]
          refine wpAnyH_done (by kernel_rfl) ?_ _
          go_wp2
          go_roundw
          case rel => exact ⟨k + 1, g2, c2, rfl, by go_num, by omega, HW9.out⟩
          case measure => first | (simp [intOf]; done) | (simp [intOf]; omega)
        · obtain rfl : k = n := by omega
          have HWN : Hid (StW w s a k cap 2 g k c (wsL s.lines) wr) := by have h := HW.out; rw [List.take_of_length_le (by rw [HN.out]; omega)] at h; exact h
          clear HW
          have HIN : Hid (∀ x : World, StW w s a k cap 2 g k c (wsL s.lines) x → Ints x (some ⟨g, 0, none⟩) (wsL s.lines)) := by
            intro x h
            have hlen : (wsL s.lines).length = k := (wsL_len _).trans HN.out
            refine ⟨wsL_in HDU.out.1, ?_⟩
            by_cases h0 : k = 0
            · exact .inl (List.length_eq_zero_iff.1 (by omega))
            · refine .inr ⟨g, 0, rfl, (own_lt h.2.2.1).1, fun i hi => ?_⟩
              rw [Nat.zero_add, World.ownsRow.cellAt h.2.2.1 i (by omega), BI_get _ i hi]
          have HWL : Hid ((wsL s.lines).length = k) := (wsL_len _).trans HN.out
          go_upto_region 10 with (first
            | ((with_reducible refine guard_load 25 ?_); refine wpList_load_st rfl _ rfl HWN.out.1 rfl ?_)
            | (go_at_call 16; refine (rdue_any s a k cap _ HN.out (HWN.out.stc HL.out).2.1 HDU.out.1 HDU.out.2.1 HDU.out.2.2).mono ?_; rintro _ x5 ⟨rfl, hb5⟩; have HW5 : Hid (StW w s a k cap 2 g k c (wsL s.lines) x5) := HWN.out.keep hb5; clear hb5)
            | (go_at_call 15; refine (rshare_new (dueS s) (wsL s.lines) k (some ⟨g, 0, none⟩) c x5 HSH.out.2 (HIN.out x5 HW5.out) HWL.out).mono ?_; rw [HSH.out.1, HPT.out, HYES.out]; rintro _ x6 ⟨v6, rfl, hb6, ⟨av, cv, rfl, hiv, hrv⟩⟩; have HB6 : Hid (Below w.heap.size w x6) := bnx HW5.out.2.1 hb6; have HP6 : Hid (Ints x6 av (ptL s)) := hiv; clear hb6 hiv hrv))
          have HPI : Hid (∀ x ∈ ptL s, inI x) := ptL_in HV.out
          have HPB : Hid (ptB s = true) := HYES.out
          obtain ⟨P, hP⟩ : ∃ P, ptL s = P := ⟨_, rfl⟩
          have HPE : Hid (ptL s = P) := hP
          rw [hP] at HP6 HPI
          simp only [hP]
          obtain ⟨np, hnp⟩ : ∃ np, P.length = np := ⟨_, rfl⟩
          have HNP : Hid (P.length = np) := hnp
          rw [hnp]
          clear hP hnp HW5 HWN
          have hnk : np = k := by rw [← HNP.out, ← HPE.out, ptL_len HPB.out]; exact HN.out
          have hnp16 : np ≤ 16 := by omega
          clear hnk
          go_upto_region 11 with fail
          have HR0 : Hid (Below x6.heap.size x6 (x6.alloc (.cells #[] 3)) ∧ (x6.alloc (.cells #[] 3)).ownsRow x6.heap.size 3 1 (.slice (some ⟨x6.heap.size, 0, none⟩) 0 0) 0 (BI (P.take 0))) := by
            refine ⟨bal (Below.refl _ _) _, ?_⟩
            have h := World.ownsRow_lit (base := x6.heap.size) (e := 3) (size := 1) x6 #[] 0 (Nat.le_refl _) (by simp) rfl
            simpa [BI] using h
          obtain ⟨g1, hg1⟩ : ∃ g, g = x6.heap.size := ⟨_, rfl⟩
          obtain ⟨x7, hx7⟩ : ∃ x7, x7 = x6.alloc (.cells #[] 3) := ⟨_, rfl⟩
          rw [← hx7] at HR0
          rw [← hx7]
          have HR1 : Hid (Below x6.heap.size x6 x7 ∧ x7.ownsRow x6.heap.size 3 1 (.slice (some ⟨g1, 0, none⟩) 0 0) 0 (BI (P.take 0))) := by rw [hg1]; exact HR0.out
          rw [← hg1]
          clear hg1 hx7 HR0
          go_wp2
          go_loopw [8, 52] (fun v9 vi wx => ∃ (j g c : Nat), v9 = .slice (some ⟨g, 0, none⟩) j c ∧ vi = .int .i64 j ∧ j ≤ np ∧ Hid (Below x6.heap.size x6 wx ∧ wx.ownsRow x6.heap.size 3 1 (.slice (some ⟨g, 0, none⟩) j c) j (BI (P.take j)))) (fun _ vi _ => np - (intOf vi).toNat)
          case atStart => exact ⟨0, g1, 0, rfl, rfl, Nat.zero_le _, HR1.out⟩
          case round =>
            obtain ⟨j, g, c, rfl, rfl, hj, HR⟩ := hrel
            clear HR1
            by_cases hjn : j < np
            · obtain ⟨ba, oa, hav, hx⟩ : ∃ ba oa, av = some ⟨ba, oa, none⟩ ∧ wr.cell? ⟨ba, oa + j, none⟩ = some (.int .i64 (P.getD j 0)) := by
                rcases (HP6.out.keep HR.out.1).2 with h | ⟨ba, oa, ha, _, hc⟩
                · have := HNP.out; rw [h] at this; simp at this; omega
                · exact ⟨ba, oa, ha, hc j (by rw [HNP.out]; exact hjn)⟩
              subst hav
              obtain ⟨u, eu⟩ : ∃ u, P.getD j 0 = u := ⟨_, rfl⟩
              have HPT2 : Hid (BI (P.take (j + 1)) = BI (P.take j) ++ [.int .i64 u]) := by show _ = _; rw [← eu]; exact BI_take P j (by rw [HNP.out]; exact hjn)
              rw [eu] at hx
              have hjz : (j : Int) < (np : Int) := by omega
              clear eu
              go_wp2_with (first
                | (at_builtin; refine wpList_append_twoK _ rfl _ _ 27 rfl x6.heap.size 3 j0 (.int .i64 0) 1 8 (by decide) Tryz.underlying27 hj0 hy0 hy1 hy2 rfl g j c (BI (P.take j)) rfl (own_at HR.out.2 ((bal (Below.refl wr.heap.size wr) (.cells #[.int .i64 u] 3)).block _ (own_lt HR.out.2).1)) ⟨wr.heap.size, 0, none⟩ 1 1 [.int .i64 u] rfl rfl (row_one wr u _) (by simp [Value.oneCell']) (by decide) (by unfold maxLen; omega) (by omega) (by have h1 := HR.out.1.size; simp; omega) ?_; intro g2 c2 x8 hg2 hlt2 ho2 hgr2; rw [← HPT2.out] at ho2; have HR8 : Hid (Below x6.heap.size x6 x8 ∧ x8.ownsRow x6.heap.size 3 1 (.slice (some ⟨g2, 0, none⟩) (j + 1) c2) (j + 1) (BI (P.take (j + 1)))) := ⟨(bnx HR.out.1 (bal (Below.refl wr.heap.size wr) (.cells #[.int .i64 u] 3))).grown hgr2 (by have h1 := HR.out.1.size; simp; omega) (fun k hk => by cases hk; exact (own_lt HR.out.2).2), ho2⟩; clear hg2 hlt2 ho2 hgr2))
              go_roundw
              case rel => exact ⟨j + 1, g2, c2, rfl, by go_num, by omega, HR8.out⟩
              case measure => first | (simp [intOf]; done) | (simp [intOf]; omega)
            · obtain rfl : j = np := by omega
              go_wp2
              go_ret2
              refine ⟨.slice (some ⟨g, 0, none⟩) j c, by rw [HPB.out]; rfl, bnx HB6.out HR.out.1, ?_⟩
              rw [HPE.out]
              have h := HR.out.2
              rw [List.take_of_length_le (by rw [HNP.out]; omega)] at h
              refine (NewI.row (e := 3) HPI.out ?_).mono HB6.out.size
              rw [HNP.out]
              exact h
end Go.Proofs.YtblfmfanfpohbaaGreat
namespace Go.Proofs.YtblfmfanfpohbaaGreat.orderParts
open Go.ChangeShapes Go.WideShapes Go.ChangeAt Go.RowKit Go.Sort
set_option linter.unusedVariables false
set_option maxRecDepth 20000 in
set_option maxHeartbeats 8000000 in
theorem walk (s : St) (a : Option Addr) (n cap : Nat) (w : World) (hn : s.lines.length = n) (hl : Lns w a s.lines) (hc : n ≤ cap) (hm : n * 32 ≤ 140737488351232) :
    Calls Tryz.prog 3 #[.agg (stA s (.slice a n cap))] w fun r w' => r = .returned (.bool true) ∧ Below w.heap.size w w' := by
  have HN : Hid (s.lines.length = n) := hn
  have hlm : n ≤ maxLen := by unfold maxLen; omega
  have HC0 : Hid (StC w w.heap.size s a n cap (w.alloc (.cells (stA s (.slice a n cap)) 25))) := StC.new w s a n cap hl
  have T1 : Hid True := trivial
  have T2 : Hid True := trivial
  obtain ⟨P, hP⟩ : ∃ P, ptL s = P := ⟨_, rfl⟩
  obtain ⟨pb, hpb⟩ : ∃ pb, ptB s = pb := ⟨_, rfl⟩
  obtain ⟨np, hnp⟩ : ∃ np, P.length = np := ⟨_, rfl⟩
  have HP : Hid (ptL s = P ∧ ptB s = pb ∧ P.length = np) := ⟨hP, hpb, hnp⟩
  have hpp : (pb != pb) = false := by simp
  have hnn : ((np : Int) != (np : Int)) = false := by simp
  clear hn hl hP hpb hnp
  go_enter Tryz.func3, Tryz.ntmps3
  go_upto_region 8 with (first
    | (go_at_call 4; refine (head08_any _).mono ?_; rintro _ x1 ⟨rfl, hb1⟩; have HC1 : Hid (StC w w.heap.size s a n cap x1) := StC.keep HC0.out hb1; clear hb1)
    | ((with_reducible refine guard_load 25 ?_); clear T1; refine wpList_load_st rfl _ rfl HC1.out.1 rfl ?_)
    | (go_at_call 5; refine (rparts_any s a n cap _ HN.out HC1.out.2.1 hlm).mono ?_; rintro _ x2 ⟨v2, rfl, hb2, ⟨a2, c2, rfl, hi2, _⟩⟩; rw [HP.out.1, HP.out.2.1, HP.out.2.2]; have HC2 : Hid (StC w w.heap.size s a n cap x2) := StC.keep HC1.out hb2; rw [HP.out.1] at hi2; have HI2 : Hid (Ints x2 a2 P) := hi2; clear hb2 hi2)
    | ((with_reducible refine guard_load 25 ?_); clear T2; refine wpList_load_st rfl _ rfl HC2.out.1 rfl ?_)
    | (go_at_call 7; refine (scopy_any s a n cap _ HN.out HC2.out.2.1 hm).mono ?_; rintro _ x3 ⟨v3, rfl, ho3, hb3⟩; obtain ⟨a3, c3, hv3, _, _, hl3, _⟩ := ho3.shape; simp only [HN.out] at hv3; subst hv3; have HL3 : Hid (Lns x3 a3 s.lines) := hl3; have HC3 : Hid (StC w w.heap.size s a n cap x3) := StC.keep HC2.out hb3; have HI3 : Hid (Ints x3 a2 P) := HI2.out.keep hb3; clear hb3 ho3 hl3)
    | (go_at_call 6; refine (oparts_any s a3 n c3 _ HN.out HL3.out hlm).mono ?_; rintro _ x4 ⟨⟨v4, rfl, hb4, ⟨a4, c4, rfl, hi4, _⟩⟩, hsum⟩; have HSM : Hid (ptB s = true → (ptL s).sum = dueS s) := hsum; rw [HP.out.1, HP.out.2.1, HP.out.2.2]; have HC4 : Hid (StC w w.heap.size s a n cap x4) := StC.keep HC3.out hb4; rw [HP.out.1] at hi4; have HI4 : Hid (Ints x4 a4 P ∧ Ints x4 a2 P) := ⟨hi4, HI3.out.keep hb4⟩; clear hb4 hi4 hsum))
  have HBD : Hid (∀ j, 0 ≤ (P.take j).sum ∧ (P.take j).sum ≤ 240000000000000) := by have h := ptL_bound HSM.out; rw [HP.out.1] at h; exact h
  have hnpM : (np : Int) ≤ 9223372036854775807 := by
    by_cases h0 : np = 0
    · omega
    · have hb : ptB s = true := by
        cases hb : ptB s with
        | true => rfl
        | false =>
          exfalso
          apply h0
          rw [← HP.out.2.2, ← HP.out.1]
          unfold ptL
          rw [if_neg (by rw [hb]; simp)]
          rfl
      have := ptL_len hb
      rw [HP.out.1, HP.out.2.2, HN.out] at this
      unfold maxLen at hlm
      omega
  go_wp2
  go_loopw [7, 36] (fun vs vi wr => ∃ (j : Nat) (S : Int), vs = .int .i64 S ∧ vi = .int .i64 j ∧ j ≤ np ∧ Hid (S = (P.take j).sum ∧ StC w w.heap.size s a n cap wr ∧ Ints wr a4 P ∧ Ints wr a2 P)) (fun _ vi _ => np - (intOf vi).toNat)
  case atStart => exact ⟨0, 0, rfl, rfl, Nat.zero_le _, by simp, HC4.out, HI4.out.1, HI4.out.2⟩
  case round =>
    obtain ⟨j, S, rfl, rfl, hj, HQ⟩ := hrel
    by_cases hjn : j < np
    · have fnd : ∀ {x : Option Addr}, Ints wr x P → ∃ bx ox, x = some ⟨bx, ox, none⟩ ∧ wr.cell? ⟨bx, ox + j, none⟩ = some (.int .i64 (P.getD j 0)) := by
        intro x h
        rcases h.2 with h | ⟨bx, ox, ha, _, hc⟩
        · have := HP.out.2.2; rw [h] at this; simp at this; omega
        · exact ⟨bx, ox, ha, hc j (by rw [HP.out.2.2]; exact hjn)⟩
      obtain ⟨b4, o4, rfl, h4⟩ := fnd HQ.out.2.2.1
      obtain ⟨b2, o2, rfl, h2⟩ := fnd HQ.out.2.2.2
      obtain ⟨u, eu⟩ : ∃ u, P.getD j 0 = u := ⟨_, rfl⟩
      have hst := sum_step P j (by rw [HP.out.2.2]; exact hjn)
      have b1 := HBD.out (j + 1)
      rw [hst, ← HQ.out.1, eu] at b1
      rw [eu] at h4 h2
      have HST : Hid (S + u = (P.take (j + 1)).sum) := by show _ = _; rw [hst, eu, HQ.out.1]
      obtain ⟨S2, eS2⟩ : ∃ S2, S + u = S2 := ⟨_, rfl⟩
      have HS2 : Hid (S2 = (P.take (j + 1)).sum) := by rw [← eS2]; exact HST.out
      rw [eS2] at b1
      have hS2w : IntKind.i64.wrap S2 = S2 := by rw [IntKind.wrap_i64]; omega
      have huu : (u != u) = false := by simp
      have hjz : (j : Int) < (np : Int) := by omega
      clear hst fnd eu HST
      go_wp2_with fail
      go_quiet (fail)
      go_wp2
      go_roundw
      case rel => exact ⟨j + 1, S2, by first | rfl | go_num, by go_num, by omega, HS2.out, HQ.out.2.1.keep (below_drewN (Below.refl _ _) nq), HQ.out.2.2.1.keep (below_drewN (Below.refl _ _) nq), HQ.out.2.2.2.keep (below_drewN (Below.refl _ _) nq)⟩
      case measure => first | (simp [intOf]; done) | (simp [intOf]; omega)
    · obtain rfl : j = np := by omega
      have HSS : Hid (S = P.sum) := by have h := HQ.out.1; rw [List.take_of_length_le (by rw [HP.out.2.2]; omega)] at h; exact h
      obtain ⟨d, hd⟩ : ∃ d, (if vldB s = true then dueS s else 0) = d := ⟨_, rfl⟩
      obtain ⟨vb, hvb⟩ : ∃ vb, vldB s = vb := ⟨_, rfl⟩
      have HVB : Hid (vldB s = vb ∧ (if vldB s = true then dueS s else 0) = d) := ⟨hvb, hd⟩
      clear hd hvb
      cases pb with
      | false =>
        go_wp2_with (first
          | ((with_reducible refine guard_load 25 ?_); refine wpList_load_st rfl _ rfl HQ.out.2.1.1 rfl ?_)
          | (go_at_call 7; refine (scopy_any s a n cap _ HN.out HQ.out.2.1.2.1 hm).mono ?_; rintro _ x5 ⟨v5, rfl, ho5, hb5⟩; obtain ⟨a5, c5, hv5, _, _, hl5, _⟩ := ho5.shape; simp only [HN.out] at hv5; subst hv5; have HL5 : Hid (Lns x5 a5 s.lines) := hl5; have HC5 : Hid (StC w w.heap.size s a n cap x5) := StC.keep HQ.out.2.1 hb5; clear hb5 ho5 hl5)
          | (go_at_call 8; refine (odue_any s a5 n c5 _ HN.out HL5.out hlm).mono ?_; rw [HVB.out.2, HVB.out.1]; rintro _ x6 ⟨rfl, hb6⟩; have HC6 : Hid (StC w w.heap.size s a n cap x6) := StC.keep HC5.out hb6; clear hb6))
        go_ret
        exact ⟨ret_bool (by simp), HC6.out.2.2⟩
      | true =>
        have hvt : vldB s = true := by have h := HP.out.2.1; unfold ptB at h; cases hv : vldB s with | true => rfl | false => rw [hv] at h; cases h
        have hSd : S = d := by rw [HSS.out, ← HP.out.1, HSM.out HP.out.2.1, ← HVB.out.2, if_pos hvt]
        have hSb : (S == d) = true := by simp [hSd]
        have HSd : Hid (S = d) := hSd
        clear hvt hSd
        go_wp2_with (first
          | ((with_reducible refine guard_load 25 ?_); refine wpList_load_st rfl _ rfl HQ.out.2.1.1 rfl ?_)
          | (go_at_call 7; refine (scopy_any s a n cap _ HN.out HQ.out.2.1.2.1 hm).mono ?_; rintro _ x5 ⟨v5, rfl, ho5, hb5⟩; obtain ⟨a5, c5, hv5, _, _, hl5, _⟩ := ho5.shape; simp only [HN.out] at hv5; subst hv5; have HL5 : Hid (Lns x5 a5 s.lines) := hl5; have HC5 : Hid (StC w w.heap.size s a n cap x5) := StC.keep HQ.out.2.1 hb5; clear hb5 ho5 hl5)
          | (go_at_call 8; refine (odue_any s a5 n c5 _ HN.out HL5.out hlm).mono ?_; rw [HVB.out.2, HVB.out.1]; rintro _ x6 ⟨rfl, hb6⟩; have HC6 : Hid (StC w w.heap.size s a n cap x6) := StC.keep HC5.out hb6; clear hb6))
        go_ret
        exact ⟨ret_bool (by simp), HC6.out.2.2⟩
theorem own : ownKnob Tryz.prog.godebug = none := by kernel_rfl
theorem laidOut : laidOutB Tryz.prog = true := by kernel_rfl
set_option maxRecDepth 100000 in
theorem contract (H : Type) (enc : TypeId × Value → H) (W : World) (base : Nat) (args : Array Value) (ds gs : List (DataW H)) (before : List MemPlace)
    (hval : ∀ (j : Nat) t v, Tryz.f3.params[j]? = some t → args[j]? = some v → Value.okWide Tryz.prog W .any base t v)
    (hW : DataW.Whole enc Tryz.prog Tryz.f3.params.toList Rows.orderPartsSpec.vars false W args.toList ds gs before)
    (hsz : (DataW.weightsEach Tryz.prog (Tryz.f3.params.toList ++ Rows.orderPartsSpec.plain.varTypes Tryz.prog) (ds ++ gs)).all (· ≤ reachBytes) = true) :
    Calls Tryz.prog 3 args W fun e W' => ∃ v, e = .returned v ∧ Rows.orderPartsSpec.post enc Tryz.prog Tryz.f3 false true false false W args v W' := by
  have hW' := hW
  obtain ⟨p, q, hA0, hV, rfl, hfz, hnd⟩ := hW
  have hA : DataW.TrodAll enc Tryz.prog W 0 (fun _ => true) true Tryz.f3.params.toList args.toList ds p := hA0
  rw [Tryz.params3] at hA hval hsz
  obtain ⟨v0, vs0, d0, ds0, p0, q0, hargs, rfl, rfl, h0, r0⟩ := trodAll_cons hA
  obtain ⟨rfl, rfl, rfl⟩ := trodAll_nil r0
  obtain rfl : args = #[v0] := by cases args; simp_all
  obtain ⟨rfl, rfl⟩ := trodVars_none hV
  have k0 := h0
  have lt0 : ∀ x ∈ p0, x.block < W.heap.size := by obtain ⟨m, hm⟩ := k0; exact DataW.trod_lt m _ _ _ hm
  obtain ⟨st0, a0, n0, cap0, rfl, hlen0, w0, c0, m0⟩ := open_state (hval 0 25 v0 rfl rfl) h0 hsz (j := 0) rfl rfl
  clear hA0
  refine (walk st0 a0 n0 cap0 W hlen0 w0 c0 m0).mono fun e W' ⟨he, bel⟩ => ?_
  subst he
  exact ⟨_, rfl, _, _, _, [], _, [], hW', trodAll_mk1 (shut_bool Tryz.underlying4 _), (trodAll_cons_mk (Below.trod laidOut (by kernel_rfl) (of_decide_eq_true (by kernel_rfl)) k0 bel lt0) trodAll_mk0), rfl, bel.frame _, fun h => by cases h⟩
set_option maxRecDepth 100000 in
theorem lifted (os : Os) (started : os.Started) (H : Type) (enc : TypeId × Value → H) :
    ReturnsInHanded {} Tryz.checked os 3 .any (Rows.orderPartsSpec.pre6 enc Tryz.prog Tryz.f3 Rows.orderPartsRow.domain false) (Rows.orderPartsSpec.post enc Tryz.prog Tryz.f3 false true false false) := by
  refine returnsInHanded_of_change_sized (C := Tryz.checked) own started (by kernel_rfl) Tryz.func3
    (ChangeSpec.witness6 (enc := enc) (C := Tryz.checked) false ⟨#[], #[.agg #[.int .i64 0, .int .i64 0, .int .i64 0, .int .i64 0, .int .i64 0, .slice none 0 0, .int .i64 0, .int .i64 0, .int .i64 0, .int .i64 0, .int .i64 0, .string ⟨#[]⟩]], []⟩ 8 (by kernel_rfl) (by kernel_rfl) (by kernel_rfl) (by kernel_rfl)) ?_
  intro W base args ds gs before hval hW _ hsz _
  exact contract H enc W base args ds gs before hval hW hsz
theorem over : Rows.orderPartsRow.holds Tryz.pinned (OpenSpec.ofChange Rows.orderPartsSpec) :=
  OpenClaim.holds_of_wide 3 Tryz.f3 rfl rfl rfl rfl rfl rfl rfl ⟨rfl, rfl, rfl, rfl, rfl⟩ rfl rfl rfl rfl rfl (by kernel_rfl) Tryz.func3 (by kernel_rfl)
    (of_decide_eq_true (by kernel_rfl)) (by unfold Func.isWrapper; first | (rw [if_pos (by decide +kernel)]; kernel_rfl) | (rw [if_neg (by decide +kernel)]; exact ⟨rfl, rfl⟩))
    (fun os started H enc _ => lifted os started H enc)
theorem proved : Rows.OrderPartsSaid := over
end Go.Proofs.YtblfmfanfpohbaaGreat.orderParts
