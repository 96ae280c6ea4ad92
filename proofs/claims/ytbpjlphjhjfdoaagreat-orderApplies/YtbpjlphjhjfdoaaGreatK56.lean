/- Own texts, joined: Rv2. -/
import Derived.Test.YtbpjlphjhjfdoaaGreatK48
import Derived.Test.YtbpjlphjhjfdoaaGreatK54
namespace Go.Proofs.YtbpjlphjhjfdoaaGreat
open Go.ChangeShapes Go.WideShapes Go.ChangeAt Go.RowKit
set_option linter.unusedVariables false
set_option linter.unusedSimpArgs false
theorem stcells {w : World} {b : Nat} {s : St} {v : Value} (h : StAt w b s v) : w.cell? ⟨b, 0, none⟩ = some (.int .i64 s.order) ∧ w.cell? ⟨b, 1, none⟩ = some (.int .i64 s.status) ∧ w.cell? ⟨b, 2, none⟩ = some (.int .i64 s.prior) ∧ w.cell? ⟨b, 3, none⟩ = some (.int .i64 s.cur) ∧ w.cell? ⟨b, 4, none⟩ = some (.int .i64 s.tax) ∧ w.cell? ⟨b, 6, none⟩ = some (.int .i64 s.paid) ∧ w.cell? ⟨b, 7, none⟩ = some (.int .i64 s.refunded) ∧ w.cell? ⟨b, 8, none⟩ = some (.int .i64 s.events) ∧ w.cell? ⟨b, 9, none⟩ = some (.int .i64 s.refused) ∧ w.cell? ⟨b, 10, none⟩ = some (.int .i64 s.stamp) ∧ w.cell? ⟨b, 11, none⟩ = some (.string s.who) ∧ w.cell? ⟨b, 5, none⟩ = some v :=
  ⟨h.cell 0 _ rfl, h.cell 1 _ rfl, h.cell 2 _ rfl, h.cell 3 _ rfl, h.cell 4 _ rfl, h.cell 6 _ rfl, h.cell 7 _ rfl, h.cell 8 _ rfl, h.cell 9 _ rfl, h.cell 10 _ rfl, h.cell 11 _ rfl, h.cell 5 _ rfl⟩
theorem who_four (who : ByteArray) : chk 4 (whoE who) = 0 ↔ chk 5 (whoE who) = 0 := by
  constructor
  · intro h
    have r := right_of h
    exact chk_of ⟨by decide, by decide, by show (1 : Int) ≤ 1; decide, by show (1 : Int) ≤ lastK 5; decide, r.who, r.note, r.order0, r.order1, r.item0, r.item1, by show loQ 5 ≤ (0 : Int); decide, r.qty1, r.price0, by show (0 : Int) ≤ hiP 5; decide, r.cur0, r.cur1, r.tax0, r.tax1, r.plain, r.stamp0, r.stamp1, .inl (by decide), .inl (by decide), .inl (by decide), .inl (by decide)⟩
  · intro h
    have r := right_of h
    exact chk_of ⟨by decide, by decide, by show (1 : Int) ≤ 1; decide, by show (1 : Int) ≤ lastK 4; decide, r.who, r.note, r.order0, r.order1, r.item0, r.item1, by show loQ 4 ≤ (0 : Int); decide, r.qty1, r.price0, by show (0 : Int) ≤ hiP 4; decide, r.cur0, r.cur1, r.tax0, r.tax1, r.plain, r.stamp0, r.stamp1, .inl (by decide), .inl (by decide), .inl (by decide), .inr ⟨rfl, (by have h9 : nilB (whoE who).note = true := (by show nilB ⟨#[]⟩ = true; unfold nilB; rw [ByteArray.toList_eq]; rfl); exact h9)⟩⟩
abbrev NumOk (s : St) : Prop := 1 ≤ s.order ∧ s.order ≤ 1099511627776 ∧ 0 ≤ s.status ∧ s.status ≤ 5 ∧ 0 ≤ s.cur ∧ s.cur ≤ 3 ∧ 0 ≤ s.tax ∧ s.tax ≤ 5000 ∧ 0 ≤ s.events ∧ s.events ≤ 1099511627776 ∧ 0 ≤ s.refused ∧ s.refused ≤ s.events ∧ 0 ≤ s.stamp ∧ s.stamp ≤ 1099511627776
theorem bndS_iff (s : St) : bndS s = true ↔ NumOk s ∧ chk 4 (whoE s.who) = 0 := by
  rw [who_four]
  simp only [bndS, Bool.and_eq_true, wit_true, whoB, beq_iff_eq]
  constructor
  · rintro ⟨⟨a1, a2⟩, ⟨b1, b2⟩, ⟨c1, c2⟩, ⟨d1, d2⟩, ⟨e1, e2⟩, ⟨f1, f2⟩, ⟨g1, g2⟩, hw⟩
    exact ⟨⟨a1, a2, b1, b2, c1, c2, d1, d2, e1, e2, f1, f2, g1, g2⟩, hw⟩
  · rintro ⟨⟨a1, a2, b1, b2, c1, c2, d1, d2, e1, e2, f1, f2, g1, g2⟩, hw⟩
    exact ⟨⟨a1, a2⟩, ⟨b1, b2⟩, ⟨c1, c2⟩, ⟨d1, d2⟩, ⟨e1, e2⟩, ⟨f1, f2⟩, ⟨g1, g2⟩, hw⟩
theorem vldB_no {s : St} (h : ¬ (bndS s = true ∧ linesB s.lines = true ∧ priorB s = true ∧ wit 0 s.paid (dueS s) = true ∧ wit 0 s.refunded s.paid = true ∧ fitsB s = true)) : vldB s = false := by
  cases hv : vldB s with
  | false => rfl
  | true =>
    simp only [vldB, Bool.and_eq_true] at hv
    exact absurd hv h
theorem vldB_fits {s : St} (h1 : bndS s = true) (h2 : linesB s.lines = true) (h3 : priorB s = true) (h4 : wit 0 s.paid (dueS s) = true) (h5 : wit 0 s.refunded s.paid = true) : vldB s = fitsB s := by
  unfold vldB
  rw [h1, h2, h3, h4, h5]
  rfl
set_option maxRecDepth 20000 in
set_option maxHeartbeats 8000000 in
theorem rvalid_num (s : St) (a : Option Addr) (n cap : Nat) (w : World) (hn : s.lines.length = n) (hl : Lns w a s.lines) (hm : n ≤ maxLen) (h1 : ¬ NumOk s) : Calls Tryz.prog 29 #[.agg (stA s (.slice a n cap))] w fun e w' => e = .returned (.bool false) ∧ Below w.heap.size w w' := by
  have HN : Hid (s.lines.length = n) := hn
  obtain ⟨W, hW⟩ : ∃ W, w.alloc (.cells (stA s (.slice a n cap)) 25) = W := ⟨_, rfl⟩
  have HS := StC.new w s a n cap hl
  rw [hW] at HS
  have HSH : Hid (StC w w.heap.size s a n cap W) := HS
  obtain ⟨c0, c1, c2, c3, c4, c6, c7, c8, c9, c10, c11, c5⟩ := stcells HS.1
  clear hn hl HS
  unfold NumOk at h1
  go_enter Tryz.func29, Tryz.ntmps29
  go_wp2
  all_goals first
    | (exfalso; omega)
    | (go_ret; exact ⟨rfl, HSH.out.2.2⟩)
set_option maxRecDepth 20000 in
set_option maxHeartbeats 8000000 in
theorem rvalid_who (s : St) (a : Option Addr) (n cap : Nat) (w : World) (hn : s.lines.length = n) (hl : Lns w a s.lines) (hm : n ≤ maxLen) (h1 : NumOk s) (h2 : chk 4 (whoE s.who) ≠ 0) : Calls Tryz.prog 29 #[.agg (stA s (.slice a n cap))] w fun e w' => e = .returned (.bool false) ∧ Below w.heap.size w w' := by
  have HN : Hid (s.lines.length = n) := hn
  obtain ⟨W, hW⟩ : ∃ W, w.alloc (.cells (stA s (.slice a n cap)) 25) = W := ⟨_, rfl⟩
  have HS := StC.new w s a n cap hl
  rw [hW] at HS
  have HSH : Hid (StC w w.heap.size s a n cap W) := HS
  obtain ⟨c0, c1, c2, c3, c4, c6, c7, c8, c9, c10, c11, c5⟩ := stcells HS.1
  obtain ⟨q, hq⟩ : ∃ q, chk 4 (whoE s.who) = q := ⟨_, rfl⟩
  have HW4 : Hid (_) := hq
  rw [hq] at h2
  have hqb : (q != 0) = true := by simpa using h2
  obtain ⟨a1, a2, b1, b2, e1, e2, f1, f2, g1, g2, i1, i2, j1, j2⟩ := h1
  clear hn hl HS hq h2
  go_enter Tryz.func29, Tryz.ntmps29
  go_wp2_with (first
    | (go_at_call 30; refine (rcheck_ev 4 (whoE s.who) _).mono ?_; rw [HW4.out]; rintro _ x1 ⟨rfl, hb1⟩; have HC1 : Hid (StC w w.heap.size s a n cap x1) := StC.keep HSH.out hb1; obtain ⟨d0, d1, d2, d3, d4, d6, d7, d8, d9, d10, d11, d5⟩ := stcells (StC.keep HSH.out hb1).1; clear hb1))
  go_ret
  exact ⟨rfl, HC1.out.2.2⟩
set_option maxRecDepth 20000 in
set_option maxHeartbeats 8000000 in
theorem rvalid_lines (s : St) (a : Option Addr) (n cap : Nat) (w : World) (hn : s.lines.length = n) (hl : Lns w a s.lines) (hm : n ≤ maxLen) (h1 : NumOk s) (h2 : chk 4 (whoE s.who) = 0) (h3 : linesB s.lines = false) : Calls Tryz.prog 29 #[.agg (stA s (.slice a n cap))] w fun e w' => e = .returned (.bool false) ∧ Below w.heap.size w w' := by
  have HN : Hid (s.lines.length = n) := hn
  obtain ⟨W, hW⟩ : ∃ W, w.alloc (.cells (stA s (.slice a n cap)) 25) = W := ⟨_, rfl⟩
  have HS := StC.new w s a n cap hl
  rw [hW] at HS
  have HSH : Hid (StC w w.heap.size s a n cap W) := HS
  obtain ⟨c0, c1, c2, c3, c4, c6, c7, c8, c9, c10, c11, c5⟩ := stcells HS.1
  have HW4 : Hid (_) := h2
  have HLB : Hid (_) := h3
  obtain ⟨a1, a2, b1, b2, e1, e2, f1, f2, g1, g2, i1, i2, j1, j2⟩ := h1
  clear hn hl HS h2 h3
  go_enter Tryz.func29, Tryz.ntmps29
  go_wp2_with (first
    | (go_at_call 30; refine (rcheck_ev 4 (whoE s.who) _).mono ?_; rw [HW4.out]; rintro _ x1 ⟨rfl, hb1⟩; have HC1 : Hid (StC w w.heap.size s a n cap x1) := StC.keep HSH.out hb1; obtain ⟨d0, d1, d2, d3, d4, d6, d7, d8, d9, d10, d11, d5⟩ := stcells (StC.keep HSH.out hb1).1; clear hb1)
    | ((with_reducible refine guard_loadg 25 ?_); refine wpList_load_stg rfl _ rfl HC1.out.1 rfl ?_)
    | (go_at_call 64; refine (rlines_any s a n cap _ HN.out HC1.out.2.1 hm).mono ?_; rw [HLB.out]; rintro _ x2 ⟨rfl, hb2⟩; have HC2 : Hid (StC w w.heap.size s a n cap x2) := StC.keep HC1.out hb2; clear hb2))
  go_ret
  exact ⟨rfl, HC2.out.2.2⟩
set_option maxRecDepth 20000 in
set_option maxHeartbeats 8000000 in
theorem rvalid_money (s : St) (a : Option Addr) (n cap : Nat) (w : World) (hn : s.lines.length = n) (hl : Lns w a s.lines) (hm : n ≤ maxLen) (h1 : NumOk s) (h2 : chk 4 (whoE s.who) = 0) (h3 : linesB s.lines = true) (h4 : ¬ (0 ≤ s.refunded ∧ s.refunded ≤ s.paid ∧ 0 ≤ s.paid ∧ s.paid ≤ dueS s)) : Calls Tryz.prog 29 #[.agg (stA s (.slice a n cap))] w fun e w' => e = .returned (.bool false) ∧ Below w.heap.size w w' := by
  have HN : Hid (s.lines.length = n) := hn
  obtain ⟨W, hW⟩ : ∃ W, w.alloc (.cells (stA s (.slice a n cap)) 25) = W := ⟨_, rfl⟩
  have HS := StC.new w s a n cap hl
  rw [hW] at HS
  have HSH : Hid (StC w w.heap.size s a n cap W) := HS
  obtain ⟨c0, c1, c2, c3, c4, c6, c7, c8, c9, c10, c11, c5⟩ := stcells HS.1
  have HW4 : Hid (_) := h2
  have HLB : Hid (_) := h3
  obtain ⟨a1, a2, b1, b2, e1, e2, f1, f2, g1, g2, i1, i2, j1, j2⟩ := h1
  obtain ⟨E, hE⟩ : ∃ E, StC w w.heap.size s a n cap = E := ⟨_, rfl⟩
  have R : Hid (∀ w2, E w2 → w2.cell? ⟨w.heap.size, 6, none⟩ = some (.int .i64 s.paid) ∧ w2.cell? ⟨w.heap.size, 7, none⟩ = some (.int .i64 s.refunded)) := fun w2 h => by rw [← hE] at h; exact ⟨h.1.cell 6 _ rfl, h.1.cell 7 _ rfl⟩
  have RS : Hid (∀ w2, E w2 → StAt w2 w.heap.size s (.slice a n cap)) := fun w2 h => by rw [← hE] at h; exact h.1
  have HBel : Hid (∀ w2, E w2 → Below w.heap.size w w2) := fun w2 h => by rw [← hE] at h; exact h.2.2
  have HLn : Hid (∀ w2, E w2 → Lns w2 a s.lines) := fun w2 h => by rw [← hE] at h; exact h.2.1
  have HK : Hid (∀ w1 w2, E w1 → Below w1.heap.size w1 w2 → E w2) := fun w1 w2 h h2 => by rw [← hE] at h ⊢; exact h.keep h2
  have HEi : Hid (∀ w2, StC w w.heap.size s a n cap w2 → E w2) := fun w2 h => by rw [← hE]; exact h
  obtain ⟨D, hD⟩ : ∃ D, dueS s = D := ⟨_, rfl⟩
  have CD : Hid (∀ w2, E w2 → Calls Tryz.prog 17 #[.agg (stA s (.slice a n cap))] w2 fun e w' => e = .returned (.int .i64 D) ∧ E w') := fun w2 h => (rdue_any s a n cap w2 hn (HLn.out w2 h) h3 f1 f2).mono fun e w' ⟨k1, k2⟩ => ⟨by rw [← hD]; exact k1, HK.out _ _ h k2⟩
  rw [hD] at h4
  clear hn hl HS h2 h3 hE hD
  by_cases t1 : s.refunded < 0
  · have gt1 : decide (s.refunded < 0) = true := decide_eq_true t1
    go_enter Tryz.func29, Tryz.ntmps29
    go_wp2_with (first
      | (go_at_call 30; refine (rcheck_ev 4 (whoE s.who) _).mono ?_; rw [HW4.out]; rintro _ x1 ⟨rfl, hb1⟩; have HC1 : Hid (StC w w.heap.size s a n cap x1) := StC.keep HSH.out hb1; obtain ⟨d0, d1, d2, d3, d4, d6, d7, d8, d9, d10, d11, d5⟩ := stcells (StC.keep HSH.out hb1).1; clear hb1)
      | ((with_reducible refine guard_loadg 25 ?_); refine wpList_load_stg rfl _ rfl HC1.out.1 rfl ?_)
      | (go_at_call 64; refine (rlines_any s a n cap _ HN.out HC1.out.2.1 hm).mono ?_; rw [HLB.out]; rintro _ x2 ⟨rfl, hb2⟩; have HC2 : Hid (StC w w.heap.size s a n cap x2) := StC.keep HC1.out hb2; clear hb2))
    refine wp_region_quiet (C := E) (by kernel_rfl) (by kernel_rfl) (HK.out x2 _ (HEi.out _ HC2.out) (Below.refl _ _).drew) ?_
    simp only [List.toList_toArray]
    repeat (any_goals (first
      | go_big_quiet_skip
      | (go_big_quiet_want
         first
         | (refine quiet_val (v := .agg (stA s (.slice a n cap))) (fun w2 hw2 => exec_load_st (.tmp 1) rfl rfl (RS.out w2 hw2)) ?_
            go_big_quiet_on; simp only [Act.put, List.setIfInBounds_toArray, List.set_cons_zero, List.set_cons_succ])
         | (refine quiet_val (v := ?_) (fun w2 hw2 => ?_) ?_
            rotate_left
            · (first | (go_simp; with_reducible rfl) | (obtain ⟨q1, q2⟩ := R.out w2 hw2; go_simp; with_reducible rfl))
            go_big_quiet_on; simp only [Act.put, List.setIfInBounds_toArray, List.set_cons_zero, List.set_cons_succ])
         | (refine quiet_call (v := ?_) (f := ?_) (args := ?_) (fun w2 hw2 => ?_) (fun w2 hw2 => ?_) ?_
            rotate_left 3
            · (go_simp; refine ⟨?_, ?_⟩ <;> with_reducible rfl)
            · exact CD.out _ hw2
            (go_big_quiet_on; simp only [Act.put, List.setIfInBounds_toArray, List.set_cons_zero, List.set_cons_succ])))))
    all_goals
      refine wpQuiet_nil ?_
      intro w3 hw3
      go_wp2
      go_ret
      exact ⟨rfl, HBel.out _ hw3⟩
  · have gt1 : decide (s.refunded < 0) = false := decide_eq_false t1
    by_cases t2 : s.paid < s.refunded
    · have gt2 : decide (s.paid < s.refunded) = true := decide_eq_true t2
      go_enter Tryz.func29, Tryz.ntmps29
      go_wp2_with (first
        | (go_at_call 30; refine (rcheck_ev 4 (whoE s.who) _).mono ?_; rw [HW4.out]; rintro _ x1 ⟨rfl, hb1⟩; have HC1 : Hid (StC w w.heap.size s a n cap x1) := StC.keep HSH.out hb1; obtain ⟨d0, d1, d2, d3, d4, d6, d7, d8, d9, d10, d11, d5⟩ := stcells (StC.keep HSH.out hb1).1; clear hb1)
        | ((with_reducible refine guard_loadg 25 ?_); refine wpList_load_stg rfl _ rfl HC1.out.1 rfl ?_)
        | (go_at_call 64; refine (rlines_any s a n cap _ HN.out HC1.out.2.1 hm).mono ?_; rw [HLB.out]; rintro _ x2 ⟨rfl, hb2⟩; have HC2 : Hid (StC w w.heap.size s a n cap x2) := StC.keep HC1.out hb2; clear hb2))
      refine wp_region_quiet (C := E) (by kernel_rfl) (by kernel_rfl) (HK.out x2 _ (HEi.out _ HC2.out) (Below.refl _ _).drew) ?_
      simp only [List.toList_toArray]
      repeat (any_goals (first
        | go_big_quiet_skip
        | (go_big_quiet_want
           first
           | (refine quiet_val (v := .agg (stA s (.slice a n cap))) (fun w2 hw2 => exec_load_st (.tmp 1) rfl rfl (RS.out w2 hw2)) ?_
              go_big_quiet_on; simp only [Act.put, List.setIfInBounds_toArray, List.set_cons_zero, List.set_cons_succ])
           | (refine quiet_val (v := ?_) (fun w2 hw2 => ?_) ?_
              rotate_left
              · (first | (go_simp; with_reducible rfl) | (obtain ⟨q1, q2⟩ := R.out w2 hw2; go_simp; with_reducible rfl))
              go_big_quiet_on; simp only [Act.put, List.setIfInBounds_toArray, List.set_cons_zero, List.set_cons_succ])
           | (refine quiet_call (v := ?_) (f := ?_) (args := ?_) (fun w2 hw2 => ?_) (fun w2 hw2 => ?_) ?_
              rotate_left 3
              · (go_simp; refine ⟨?_, ?_⟩ <;> with_reducible rfl)
              · exact CD.out _ hw2
              (go_big_quiet_on; simp only [Act.put, List.setIfInBounds_toArray, List.set_cons_zero, List.set_cons_succ])))))
      all_goals
        refine wpQuiet_nil ?_
        intro w3 hw3
        go_wp2
        go_ret
        exact ⟨rfl, HBel.out _ hw3⟩
    · have gt2 : decide (s.paid < s.refunded) = false := decide_eq_false t2
      have gt3 : decide (s.paid < 0) = false := decide_eq_false (by omega)
      by_cases t4 : D < s.paid
      · have gt4 : decide (D < s.paid) = true := decide_eq_true t4
        go_enter Tryz.func29, Tryz.ntmps29
        go_wp2_with (first
          | (go_at_call 30; refine (rcheck_ev 4 (whoE s.who) _).mono ?_; rw [HW4.out]; rintro _ x1 ⟨rfl, hb1⟩; have HC1 : Hid (StC w w.heap.size s a n cap x1) := StC.keep HSH.out hb1; obtain ⟨d0, d1, d2, d3, d4, d6, d7, d8, d9, d10, d11, d5⟩ := stcells (StC.keep HSH.out hb1).1; clear hb1)
          | ((with_reducible refine guard_loadg 25 ?_); refine wpList_load_stg rfl _ rfl HC1.out.1 rfl ?_)
          | (go_at_call 64; refine (rlines_any s a n cap _ HN.out HC1.out.2.1 hm).mono ?_; rw [HLB.out]; rintro _ x2 ⟨rfl, hb2⟩; have HC2 : Hid (StC w w.heap.size s a n cap x2) := StC.keep HC1.out hb2; clear hb2))
        refine wp_region_quiet (C := E) (by kernel_rfl) (by kernel_rfl) (HK.out x2 _ (HEi.out _ HC2.out) (Below.refl _ _).drew) ?_
        simp only [List.toList_toArray]
        repeat (any_goals (first
          | go_big_quiet_skip
          | (go_big_quiet_want
             first
             | (refine quiet_val (v := .agg (stA s (.slice a n cap))) (fun w2 hw2 => exec_load_st (.tmp 1) rfl rfl (RS.out w2 hw2)) ?_
                go_big_quiet_on; simp only [Act.put, List.setIfInBounds_toArray, List.set_cons_zero, List.set_cons_succ])
             | (refine quiet_val (v := ?_) (fun w2 hw2 => ?_) ?_
                rotate_left
                · (first | (go_simp; with_reducible rfl) | (obtain ⟨q1, q2⟩ := R.out w2 hw2; go_simp; with_reducible rfl))
                go_big_quiet_on; simp only [Act.put, List.setIfInBounds_toArray, List.set_cons_zero, List.set_cons_succ])
             | (refine quiet_call (v := ?_) (f := ?_) (args := ?_) (fun w2 hw2 => ?_) (fun w2 hw2 => ?_) ?_
                rotate_left 3
                · (go_simp; refine ⟨?_, ?_⟩ <;> with_reducible rfl)
                · exact CD.out _ hw2
                (go_big_quiet_on; simp only [Act.put, List.setIfInBounds_toArray, List.set_cons_zero, List.set_cons_succ])))))
        all_goals
          refine wpQuiet_nil ?_
          intro w3 hw3
          go_wp2
          go_ret
          exact ⟨rfl, HBel.out _ hw3⟩
      · have gt4 : decide (D < s.paid) = false := decide_eq_false t4
        exact absurd ⟨by omega, by omega, by omega, by omega⟩ h4
theorem fitc {F U P W b0 b1 b2 b3 b4 b5 b6 r : Bool} {k : Int} (h : F = if k = 0 then (b0 && (b1 && (b2 && (b3 && (b4 && (b5 && b6)))))) else if k = 1 then U && (r && !P) else if k = 3 then P && !W else if k = 4 then P && W else U) :
    (k = 0 ∧ b0 = false ∧ F = false) ∨ (k = 0 ∧ b0 = true ∧ b1 = false ∧ F = false) ∨ (k = 0 ∧ b0 = true ∧ b1 = true ∧ b2 = false ∧ F = false) ∨ (k = 0 ∧ b0 = true ∧ b1 = true ∧ b2 = true ∧ b3 = false ∧ F = false) ∨ (k = 0 ∧ b0 = true ∧ b1 = true ∧ b2 = true ∧ b3 = true ∧ b4 = false ∧ F = false) ∨ (k = 0 ∧ b0 = true ∧ b1 = true ∧ b2 = true ∧ b3 = true ∧ b4 = true ∧ b5 = false ∧ F = false) ∨ (k = 0 ∧ b0 = true ∧ b1 = true ∧ b2 = true ∧ b3 = true ∧ b4 = true ∧ b5 = true ∧ F = b6) ∨ (k = 1 ∧ U = false ∧ F = false) ∨ (k = 1 ∧ U = true ∧ r = false ∧ F = false) ∨ (k = 1 ∧ U = true ∧ r = true ∧ F = !P) ∨ (k = 3 ∧ F = (P && !W)) ∨ (k = 4 ∧ F = (P && W)) ∨ ((k == 0) = false ∧ (k == 1) = false ∧ (k == 3) = false ∧ (k == 4) = false ∧ F = U) := by
  by_cases k0 : k = 0
  · subst k0
    rw [if_pos rfl] at h
    cases b0 <;> cases b1 <;> cases b2 <;> cases b3 <;> cases b4 <;> cases b5 <;> simp_all
  · rw [if_neg k0] at h
    by_cases k1 : k = 1
    · subst k1
      rw [if_pos rfl] at h
      cases U <;> cases r <;> simp_all
    · rw [if_neg k1] at h
      by_cases k3 : k = 3
      · subst k3
        rw [if_pos rfl] at h
        simp_all
      · rw [if_neg k3] at h
        by_cases k4 : k = 4
        · subst k4
          rw [if_pos rfl] at h
          simp_all
        · rw [if_neg k4] at h
          simp_all
end Go.Proofs.YtbpjlphjhjfdoaaGreat
