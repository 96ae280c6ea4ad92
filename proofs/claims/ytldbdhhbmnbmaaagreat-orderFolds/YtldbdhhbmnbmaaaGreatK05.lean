/- Own texts, joined: Chk1, Chk2. -/
import Derived.Test.YtldbdhhbmnbmaaaGreatK04
namespace Go.Proofs.YtldbdhhbmnbmaaaGreat
open Go.ChangeShapes Go.WideShapes Go.ChangeAt Go.RowKit
set_option linter.unusedSimpArgs false
set_option maxRecDepth 20000 in
set_option maxHeartbeats 4000000 in
theorem check1 (k o i q p c t : Int) (wh : ByteArray) (s : Int) (n : ByteArray) (w : World) :
    Calls Tryz.prog 82 #[.int .i64 1, .agg #[.int .i64 k, .int .i64 o, .int .i64 i, .int .i64 q, .int .i64 p, .int .i64 c, .int .i64 t, .string wh, .int .i64 s, .string n]] w fun e w' => e = .returned (.int .i64 (chkV 1 (-10000) 1000000 5 k o i q p c t wh s n)) ∧ Below w.heap.size w w' := by
  obtain ⟨E, _, hE, hn, hbel, _, r0, r1, r2, r3, r4, r5, r6, r7, r8, r9⟩ := ev_held w k o i q p c t wh s n
  have HN : Hid (∀ w1 w2, E w1 → Below w1.heap.size w1 w2 → E w2) := hn
  have HB : Hid (∀ w2, E w2 → Below w.heap.size w w2) := hbel
  have R : Hid (∀ w2, E w2 → _ ∧ _ ∧ _ ∧ _ ∧ _ ∧ _ ∧ _ ∧ _ ∧ _ ∧ _) := fun w2 h => ⟨r0 w2 h, r1 w2 h, r2 w2 h, r3 w2 h, r4 w2 h, r5 w2 h, r6 w2 h, r7 w2 h, r8 w2 h, r9 w2 h⟩
  clear hn hbel r0 r1 r2 r3 r4 r5 r6 r7 r8 r9
  have CK : ∀ v w2, E w2 → Calls Tryz.prog 127 #[.agg v] w2 fun e w' => e = .returned (.int .i64 (5)) ∧ E w' := fun v w2 h => (v1_last v w2).mono fun e w' ⟨h1, h2⟩ => ⟨h1, HN.out _ _ h h2⟩
  have HCK : Hid (_) := CK
  clear CK
  have hm3 := m_last1
  have hk : k < 1 ∨ (1 ≤ k ∧ 5 < k) ∨ (1 ≤ k ∧ k ≤ 5) := by omega
  rcases hk with hk | ⟨hk, hk2⟩ | ⟨hk, hk2⟩
  · have HR : Hid (chkV 1 (-10000) 1000000 5 k o i q p c t wh s n = 31) := if_pos (.inl hk)
    have hd : decide (k < 1) = true := by simpa using hk
    go_enter Tryz.func82, Tryz.ntmps82
    go_wp2_with (go_at_call 98; refine (find_yes 1 _ (by omega) (by omega)).mono ?_; rintro e w' ⟨rfl, rfl⟩; unfold verV)
    refine wp_region_quiet (C := E) (by kernel_rfl) (by kernel_rfl) hE ?_
    simp only [List.toList_toArray]
    repeat (first
      | go_big_quiet_skip
      | (go_big_quiet_want
         first
         | (refine quiet_val (v := ?_) (fun w2 hw2 => ?_) ?_
            rotate_left
            · (first | (go_simp; with_reducible rfl) | (obtain ⟨q0, _⟩ := R.out w2 hw2; go_simp; with_reducible rfl))
            go_big_quiet_on; simp only [Act.put, List.setIfInBounds_toArray, List.set_cons_zero, List.set_cons_succ])
         | (refine quiet_call (v := ?_) (f := ?_) (args := ?_) (fun w2 hw2 => ?_) (fun w2 hw2 => ?_) ?_
            rotate_left 3
            · (go_simp; refine ⟨?_, ?_⟩ <;> with_reducible rfl)
            · (go_at_call 127; exact HCK.out _ _ hw2)
            go_big_quiet_on; simp only [Act.put, List.setIfInBounds_toArray, List.set_cons_zero, List.set_cons_succ])))
    refine wpQuiet_nil ?_
    intro w3 hw3'
    have HW3 : Hid (E w3) := hw3'
    clear hw3' hE
    go_wp2
    go_ret
    exact ⟨ret_int HR.out.symm, HB.out _ HW3.out⟩
  · have HR : Hid (chkV 1 (-10000) 1000000 5 k o i q p c t wh s n = 31) := if_pos (.inr hk2)
    have hd : decide (k < 1) = false := by simp; omega
    have hd2 : decide (5 < k) = true := by simpa using hk2
    go_enter Tryz.func82, Tryz.ntmps82
    go_wp2_with (go_at_call 98; refine (find_yes 1 _ (by omega) (by omega)).mono ?_; rintro e w' ⟨rfl, rfl⟩; unfold verV)
    refine wp_region_quiet (C := E) (by kernel_rfl) (by kernel_rfl) hE ?_
    simp only [List.toList_toArray]
    repeat (first
      | go_big_quiet_skip
      | (go_big_quiet_want
         first
         | (refine quiet_val (v := ?_) (fun w2 hw2 => ?_) ?_
            rotate_left
            · (first | (go_simp; with_reducible rfl) | (obtain ⟨q0, _⟩ := R.out w2 hw2; go_simp; with_reducible rfl))
            go_big_quiet_on; simp only [Act.put, List.setIfInBounds_toArray, List.set_cons_zero, List.set_cons_succ])
         | (refine quiet_call (v := ?_) (f := ?_) (args := ?_) (fun w2 hw2 => ?_) (fun w2 hw2 => ?_) ?_
            rotate_left 3
            · (go_simp; refine ⟨?_, ?_⟩ <;> with_reducible rfl)
            · (go_at_call 127; exact HCK.out _ _ hw2)
            go_big_quiet_on; simp only [Act.put, List.setIfInBounds_toArray, List.set_cons_zero, List.set_cons_succ])))
    refine wpQuiet_nil ?_
    intro w3 hw3'
    have HW3 : Hid (E w3) := hw3'
    clear hw3' hE
    go_wp2
    go_ret
    exact ⟨ret_int HR.out.symm, HB.out _ HW3.out⟩
  · have HK : Hid (¬ (k < 1 ∨ 5 < k)) := by show ¬ _; omega
    have hd : decide (k < 1) = false := by simp; omega
    have hd2 : decide (5 < k) = false := by simp; omega
    go_enter Tryz.func82, Tryz.ntmps82
    go_wp2_with (go_at_call 98; refine (find_yes 1 _ (by omega) (by omega)).mono ?_; rintro e w' ⟨rfl, rfl⟩; unfold verV)
    refine wp_region_quiet (C := E) (by kernel_rfl) (by kernel_rfl) hE ?_
    simp only [List.toList_toArray]
    repeat (first
      | go_big_quiet_skip
      | (go_big_quiet_want
         first
         | (refine quiet_val (v := ?_) (fun w2 hw2 => ?_) ?_
            rotate_left
            · (first | (go_simp; with_reducible rfl) | (obtain ⟨q0, _⟩ := R.out w2 hw2; go_simp; with_reducible rfl))
            go_big_quiet_on; simp only [Act.put, List.setIfInBounds_toArray, List.set_cons_zero, List.set_cons_succ])
         | (refine quiet_call (v := ?_) (f := ?_) (args := ?_) (fun w2 hw2 => ?_) (fun w2 hw2 => ?_) ?_
            rotate_left 3
            · (go_simp; refine ⟨?_, ?_⟩ <;> with_reducible rfl)
            · (go_at_call 127; exact HCK.out _ _ hw2)
            go_big_quiet_on; simp only [Act.put, List.setIfInBounds_toArray, List.set_cons_zero, List.set_cons_succ])))
    refine wpQuiet_nil ?_
    intro w3 hw3'
    have HW3 : Hid (E w3) := hw3'
    clear hw3' hE
    obtain ⟨q0, q1, q2, q3, q4, q5, q6, q7, q8, q9⟩ := R.out w3 HW3.out
    by_cases hs1 : 16 < wh.size
    · have HR : Hid (chkV 1 (-10000) 1000000 5 k o i q p c t wh s n = 24) := by show _ = _; unfold chkV; rw [if_neg HK.out, if_pos (.inl hs1)]
      have hs1' : (16 : Int) < (wh.size : Int) := by omega
      go_wp2
      go_ret
      exact ⟨ret_int HR.out.symm, HB.out _ HW3.out⟩
    · by_cases hs2 : 120 < n.size
      · have HR : Hid (chkV 1 (-10000) 1000000 5 k o i q p c t wh s n = 24) := by show _ = _; unfold chkV; rw [if_neg HK.out, if_pos (.inr hs2)]
        have hs1' : (wh.size : Int) ≤ 16 := by omega
        have hs2' : (120 : Int) < (n.size : Int) := by omega
        have hd3 : decide ((16 : Int) < (wh.size : Int)) = false := by simp; omega
        go_wp2
        go_ret
        exact ⟨ret_int HR.out.symm, HB.out _ HW3.out⟩
      · have HS : Hid (¬ (16 < wh.size ∨ 120 < n.size)) := by show ¬ _; omega
        have hs1' : (wh.size : Int) ≤ 16 := by omega
        have hs2' : (n.size : Int) ≤ 120 := by omega
        have hd3 : decide ((16 : Int) < (wh.size : Int)) = false := by simp; omega
        have hd4 : decide ((120 : Int) < (n.size : Int)) = false := by simp; omega
        have HWH : Hid (wh.size ≤ 16) := by show _ ≤ _; omega
        clear hs1 hs2
        cases hb : bnd (-10000) 1000000 o i q p c t wh s with
        | false =>
          have HR : Hid (chkV 1 (-10000) 1000000 5 k o i q p c t wh s n = 32) := by show _ = _; unfold chkV; rw [if_neg HK.out, if_neg HS.out, if_neg (by rw [hb]; simp)]
          go_wp2_with (go_at_call 99; refine (boundA _ _ _ _ k o i q p c t wh s n w3 HWH.out m_least1 m_most1).mono ?_; rw [hb]; rintro e w4 ⟨rfl, hb4⟩)
          go_ret
          exact ⟨ret_int HR.out.symm, HB.out _ (HN.out _ _ HW3.out hb4)⟩
        | true =>
          cases ho : ownB 1 c t wh s n with
          | false =>
            have HR : Hid (chkV 1 (-10000) 1000000 5 k o i q p c t wh s n = 32) := by show _ = _; unfold chkV; rw [if_neg HK.out, if_neg HS.out, if_neg (by rw [ho]; simp)]
            go_wp2_with (first
              | (go_at_call 99; refine (boundA _ _ _ _ k o i q p c t wh s n w3 HWH.out m_least1 m_most1).mono ?_; rw [hb]; rintro e w4 ⟨rfl, hb4⟩; have HW4 : Hid (E w4) := HN.out _ _ HW3.out hb4; clear hb4 q0 q1 q2 q3 q4 q5 q6 q7 q8 q9; obtain ⟨q0, q1, q2, q3, q4, q5, q6, q7, q8, q9⟩ := R.out w4 HW4.out)
              | (go_at_call 100; refine (own_any 1 k o i q p c t wh s n w4 (by omega) (by omega)).mono ?_; rw [ho]; rintro e w5 ⟨rfl, hb5⟩))
            go_ret
            exact ⟨ret_int HR.out.symm, HB.out _ (HN.out _ _ HW4.out hb5)⟩
          | true =>
            have HR : Hid (chkV 1 (-10000) 1000000 5 k o i q p c t wh s n = 0) := by show _ = _; unfold chkV; rw [if_neg HK.out, if_neg HS.out, if_pos ⟨hb, ho⟩]
            go_wp2_with (first
              | (go_at_call 99; refine (boundA _ _ _ _ k o i q p c t wh s n w3 HWH.out m_least1 m_most1).mono ?_; rw [hb]; rintro e w4 ⟨rfl, hb4⟩; have HW4 : Hid (E w4) := HN.out _ _ HW3.out hb4; clear hb4 q0 q1 q2 q3 q4 q5 q6 q7 q8 q9; obtain ⟨q0, q1, q2, q3, q4, q5, q6, q7, q8, q9⟩ := R.out w4 HW4.out)
              | (go_at_call 100; refine (own_any 1 k o i q p c t wh s n w4 (by omega) (by omega)).mono ?_; rw [ho]; rintro e w5 ⟨rfl, hb5⟩))
            go_ret
            exact ⟨ret_int HR.out.symm, HB.out _ (HN.out _ _ HW4.out hb5)⟩
end Go.Proofs.YtldbdhhbmnbmaaaGreat
namespace Go.Proofs.YtldbdhhbmnbmaaaGreat
open Go.ChangeShapes Go.WideShapes Go.ChangeAt Go.RowKit
set_option linter.unusedSimpArgs false
set_option maxRecDepth 20000 in
set_option maxHeartbeats 4000000 in
theorem check2 (k o i q p c t : Int) (wh : ByteArray) (s : Int) (n : ByteArray) (w : World) :
    Calls Tryz.prog 82 #[.int .i64 2, .agg #[.int .i64 k, .int .i64 o, .int .i64 i, .int .i64 q, .int .i64 p, .int .i64 c, .int .i64 t, .string wh, .int .i64 s, .string n]] w fun e w' => e = .returned (.int .i64 (chkV 2 (-10000) 100000000 5 k o i q p c t wh s n)) ∧ Below w.heap.size w w' := by
  obtain ⟨E, _, hE, hn, hbel, _, r0, r1, r2, r3, r4, r5, r6, r7, r8, r9⟩ := ev_held w k o i q p c t wh s n
  have HN : Hid (∀ w1 w2, E w1 → Below w1.heap.size w1 w2 → E w2) := hn
  have HB : Hid (∀ w2, E w2 → Below w.heap.size w w2) := hbel
  have R : Hid (∀ w2, E w2 → _ ∧ _ ∧ _ ∧ _ ∧ _ ∧ _ ∧ _ ∧ _ ∧ _ ∧ _) := fun w2 h => ⟨r0 w2 h, r1 w2 h, r2 w2 h, r3 w2 h, r4 w2 h, r5 w2 h, r6 w2 h, r7 w2 h, r8 w2 h, r9 w2 h⟩
  clear hn hbel r0 r1 r2 r3 r4 r5 r6 r7 r8 r9
  have CK : ∀ v w2, E w2 → Calls Tryz.prog 127 #[.agg v] w2 fun e w' => e = .returned (.int .i64 (5)) ∧ E w' := fun v w2 h => (v1_last v w2).mono fun e w' ⟨h1, h2⟩ => ⟨h1, HN.out _ _ h h2⟩
  have HCK : Hid (_) := CK
  clear CK
  have hm3 := m_last2
  have hk : k < 1 ∨ (1 ≤ k ∧ 5 < k) ∨ (1 ≤ k ∧ k ≤ 5) := by omega
  rcases hk with hk | ⟨hk, hk2⟩ | ⟨hk, hk2⟩
  · have HR : Hid (chkV 2 (-10000) 100000000 5 k o i q p c t wh s n = 31) := if_pos (.inl hk)
    have hd : decide (k < 1) = true := by simpa using hk
    go_enter Tryz.func82, Tryz.ntmps82
    go_wp2_with (go_at_call 98; refine (find_yes 2 _ (by omega) (by omega)).mono ?_; rintro e w' ⟨rfl, rfl⟩; unfold verV)
    refine wp_region_quiet (C := E) (by kernel_rfl) (by kernel_rfl) hE ?_
    simp only [List.toList_toArray]
    repeat (first
      | go_big_quiet_skip
      | (go_big_quiet_want
         first
         | (refine quiet_val (v := ?_) (fun w2 hw2 => ?_) ?_
            rotate_left
            · (first | (go_simp; with_reducible rfl) | (obtain ⟨q0, _⟩ := R.out w2 hw2; go_simp; with_reducible rfl))
            go_big_quiet_on; simp only [Act.put, List.setIfInBounds_toArray, List.set_cons_zero, List.set_cons_succ])
         | (refine quiet_call (v := ?_) (f := ?_) (args := ?_) (fun w2 hw2 => ?_) (fun w2 hw2 => ?_) ?_
            rotate_left 3
            · (go_simp; refine ⟨?_, ?_⟩ <;> with_reducible rfl)
            · (go_at_call 127; exact HCK.out _ _ hw2)
            go_big_quiet_on; simp only [Act.put, List.setIfInBounds_toArray, List.set_cons_zero, List.set_cons_succ])))
    refine wpQuiet_nil ?_
    intro w3 hw3'
    have HW3 : Hid (E w3) := hw3'
    clear hw3' hE
    go_wp2
    go_ret
    exact ⟨ret_int HR.out.symm, HB.out _ HW3.out⟩
  · have HR : Hid (chkV 2 (-10000) 100000000 5 k o i q p c t wh s n = 31) := if_pos (.inr hk2)
    have hd : decide (k < 1) = false := by simp; omega
    have hd2 : decide (5 < k) = true := by simpa using hk2
    go_enter Tryz.func82, Tryz.ntmps82
    go_wp2_with (go_at_call 98; refine (find_yes 2 _ (by omega) (by omega)).mono ?_; rintro e w' ⟨rfl, rfl⟩; unfold verV)
    refine wp_region_quiet (C := E) (by kernel_rfl) (by kernel_rfl) hE ?_
    simp only [List.toList_toArray]
    repeat (first
      | go_big_quiet_skip
      | (go_big_quiet_want
         first
         | (refine quiet_val (v := ?_) (fun w2 hw2 => ?_) ?_
            rotate_left
            · (first | (go_simp; with_reducible rfl) | (obtain ⟨q0, _⟩ := R.out w2 hw2; go_simp; with_reducible rfl))
            go_big_quiet_on; simp only [Act.put, List.setIfInBounds_toArray, List.set_cons_zero, List.set_cons_succ])
         | (refine quiet_call (v := ?_) (f := ?_) (args := ?_) (fun w2 hw2 => ?_) (fun w2 hw2 => ?_) ?_
            rotate_left 3
            · (go_simp; refine ⟨?_, ?_⟩ <;> with_reducible rfl)
            · (go_at_call 127; exact HCK.out _ _ hw2)
            go_big_quiet_on; simp only [Act.put, List.setIfInBounds_toArray, List.set_cons_zero, List.set_cons_succ])))
    refine wpQuiet_nil ?_
    intro w3 hw3'
    have HW3 : Hid (E w3) := hw3'
    clear hw3' hE
    go_wp2
    go_ret
    exact ⟨ret_int HR.out.symm, HB.out _ HW3.out⟩
  · have HK : Hid (¬ (k < 1 ∨ 5 < k)) := by show ¬ _; omega
    have hd : decide (k < 1) = false := by simp; omega
    have hd2 : decide (5 < k) = false := by simp; omega
    go_enter Tryz.func82, Tryz.ntmps82
    go_wp2_with (go_at_call 98; refine (find_yes 2 _ (by omega) (by omega)).mono ?_; rintro e w' ⟨rfl, rfl⟩; unfold verV)
    refine wp_region_quiet (C := E) (by kernel_rfl) (by kernel_rfl) hE ?_
    simp only [List.toList_toArray]
    repeat (first
      | go_big_quiet_skip
      | (go_big_quiet_want
         first
         | (refine quiet_val (v := ?_) (fun w2 hw2 => ?_) ?_
            rotate_left
            · (first | (go_simp; with_reducible rfl) | (obtain ⟨q0, _⟩ := R.out w2 hw2; go_simp; with_reducible rfl))
            go_big_quiet_on; simp only [Act.put, List.setIfInBounds_toArray, List.set_cons_zero, List.set_cons_succ])
         | (refine quiet_call (v := ?_) (f := ?_) (args := ?_) (fun w2 hw2 => ?_) (fun w2 hw2 => ?_) ?_
            rotate_left 3
            · (go_simp; refine ⟨?_, ?_⟩ <;> with_reducible rfl)
            · (go_at_call 127; exact HCK.out _ _ hw2)
            go_big_quiet_on; simp only [Act.put, List.setIfInBounds_toArray, List.set_cons_zero, List.set_cons_succ])))
    refine wpQuiet_nil ?_
    intro w3 hw3'
    have HW3 : Hid (E w3) := hw3'
    clear hw3' hE
    obtain ⟨q0, q1, q2, q3, q4, q5, q6, q7, q8, q9⟩ := R.out w3 HW3.out
    by_cases hs1 : 16 < wh.size
    · have HR : Hid (chkV 2 (-10000) 100000000 5 k o i q p c t wh s n = 24) := by show _ = _; unfold chkV; rw [if_neg HK.out, if_pos (.inl hs1)]
      have hs1' : (16 : Int) < (wh.size : Int) := by omega
      go_wp2
      go_ret
      exact ⟨ret_int HR.out.symm, HB.out _ HW3.out⟩
    · by_cases hs2 : 120 < n.size
      · have HR : Hid (chkV 2 (-10000) 100000000 5 k o i q p c t wh s n = 24) := by show _ = _; unfold chkV; rw [if_neg HK.out, if_pos (.inr hs2)]
        have hs1' : (wh.size : Int) ≤ 16 := by omega
        have hs2' : (120 : Int) < (n.size : Int) := by omega
        have hd3 : decide ((16 : Int) < (wh.size : Int)) = false := by simp; omega
        go_wp2
        go_ret
        exact ⟨ret_int HR.out.symm, HB.out _ HW3.out⟩
      · have HS : Hid (¬ (16 < wh.size ∨ 120 < n.size)) := by show ¬ _; omega
        have hs1' : (wh.size : Int) ≤ 16 := by omega
        have hs2' : (n.size : Int) ≤ 120 := by omega
        have hd3 : decide ((16 : Int) < (wh.size : Int)) = false := by simp; omega
        have hd4 : decide ((120 : Int) < (n.size : Int)) = false := by simp; omega
        have HWH : Hid (wh.size ≤ 16) := by show _ ≤ _; omega
        clear hs1 hs2
        cases hb : bnd (-10000) 100000000 o i q p c t wh s with
        | false =>
          have HR : Hid (chkV 2 (-10000) 100000000 5 k o i q p c t wh s n = 32) := by show _ = _; unfold chkV; rw [if_neg HK.out, if_neg HS.out, if_neg (by rw [hb]; simp)]
          go_wp2_with (go_at_call 99; refine (boundB _ _ _ _ k o i q p c t wh s n w3 HWH.out m_least2 m_most2).mono ?_; rw [hb]; rintro e w4 ⟨rfl, hb4⟩)
          go_ret
          exact ⟨ret_int HR.out.symm, HB.out _ (HN.out _ _ HW3.out hb4)⟩
        | true =>
          cases ho : ownB 2 c t wh s n with
          | false =>
            have HR : Hid (chkV 2 (-10000) 100000000 5 k o i q p c t wh s n = 32) := by show _ = _; unfold chkV; rw [if_neg HK.out, if_neg HS.out, if_neg (by rw [ho]; simp)]
            go_wp2_with (first
              | (go_at_call 99; refine (boundB _ _ _ _ k o i q p c t wh s n w3 HWH.out m_least2 m_most2).mono ?_; rw [hb]; rintro e w4 ⟨rfl, hb4⟩; have HW4 : Hid (E w4) := HN.out _ _ HW3.out hb4; clear hb4 q0 q1 q2 q3 q4 q5 q6 q7 q8 q9; obtain ⟨q0, q1, q2, q3, q4, q5, q6, q7, q8, q9⟩ := R.out w4 HW4.out)
              | (go_at_call 100; refine (own_any 2 k o i q p c t wh s n w4 (by omega) (by omega)).mono ?_; rw [ho]; rintro e w5 ⟨rfl, hb5⟩))
            go_ret
            exact ⟨ret_int HR.out.symm, HB.out _ (HN.out _ _ HW4.out hb5)⟩
          | true =>
            have HR : Hid (chkV 2 (-10000) 100000000 5 k o i q p c t wh s n = 0) := by show _ = _; unfold chkV; rw [if_neg HK.out, if_neg HS.out, if_pos ⟨hb, ho⟩]
            go_wp2_with (first
              | (go_at_call 99; refine (boundB _ _ _ _ k o i q p c t wh s n w3 HWH.out m_least2 m_most2).mono ?_; rw [hb]; rintro e w4 ⟨rfl, hb4⟩; have HW4 : Hid (E w4) := HN.out _ _ HW3.out hb4; clear hb4 q0 q1 q2 q3 q4 q5 q6 q7 q8 q9; obtain ⟨q0, q1, q2, q3, q4, q5, q6, q7, q8, q9⟩ := R.out w4 HW4.out)
              | (go_at_call 100; refine (own_any 2 k o i q p c t wh s n w4 (by omega) (by omega)).mono ?_; rw [ho]; rintro e w5 ⟨rfl, hb5⟩))
            go_ret
            exact ⟨ret_int HR.out.symm, HB.out _ (HN.out _ _ HW4.out hb5)⟩
end Go.Proofs.YtldbdhhbmnbmaaaGreat
