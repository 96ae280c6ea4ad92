/- Own texts, joined: BndC, Own, ChkD, Chk1. -/
import Derived.Test.YtfhcbdmmckjmaaaJ08
namespace Go.Proofs.Ytfhcbdmmckjmaaa
open Go.ChangeShapes Go.WideShapes Go.ChangeAt Go.RowKit
set_option linter.unusedSimpArgs false
set_option maxRecDepth 20000 in
set_option maxHeartbeats 4000000 in
theorem boundC (T : TypeId) (cs rl rm : Array Value) (k o i q p c t : Int) (wh : ByteArray) (s : Int) (n : ByteArray) (w : World) (hwh : wh.size ≤ 16)
    (hm1 : ∀ w, (method 244 T (.agg cs) "daybook/schema.leastQty").run Try.prog w = .ok (97, .agg rl) w) (hm2 : ∀ w, (method 244 T (.agg cs) "daybook/schema.mostPrice").run Try.prog w = .ok (94, .agg rm) w) :
    Calls Try.prog 23 #[.iface T (.agg cs), .agg #[.int .i64 k, .int .i64 o, .int .i64 i, .int .i64 q, .int .i64 p, .int .i64 c, .int .i64 t, .string wh, .int .i64 s, .string n]] w fun e w' => e = .returned (.bool (bnd (0) 100000000 o i q p c t wh s)) ∧ Below w.heap.size w w' := by
  obtain ⟨E, _, hE, hn, hbel, _, r0, r1, r2, r3, r4, r5, r6, r7, r8, r9⟩ := ev_held w k o i q p c t wh s n
  have HN : Hid (∀ w1 w2, E w1 → Below w1.heap.size w1 w2 → E w2) := hn
  have HB : Hid (∀ w2, E w2 → Below w.heap.size w w2) := hbel
  have R : Hid (∀ w2, E w2 → _ ∧ _ ∧ _ ∧ _ ∧ _ ∧ _ ∧ _ ∧ _) := fun w2 h => ⟨r1 w2 h, r2 w2 h, r3 w2 h, r4 w2 h, r5 w2 h, r6 w2 h, r7 w2 h, r8 w2 h⟩
  clear hn hbel r0 r1 r2 r3 r4 r5 r6 r7 r8 r9
  go_enter Try.func23, Try.ntmps23
  go_wp2
  refine wp_region_quiet (C := E) (by kernel_rfl) (by kernel_rfl) hE ?_
  simp only [List.toList_toArray]
  have CW : ∀ a x b w2, E w2 → Calls Try.prog 44 #[.int .i64 a, .int .i64 x, .int .i64 b] w2 fun e w' => e = .returned (.bool (wit a x b)) ∧ E w' := fun a x b w2 h => (within_any a x b w2).mono fun e w' ⟨h1, h2⟩ => ⟨h1, h2 ▸ h⟩
  have CL : ∀ v w2, E w2 → Calls Try.prog 97 #[.agg v] w2 fun e w' => e = .returned (.int .i64 (0)) ∧ E w' := fun v w2 h => (v3_least v w2).mono fun e w' ⟨h1, h2⟩ => ⟨h1, HN.out _ _ h h2⟩
  have CM : ∀ v w2, E w2 → Calls Try.prog 94 #[.agg v] w2 fun e w' => e = .returned (.int .i64 (100000000)) ∧ E w' := fun v w2 h => (v2_most v w2).mono fun e w' ⟨h1, h2⟩ => ⟨h1, HN.out _ _ h h2⟩
  have CP : ∀ w2, E w2 → Calls Try.prog 45 #[.string wh] w2 fun e w' => e = .returned (.bool (plainB wh.data.toList)) ∧ E w' := fun w2 h => (plain_any wh w2 hwh).mono fun e w' ⟨h1, h2⟩ => ⟨h1, HN.out _ _ h h2⟩
  have HCW : Hid (_) := CW
  have HCL : Hid (_) := CL
  have HCM : Hid (_) := CM
  have HCP : Hid (_) := CP
  clear CW CL CM CP
  repeat (any_goals (first
    | go_big_quiet_skip
    | (go_big_quiet_want
       first
       | (refine quiet_val (v := ?_) (fun w2 hw2 => ?_) ?_
          rotate_left
          · (first | (go_simp; with_reducible rfl) | (obtain ⟨q1, q2, q3, q4, q5, q6, q7, q8⟩ := R.out w2 hw2; go_simp; with_reducible rfl))
          go_big_quiet_on
          simp only [Act.put, List.setIfInBounds_toArray, List.set_cons_zero, List.set_cons_succ])
       | (refine quiet_call (v := ?_) (f := ?_) (args := ?_) (fun w2 hw2 => ?_) (fun w2 hw2 => ?_) ?_
          rotate_left 3
          · (go_simp; refine ⟨?_, ?_⟩ <;> with_reducible rfl)
          first
          | (· (go_at_call_of 44 (o); exact HCW.out 1 o 1099511627776 _ hw2)
             (go_big_quiet_on; simp only [Act.put, List.setIfInBounds_toArray, List.set_cons_zero, List.set_cons_succ]; cases h0 : wit 1 o 1099511627776))
          | (· (go_at_call_of 44 (i); exact HCW.out 0 i 65535 _ hw2)
             (go_big_quiet_on; simp only [Act.put, List.setIfInBounds_toArray, List.set_cons_zero, List.set_cons_succ]; cases h1 : wit 0 i 65535))
          | (· (go_at_call_of 44 (q); exact HCW.out (0) q 10000 _ hw2)
             (go_big_quiet_on; simp only [Act.put, List.setIfInBounds_toArray, List.set_cons_zero, List.set_cons_succ]; cases h2 : wit (0) q 10000))
          | (· (go_at_call_of 44 (p); exact HCW.out 0 p 100000000 _ hw2)
             (go_big_quiet_on; simp only [Act.put, List.setIfInBounds_toArray, List.set_cons_zero, List.set_cons_succ]; cases h3 : wit 0 p 100000000))
          | (· (go_at_call_of 44 (c); exact HCW.out 0 c 3 _ hw2)
             (go_big_quiet_on; simp only [Act.put, List.setIfInBounds_toArray, List.set_cons_zero, List.set_cons_succ]; cases h4 : wit 0 c 3))
          | (· (go_at_call_of 44 (t); exact HCW.out 0 t 5000 _ hw2)
             (go_big_quiet_on; simp only [Act.put, List.setIfInBounds_toArray, List.set_cons_zero, List.set_cons_succ]; cases h5 : wit 0 t 5000))
          | (· (go_at_call 45; exact HCP.out _ hw2)
             (go_big_quiet_on; simp only [Act.put, List.setIfInBounds_toArray, List.set_cons_zero, List.set_cons_succ]; cases h6 : plainB wh.data.toList))
          | (· (go_at_call_of 44 (s); exact HCW.out 0 s 1099511627776 _ hw2)
             (go_big_quiet_on; simp only [Act.put, List.setIfInBounds_toArray, List.set_cons_zero, List.set_cons_succ]; cases h7 : wit 0 s 1099511627776))
          | (· (go_at_call 97; exact HCL.out _ _ hw2)
             (go_big_quiet_on; simp only [Act.put, List.setIfInBounds_toArray, List.set_cons_zero, List.set_cons_succ]))
          | (· (go_at_call 94; exact HCM.out _ _ hw2)
             (go_big_quiet_on; simp only [Act.put, List.setIfInBounds_toArray, List.set_cons_zero, List.set_cons_succ]))))))
  all_goals
    refine wpQuiet_nil ?_
    intro w3 hw3
    go_wp2
    go_ret
    refine ⟨ret_bool ?_, HB.out _ hw3⟩
    unfold bnd
    simp only [*, Bool.true_and, Bool.false_and]
end Go.Proofs.Ytfhcbdmmckjmaaa
namespace Go.Proofs.Ytfhcbdmmckjmaaa
open Go.ChangeShapes Go.WideShapes Go.ChangeAt Go.RowKit
def nilB (s : ByteArray) : Bool := s.toList.isEmpty
def ownB (v c t : Int) (wh : ByteArray) (s : Int) (n : ByteArray) : Bool := (decide (1 < v) || c == 0) && ((decide (2 < v) || t == 0) && ((decide (3 < v) || nilB wh) && (decide (4 < v) || (s == 0 && nilB n))))
set_option maxRecDepth 20000 in
set_option maxHeartbeats 1000000 in
theorem own_any (v k o i q p c t : Int) (wh : ByteArray) (s : Int) (n : ByteArray) (w : World) (h1 : 1 ≤ v) (h5 : v ≤ 5) :
    Calls Try.prog 24 #[.int .i64 v, .agg #[.int .i64 k, .int .i64 o, .int .i64 i, .int .i64 q, .int .i64 p, .int .i64 c, .int .i64 t, .string wh, .int .i64 s, .string n]] w fun e w' => e = .returned (.bool (ownB v c t wh s n)) ∧ Below w.heap.size w w' := by
  have h : v = 1 ∨ v = 2 ∨ v = 3 ∨ v = 4 ∨ v = 5 := by omega
  clear h1 h5
  rcases h with rfl | rfl | rfl | rfl | rfl
  all_goals
    go_enter Try.func24, Try.ntmps24
    go_wp2
    all_goals
      go_ret
      refine ⟨ret_bool ?_, (Below.refl _ _).alloc (Nat.le_refl _) _⟩
      simp [ownB, nilB, *]
end Go.Proofs.Ytfhcbdmmckjmaaa
namespace Go.Proofs.Ytfhcbdmmckjmaaa
open Go.RowKit
def chkV (v l m last k o i q p c t : Int) (wh : ByteArray) (s : Int) (n : ByteArray) : Int :=
  if k < 1 ∨ last < k then 31 else if 16 < wh.size ∨ 120 < n.size then 24 else if bnd l m o i q p c t wh s = true ∧ ownB v c t wh s n = true then 0 else 32
end Go.Proofs.Ytfhcbdmmckjmaaa
namespace Go.Proofs.Ytfhcbdmmckjmaaa
open Go.ChangeShapes Go.WideShapes Go.ChangeAt Go.RowKit
set_option linter.unusedSimpArgs false
set_option maxRecDepth 20000 in
set_option maxHeartbeats 4000000 in
theorem check1 (k o i q p c t : Int) (wh : ByteArray) (s : Int) (n : ByteArray) (w : World) :
    Calls Try.prog 10 #[.int .i64 1, .agg #[.int .i64 k, .int .i64 o, .int .i64 i, .int .i64 q, .int .i64 p, .int .i64 c, .int .i64 t, .string wh, .int .i64 s, .string n]] w fun e w' => e = .returned (.int .i64 (chkV 1 (-10000) 1000000 5 k o i q p c t wh s n)) ∧ Below w.heap.size w w' := by
  obtain ⟨E, _, hE, hn, hbel, _, r0, r1, r2, r3, r4, r5, r6, r7, r8, r9⟩ := ev_held w k o i q p c t wh s n
  have HN : Hid (∀ w1 w2, E w1 → Below w1.heap.size w1 w2 → E w2) := hn
  have HB : Hid (∀ w2, E w2 → Below w.heap.size w w2) := hbel
  have R : Hid (∀ w2, E w2 → _ ∧ _ ∧ _ ∧ _ ∧ _ ∧ _ ∧ _ ∧ _ ∧ _ ∧ _) := fun w2 h => ⟨r0 w2 h, r1 w2 h, r2 w2 h, r3 w2 h, r4 w2 h, r5 w2 h, r6 w2 h, r7 w2 h, r8 w2 h, r9 w2 h⟩
  clear hn hbel r0 r1 r2 r3 r4 r5 r6 r7 r8 r9
  have CK : ∀ v w2, E w2 → Calls Try.prog 83 #[.agg v] w2 fun e w' => e = .returned (.int .i64 (5)) ∧ E w' := fun v w2 h => (v1_last v w2).mono fun e w' ⟨h1, h2⟩ => ⟨h1, HN.out _ _ h h2⟩
  have HCK : Hid (_) := CK
  clear CK
  have hm3 := m_last1
  have hk : k < 1 ∨ (1 ≤ k ∧ 5 < k) ∨ (1 ≤ k ∧ k ≤ 5) := by omega
  rcases hk with hk | ⟨hk, hk2⟩ | ⟨hk, hk2⟩
  · have HR : Hid (chkV 1 (-10000) 1000000 5 k o i q p c t wh s n = 31) := if_pos (.inl hk)
    have hd : decide (k < 1) = true := by simpa using hk
    go_enter Try.func10, Try.ntmps10
    go_wp2_with (go_at_call 22; refine (find_yes 1 _ (by omega) (by omega)).mono ?_; rintro e w' ⟨rfl, rfl⟩; unfold verV)
    refine wp_region_quiet (C := E) (by kernel_rfl) (by kernel_rfl) hE ?_
    simp only [List.toList_toArray]
    repeat (first
      | go_big_quiet_skip
      | (go_big_quiet_want
         first
         | (refine quiet_val (v := ?_) (fun w2 hw2 => ?_) ?_
            rotate_left
            · (first | (go_simp; with_reducible rfl) | (obtain ⟨q0, _⟩ := R.out w2 hw2; go_simp; with_reducible rfl))
            go_big_quiet_on; simp only [Act.put, List.setIfInBounds_toArray, List.set_cons_zero, List.set_cons_succ])
         | (refine quiet_call (v := ?_) (f := ?_) (args := ?_) (fun w2 hw2 => ?_) (fun w2 hw2 => ?_) ?_
            rotate_left 3
            · (go_simp; refine ⟨?_, ?_⟩ <;> with_reducible rfl)
            · (go_at_call 83; exact HCK.out _ _ hw2)
            go_big_quiet_on; simp only [Act.put, List.setIfInBounds_toArray, List.set_cons_zero, List.set_cons_succ])))
    refine wpQuiet_nil ?_
    intro w3 hw3'
    have HW3 : Hid (E w3) := hw3'
    clear hw3' hE
    go_wp2
    go_ret
    exact ⟨ret_int HR.out.symm, HB.out _ HW3.out⟩
  · have HR : Hid (chkV 1 (-10000) 1000000 5 k o i q p c t wh s n = 31) := if_pos (.inr hk2)
    have hd : decide (k < 1) = false := by simp; omega
    have hd2 : decide (5 < k) = true := by simpa using hk2
    go_enter Try.func10, Try.ntmps10
    go_wp2_with (go_at_call 22; refine (find_yes 1 _ (by omega) (by omega)).mono ?_; rintro e w' ⟨rfl, rfl⟩; unfold verV)
    refine wp_region_quiet (C := E) (by kernel_rfl) (by kernel_rfl) hE ?_
    simp only [List.toList_toArray]
    repeat (first
      | go_big_quiet_skip
      | (go_big_quiet_want
         first
         | (refine quiet_val (v := ?_) (fun w2 hw2 => ?_) ?_
            rotate_left
            · (first | (go_simp; with_reducible rfl) | (obtain ⟨q0, _⟩ := R.out w2 hw2; go_simp; with_reducible rfl))
            go_big_quiet_on; simp only [Act.put, List.setIfInBounds_toArray, List.set_cons_zero, List.set_cons_succ])
         | (refine quiet_call (v := ?_) (f := ?_) (args := ?_) (fun w2 hw2 => ?_) (fun w2 hw2 => ?_) ?_
            rotate_left 3
            · (go_simp; refine ⟨?_, ?_⟩ <;> with_reducible rfl)
            · (go_at_call 83; exact HCK.out _ _ hw2)
            go_big_quiet_on; simp only [Act.put, List.setIfInBounds_toArray, List.set_cons_zero, List.set_cons_succ])))
    refine wpQuiet_nil ?_
    intro w3 hw3'
    have HW3 : Hid (E w3) := hw3'
    clear hw3' hE
    go_wp2
    go_ret
    exact ⟨ret_int HR.out.symm, HB.out _ HW3.out⟩
  · have HK : Hid (¬ (k < 1 ∨ 5 < k)) := by show ¬ _; omega
    have hd : decide (k < 1) = false := by simp; omega
    have hd2 : decide (5 < k) = false := by simp; omega
    go_enter Try.func10, Try.ntmps10
    go_wp2_with (go_at_call 22; refine (find_yes 1 _ (by omega) (by omega)).mono ?_; rintro e w' ⟨rfl, rfl⟩; unfold verV)
    refine wp_region_quiet (C := E) (by kernel_rfl) (by kernel_rfl) hE ?_
    simp only [List.toList_toArray]
    repeat (first
      | go_big_quiet_skip
      | (go_big_quiet_want
         first
         | (refine quiet_val (v := ?_) (fun w2 hw2 => ?_) ?_
            rotate_left
            · (first | (go_simp; with_reducible rfl) | (obtain ⟨q0, _⟩ := R.out w2 hw2; go_simp; with_reducible rfl))
            go_big_quiet_on; simp only [Act.put, List.setIfInBounds_toArray, List.set_cons_zero, List.set_cons_succ])
         | (refine quiet_call (v := ?_) (f := ?_) (args := ?_) (fun w2 hw2 => ?_) (fun w2 hw2 => ?_) ?_
            rotate_left 3
            · (go_simp; refine ⟨?_, ?_⟩ <;> with_reducible rfl)
            · (go_at_call 83; exact HCK.out _ _ hw2)
            go_big_quiet_on; simp only [Act.put, List.setIfInBounds_toArray, List.set_cons_zero, List.set_cons_succ])))
    refine wpQuiet_nil ?_
    intro w3 hw3'
    have HW3 : Hid (E w3) := hw3'
    clear hw3' hE
    obtain ⟨q0, q1, q2, q3, q4, q5, q6, q7, q8, q9⟩ := R.out w3 HW3.out
    by_cases hs1 : 16 < wh.size
    · have HR : Hid (chkV 1 (-10000) 1000000 5 k o i q p c t wh s n = 24) := by show _ = _; unfold chkV; rw [if_neg HK.out, if_pos (.inl hs1)]
      have hs1' : (16 : Int) < (wh.size : Int) := by omega
      go_wp2
      go_ret
      exact ⟨ret_int HR.out.symm, HB.out _ HW3.out⟩
    · by_cases hs2 : 120 < n.size
      · have HR : Hid (chkV 1 (-10000) 1000000 5 k o i q p c t wh s n = 24) := by show _ = _; unfold chkV; rw [if_neg HK.out, if_pos (.inr hs2)]
        have hs1' : (wh.size : Int) ≤ 16 := by omega
        have hs2' : (120 : Int) < (n.size : Int) := by omega
        have hd3 : decide ((16 : Int) < (wh.size : Int)) = false := by simp; omega
        go_wp2
        go_ret
        exact ⟨ret_int HR.out.symm, HB.out _ HW3.out⟩
      · have HS : Hid (¬ (16 < wh.size ∨ 120 < n.size)) := by show ¬ _; omega
        have hs1' : (wh.size : Int) ≤ 16 := by omega
        have hs2' : (n.size : Int) ≤ 120 := by omega
        have hd3 : decide ((16 : Int) < (wh.size : Int)) = false := by simp; omega
        have hd4 : decide ((120 : Int) < (n.size : Int)) = false := by simp; omega
        have HWH : Hid (wh.size ≤ 16) := by show _ ≤ _; omega
        clear hs1 hs2
        cases hb : bnd (-10000) 1000000 o i q p c t wh s with
        | false =>
          have HR : Hid (chkV 1 (-10000) 1000000 5 k o i q p c t wh s n = 32) := by show _ = _; unfold chkV; rw [if_neg HK.out, if_neg HS.out, if_neg (by rw [hb]; simp)]
          go_wp2_with (go_at_call 23; refine (boundA _ _ _ _ k o i q p c t wh s n w3 HWH.out m_least1 m_most1).mono ?_; rw [hb]; rintro e w4 ⟨rfl, hb4⟩)
          go_ret
          exact ⟨ret_int HR.out.symm, HB.out _ (HN.out _ _ HW3.out hb4)⟩
        | true =>
          cases ho : ownB 1 c t wh s n with
          | false =>
            have HR : Hid (chkV 1 (-10000) 1000000 5 k o i q p c t wh s n = 32) := by show _ = _; unfold chkV; rw [if_neg HK.out, if_neg HS.out, if_neg (by rw [ho]; simp)]
            go_wp2_with (first
              | (go_at_call 23; refine (boundA _ _ _ _ k o i q p c t wh s n w3 HWH.out m_least1 m_most1).mono ?_; rw [hb]; rintro e w4 ⟨rfl, hb4⟩; have HW4 : Hid (E w4) := HN.out _ _ HW3.out hb4; clear hb4 q0 q1 q2 q3 q4 q5 q6 q7 q8 q9; obtain ⟨q0, q1, q2, q3, q4, q5, q6, q7, q8, q9⟩ := R.out w4 HW4.out)
              | (go_at_call 24; refine (own_any 1 k o i q p c t wh s n w4 (by omega) (by omega)).mono ?_; rw [ho]; rintro e w5 ⟨rfl, hb5⟩))
            go_ret
            exact ⟨ret_int HR.out.symm, HB.out _ (HN.out _ _ HW4.out hb5)⟩
          | true =>
            have HR : Hid (chkV 1 (-10000) 1000000 5 k o i q p c t wh s n = 0) := by show _ = _; unfold chkV; rw [if_neg HK.out, if_neg HS.out, if_pos ⟨hb, ho⟩]
            go_wp2_with (first
              | (go_at_call 23; refine (boundA _ _ _ _ k o i q p c t wh s n w3 HWH.out m_least1 m_most1).mono ?_; rw [hb]; rintro e w4 ⟨rfl, hb4⟩; have HW4 : Hid (E w4) := HN.out _ _ HW3.out hb4; clear hb4 q0 q1 q2 q3 q4 q5 q6 q7 q8 q9; obtain ⟨q0, q1, q2, q3, q4, q5, q6, q7, q8, q9⟩ := R.out w4 HW4.out)
              | (go_at_call 24; refine (own_any 1 k o i q p c t wh s n w4 (by omega) (by omega)).mono ?_; rw [ho]; rintro e w5 ⟨rfl, hb5⟩))
            go_ret
            exact ⟨ret_int HR.out.symm, HB.out _ (HN.out _ _ HW4.out hb5)⟩
end Go.Proofs.Ytfhcbdmmckjmaaa
