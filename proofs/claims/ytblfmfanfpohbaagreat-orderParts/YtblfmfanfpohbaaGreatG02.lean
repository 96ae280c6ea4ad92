/- Own texts, joined: BndA, BndB, BndC. -/
import Derived.Test.YtblfmfanfpohbaaGreatG01
namespace Go.Proofs.YtblfmfanfpohbaaGreat
open Go.ChangeShapes Go.WideShapes Go.ChangeAt Go.RowKit
set_option linter.unusedSimpArgs false
set_option maxRecDepth 20000 in
set_option maxHeartbeats 4000000 in
theorem boundA (T : TypeId) (cs rl rm : Array Value) (k o i q p c t : Int) (wh : ByteArray) (s : Int) (n : ByteArray) (w : World) (hwh : wh.size ≤ 16)
    (hm1 : ∀ w, (method 281 T (.agg cs) "daybook/schema.leastQty").run Tryz.prog w = .ok (141, .agg rl) w) (hm2 : ∀ w, (method 281 T (.agg cs) "daybook/schema.mostPrice").run Tryz.prog w = .ok (142, .agg rm) w) :
    Calls Tryz.prog 111 #[.iface T (.agg cs), .agg #[.int .i64 k, .int .i64 o, .int .i64 i, .int .i64 q, .int .i64 p, .int .i64 c, .int .i64 t, .string wh, .int .i64 s, .string n]] w fun e w' => e = .returned (.bool (bnd (-10000) 1000000 o i q p c t wh s)) ∧ Below w.heap.size w w' := by
  obtain ⟨E, _, hE, hn, hbel, _, r0, r1, r2, r3, r4, r5, r6, r7, r8, r9⟩ := ev_held w k o i q p c t wh s n
  have HN : Hid (∀ w1 w2, E w1 → Below w1.heap.size w1 w2 → E w2) := hn
  have HB : Hid (∀ w2, E w2 → Below w.heap.size w w2) := hbel
  have R : Hid (∀ w2, E w2 → _ ∧ _ ∧ _ ∧ _ ∧ _ ∧ _ ∧ _ ∧ _) := fun w2 h => ⟨r1 w2 h, r2 w2 h, r3 w2 h, r4 w2 h, r5 w2 h, r6 w2 h, r7 w2 h, r8 w2 h⟩
  clear hn hbel r0 r1 r2 r3 r4 r5 r6 r7 r8 r9
  go_enter Tryz.func111, Tryz.ntmps111
  go_wp2
  refine wp_region_quiet (C := E) (by kernel_rfl) (by kernel_rfl) hE ?_
  simp only [List.toList_toArray]
  have CW : ∀ a x b w2, E w2 → Calls Tryz.prog 119 #[.int .i64 a, .int .i64 x, .int .i64 b] w2 fun e w' => e = .returned (.bool (wit a x b)) ∧ E w' := fun a x b w2 h => (within_any a x b w2).mono fun e w' ⟨h1, h2⟩ => ⟨h1, h2 ▸ h⟩
  have CL : ∀ v w2, E w2 → Calls Tryz.prog 141 #[.agg v] w2 fun e w' => e = .returned (.int .i64 (-10000)) ∧ E w' := fun v w2 h => (v1_least v w2).mono fun e w' ⟨h1, h2⟩ => ⟨h1, HN.out _ _ h h2⟩
  have CM : ∀ v w2, E w2 → Calls Tryz.prog 142 #[.agg v] w2 fun e w' => e = .returned (.int .i64 (1000000)) ∧ E w' := fun v w2 h => (v1_most v w2).mono fun e w' ⟨h1, h2⟩ => ⟨h1, HN.out _ _ h h2⟩
  have CP : ∀ w2, E w2 → Calls Tryz.prog 120 #[.string wh] w2 fun e w' => e = .returned (.bool (plainB wh.data.toList)) ∧ E w' := fun w2 h => (plain_any wh w2 hwh).mono fun e w' ⟨h1, h2⟩ => ⟨h1, HN.out _ _ h h2⟩
  have HCW : Hid (_) := CW
  have HCL : Hid (_) := CL
  have HCM : Hid (_) := CM
  have HCP : Hid (_) := CP
  clear CW CL CM CP
  repeat (any_goals (first
    | go_big_quiet_skip
    | (go_big_quiet_want
       first
       | (refine quiet_val (v := ?_) (fun w2 hw2 => ?_) ?_
          rotate_left
          · (first | (go_simp; with_reducible rfl) | (obtain ⟨q1, q2, q3, q4, q5, q6, q7, q8⟩ := R.out w2 hw2; go_simp; with_reducible rfl))
          go_big_quiet_on
          simp only [Act.put, List.setIfInBounds_toArray, List.set_cons_zero, List.set_cons_succ])
       | (refine quiet_call (v := ?_) (f := ?_) (args := ?_) (fun w2 hw2 => ?_) (fun w2 hw2 => ?_) ?_
          rotate_left 3
          · (go_simp; refine ⟨?_, ?_⟩ <;> with_reducible rfl)
          first
          | (· (go_at_call_of 119 (o); exact HCW.out 1 o 1099511627776 _ hw2)
             (go_big_quiet_on; simp only [Act.put, List.setIfInBounds_toArray, List.set_cons_zero, List.set_cons_succ]; cases h0 : wit 1 o 1099511627776))
          | (· (go_at_call_of 119 (i); exact HCW.out 0 i 65535 _ hw2)
             (go_big_quiet_on; simp only [Act.put, List.setIfInBounds_toArray, List.set_cons_zero, List.set_cons_succ]; cases h1 : wit 0 i 65535))
          | (· (go_at_call_of 119 (q); exact HCW.out (-10000) q 10000 _ hw2)
             (go_big_quiet_on; simp only [Act.put, List.setIfInBounds_toArray, List.set_cons_zero, List.set_cons_succ]; cases h2 : wit (-10000) q 10000))
          | (· (go_at_call_of 119 (p); exact HCW.out 0 p 1000000 _ hw2)
             (go_big_quiet_on; simp only [Act.put, List.setIfInBounds_toArray, List.set_cons_zero, List.set_cons_succ]; cases h3 : wit 0 p 1000000))
          | (· (go_at_call_of 119 (c); exact HCW.out 0 c 3 _ hw2)
             (go_big_quiet_on; simp only [Act.put, List.setIfInBounds_toArray, List.set_cons_zero, List.set_cons_succ]; cases h4 : wit 0 c 3))
          | (· (go_at_call_of 119 (t); exact HCW.out 0 t 5000 _ hw2)
             (go_big_quiet_on; simp only [Act.put, List.setIfInBounds_toArray, List.set_cons_zero, List.set_cons_succ]; cases h5 : wit 0 t 5000))
          | (· (go_at_call 120; exact HCP.out _ hw2)
             (go_big_quiet_on; simp only [Act.put, List.setIfInBounds_toArray, List.set_cons_zero, List.set_cons_succ]; cases h6 : plainB wh.data.toList))
          | (· (go_at_call_of 119 (s); exact HCW.out 0 s 1099511627776 _ hw2)
             (go_big_quiet_on; simp only [Act.put, List.setIfInBounds_toArray, List.set_cons_zero, List.set_cons_succ]; cases h7 : wit 0 s 1099511627776))
          | (· (go_at_call 141; exact HCL.out _ _ hw2)
             (go_big_quiet_on; simp only [Act.put, List.setIfInBounds_toArray, List.set_cons_zero, List.set_cons_succ]))
          | (· (go_at_call 142; exact HCM.out _ _ hw2)
             (go_big_quiet_on; simp only [Act.put, List.setIfInBounds_toArray, List.set_cons_zero, List.set_cons_succ]))))))
  all_goals
    refine wpQuiet_nil ?_
    intro w3 hw3
    go_wp2
    go_ret
    refine ⟨ret_bool ?_, HB.out _ hw3⟩
    unfold bnd
    simp only [*, Bool.true_and, Bool.false_and]
end Go.Proofs.YtblfmfanfpohbaaGreat
namespace Go.Proofs.YtblfmfanfpohbaaGreat
open Go.ChangeShapes Go.WideShapes Go.ChangeAt Go.RowKit
set_option linter.unusedSimpArgs false
set_option maxRecDepth 20000 in
set_option maxHeartbeats 4000000 in
theorem boundB (T : TypeId) (cs rl rm : Array Value) (k o i q p c t : Int) (wh : ByteArray) (s : Int) (n : ByteArray) (w : World) (hwh : wh.size ≤ 16)
    (hm1 : ∀ w, (method 281 T (.agg cs) "daybook/schema.leastQty").run Tryz.prog w = .ok (141, .agg rl) w) (hm2 : ∀ w, (method 281 T (.agg cs) "daybook/schema.mostPrice").run Tryz.prog w = .ok (146, .agg rm) w) :
    Calls Tryz.prog 111 #[.iface T (.agg cs), .agg #[.int .i64 k, .int .i64 o, .int .i64 i, .int .i64 q, .int .i64 p, .int .i64 c, .int .i64 t, .string wh, .int .i64 s, .string n]] w fun e w' => e = .returned (.bool (bnd (-10000) 100000000 o i q p c t wh s)) ∧ Below w.heap.size w w' := by
  obtain ⟨E, _, hE, hn, hbel, _, r0, r1, r2, r3, r4, r5, r6, r7, r8, r9⟩ := ev_held w k o i q p c t wh s n
  have HN : Hid (∀ w1 w2, E w1 → Below w1.heap.size w1 w2 → E w2) := hn
  have HB : Hid (∀ w2, E w2 → Below w.heap.size w w2) := hbel
  have R : Hid (∀ w2, E w2 → _ ∧ _ ∧ _ ∧ _ ∧ _ ∧ _ ∧ _ ∧ _) := fun w2 h => ⟨r1 w2 h, r2 w2 h, r3 w2 h, r4 w2 h, r5 w2 h, r6 w2 h, r7 w2 h, r8 w2 h⟩
  clear hn hbel r0 r1 r2 r3 r4 r5 r6 r7 r8 r9
  go_enter Tryz.func111, Tryz.ntmps111
  go_wp2
  refine wp_region_quiet (C := E) (by kernel_rfl) (by kernel_rfl) hE ?_
  simp only [List.toList_toArray]
  have CW : ∀ a x b w2, E w2 → Calls Tryz.prog 119 #[.int .i64 a, .int .i64 x, .int .i64 b] w2 fun e w' => e = .returned (.bool (wit a x b)) ∧ E w' := fun a x b w2 h => (within_any a x b w2).mono fun e w' ⟨h1, h2⟩ => ⟨h1, h2 ▸ h⟩
  have CL : ∀ v w2, E w2 → Calls Tryz.prog 141 #[.agg v] w2 fun e w' => e = .returned (.int .i64 (-10000)) ∧ E w' := fun v w2 h => (v1_least v w2).mono fun e w' ⟨h1, h2⟩ => ⟨h1, HN.out _ _ h h2⟩
  have CM : ∀ v w2, E w2 → Calls Tryz.prog 146 #[.agg v] w2 fun e w' => e = .returned (.int .i64 (100000000)) ∧ E w' := fun v w2 h => (v2_most v w2).mono fun e w' ⟨h1, h2⟩ => ⟨h1, HN.out _ _ h h2⟩
  have CP : ∀ w2, E w2 → Calls Tryz.prog 120 #[.string wh] w2 fun e w' => e = .returned (.bool (plainB wh.data.toList)) ∧ E w' := fun w2 h => (plain_any wh w2 hwh).mono fun e w' ⟨h1, h2⟩ => ⟨h1, HN.out _ _ h h2⟩
  have HCW : Hid (_) := CW
  have HCL : Hid (_) := CL
  have HCM : Hid (_) := CM
  have HCP : Hid (_) := CP
  clear CW CL CM CP
  repeat (any_goals (first
    | go_big_quiet_skip
    | (go_big_quiet_want
       first
       | (refine quiet_val (v := ?_) (fun w2 hw2 => ?_) ?_
          rotate_left
          · (first | (go_simp; with_reducible rfl) | (obtain ⟨q1, q2, q3, q4, q5, q6, q7, q8⟩ := R.out w2 hw2; go_simp; with_reducible rfl))
          go_big_quiet_on
          simp only [Act.put, List.setIfInBounds_toArray, List.set_cons_zero, List.set_cons_succ])
       | (refine quiet_call (v := ?_) (f := ?_) (args := ?_) (fun w2 hw2 => ?_) (fun w2 hw2 => ?_) ?_
          rotate_left 3
          · (go_simp; refine ⟨?_, ?_⟩ <;> with_reducible rfl)
          first
          | (· (go_at_call_of 119 (o); exact HCW.out 1 o 1099511627776 _ hw2)
             (go_big_quiet_on; simp only [Act.put, List.setIfInBounds_toArray, List.set_cons_zero, List.set_cons_succ]; cases h0 : wit 1 o 1099511627776))
          | (· (go_at_call_of 119 (i); exact HCW.out 0 i 65535 _ hw2)
             (go_big_quiet_on; simp only [Act.put, List.setIfInBounds_toArray, List.set_cons_zero, List.set_cons_succ]; cases h1 : wit 0 i 65535))
          | (· (go_at_call_of 119 (q); exact HCW.out (-10000) q 10000 _ hw2)
             (go_big_quiet_on; simp only [Act.put, List.setIfInBounds_toArray, List.set_cons_zero, List.set_cons_succ]; cases h2 : wit (-10000) q 10000))
          | (· (go_at_call_of 119 (p); exact HCW.out 0 p 100000000 _ hw2)
             (go_big_quiet_on; simp only [Act.put, List.setIfInBounds_toArray, List.set_cons_zero, List.set_cons_succ]; cases h3 : wit 0 p 100000000))
          | (· (go_at_call_of 119 (c); exact HCW.out 0 c 3 _ hw2)
             (go_big_quiet_on; simp only [Act.put, List.setIfInBounds_toArray, List.set_cons_zero, List.set_cons_succ]; cases h4 : wit 0 c 3))
          | (· (go_at_call_of 119 (t); exact HCW.out 0 t 5000 _ hw2)
             (go_big_quiet_on; simp only [Act.put, List.setIfInBounds_toArray, List.set_cons_zero, List.set_cons_succ]; cases h5 : wit 0 t 5000))
          | (· (go_at_call 120; exact HCP.out _ hw2)
             (go_big_quiet_on; simp only [Act.put, List.setIfInBounds_toArray, List.set_cons_zero, List.set_cons_succ]; cases h6 : plainB wh.data.toList))
          | (· (go_at_call_of 119 (s); exact HCW.out 0 s 1099511627776 _ hw2)
             (go_big_quiet_on; simp only [Act.put, List.setIfInBounds_toArray, List.set_cons_zero, List.set_cons_succ]; cases h7 : wit 0 s 1099511627776))
          | (· (go_at_call 141; exact HCL.out _ _ hw2)
             (go_big_quiet_on; simp only [Act.put, List.setIfInBounds_toArray, List.set_cons_zero, List.set_cons_succ]))
          | (· (go_at_call 146; exact HCM.out _ _ hw2)
             (go_big_quiet_on; simp only [Act.put, List.setIfInBounds_toArray, List.set_cons_zero, List.set_cons_succ]))))))
  all_goals
    refine wpQuiet_nil ?_
    intro w3 hw3
    go_wp2
    go_ret
    refine ⟨ret_bool ?_, HB.out _ hw3⟩
    unfold bnd
    simp only [*, Bool.true_and, Bool.false_and]
end Go.Proofs.YtblfmfanfpohbaaGreat
namespace Go.Proofs.YtblfmfanfpohbaaGreat
open Go.ChangeShapes Go.WideShapes Go.ChangeAt Go.RowKit
set_option linter.unusedSimpArgs false
set_option maxRecDepth 20000 in
set_option maxHeartbeats 4000000 in
theorem boundC (T : TypeId) (cs rl rm : Array Value) (k o i q p c t : Int) (wh : ByteArray) (s : Int) (n : ByteArray) (w : World) (hwh : wh.size ≤ 16)
    (hm1 : ∀ w, (method 281 T (.agg cs) "daybook/schema.leastQty").run Tryz.prog w = .ok (149, .agg rl) w) (hm2 : ∀ w, (method 281 T (.agg cs) "daybook/schema.mostPrice").run Tryz.prog w = .ok (146, .agg rm) w) :
    Calls Tryz.prog 111 #[.iface T (.agg cs), .agg #[.int .i64 k, .int .i64 o, .int .i64 i, .int .i64 q, .int .i64 p, .int .i64 c, .int .i64 t, .string wh, .int .i64 s, .string n]] w fun e w' => e = .returned (.bool (bnd (0) 100000000 o i q p c t wh s)) ∧ Below w.heap.size w w' := by
  obtain ⟨E, _, hE, hn, hbel, _, r0, r1, r2, r3, r4, r5, r6, r7, r8, r9⟩ := ev_held w k o i q p c t wh s n
  have HN : Hid (∀ w1 w2, E w1 → Below w1.heap.size w1 w2 → E w2) := hn
  have HB : Hid (∀ w2, E w2 → Below w.heap.size w w2) := hbel
  have R : Hid (∀ w2, E w2 → _ ∧ _ ∧ _ ∧ _ ∧ _ ∧ _ ∧ _ ∧ _) := fun w2 h => ⟨r1 w2 h, r2 w2 h, r3 w2 h, r4 w2 h, r5 w2 h, r6 w2 h, r7 w2 h, r8 w2 h⟩
  clear hn hbel r0 r1 r2 r3 r4 r5 r6 r7 r8 r9
  go_enter Tryz.func111, Tryz.ntmps111
  go_wp2
  refine wp_region_quiet (C := E) (by kernel_rfl) (by kernel_rfl) hE ?_
  simp only [List.toList_toArray]
  have CW : ∀ a x b w2, E w2 → Calls Tryz.prog 119 #[.int .i64 a, .int .i64 x, .int .i64 b] w2 fun e w' => e = .returned (.bool (wit a x b)) ∧ E w' := fun a x b w2 h => (within_any a x b w2).mono fun e w' ⟨h1, h2⟩ => ⟨h1, h2 ▸ h⟩
  have CL : ∀ v w2, E w2 → Calls Tryz.prog 149 #[.agg v] w2 fun e w' => e = .returned (.int .i64 (0)) ∧ E w' := fun v w2 h => (v3_least v w2).mono fun e w' ⟨h1, h2⟩ => ⟨h1, HN.out _ _ h h2⟩
  have CM : ∀ v w2, E w2 → Calls Tryz.prog 146 #[.agg v] w2 fun e w' => e = .returned (.int .i64 (100000000)) ∧ E w' := fun v w2 h => (v2_most v w2).mono fun e w' ⟨h1, h2⟩ => ⟨h1, HN.out _ _ h h2⟩
  have CP : ∀ w2, E w2 → Calls Tryz.prog 120 #[.string wh] w2 fun e w' => e = .returned (.bool (plainB wh.data.toList)) ∧ E w' := fun w2 h => (plain_any wh w2 hwh).mono fun e w' ⟨h1, h2⟩ => ⟨h1, HN.out _ _ h h2⟩
  have HCW : Hid (_) := CW
  have HCL : Hid (_) := CL
  have HCM : Hid (_) := CM
  have HCP : Hid (_) := CP
  clear CW CL CM CP
  repeat (any_goals (first
    | go_big_quiet_skip
    | (go_big_quiet_want
       first
       | (refine quiet_val (v := ?_) (fun w2 hw2 => ?_) ?_
          rotate_left
          · (first | (go_simp; with_reducible rfl) | (obtain ⟨q1, q2, q3, q4, q5, q6, q7, q8⟩ := R.out w2 hw2; go_simp; with_reducible rfl))
          go_big_quiet_on
          simp only [Act.put, List.setIfInBounds_toArray, List.set_cons_zero, List.set_cons_succ])
       | (refine quiet_call (v := ?_) (f := ?_) (args := ?_) (fun w2 hw2 => ?_) (fun w2 hw2 => ?_) ?_
          rotate_left 3
          · (go_simp; refine ⟨?_, ?_⟩ <;> with_reducible rfl)
          first
          | (· (go_at_call_of 119 (o); exact HCW.out 1 o 1099511627776 _ hw2)
             (go_big_quiet_on; simp only [Act.put, List.setIfInBounds_toArray, List.set_cons_zero, List.set_cons_succ]; cases h0 : wit 1 o 1099511627776))
          | (· (go_at_call_of 119 (i); exact HCW.out 0 i 65535 _ hw2)
             (go_big_quiet_on; simp only [Act.put, List.setIfInBounds_toArray, List.set_cons_zero, List.set_cons_succ]; cases h1 : wit 0 i 65535))
          | (· (go_at_call_of 119 (q); exact HCW.out (0) q 10000 _ hw2)
             (go_big_quiet_on; simp only [Act.put, List.setIfInBounds_toArray, List.set_cons_zero, List.set_cons_succ]; cases h2 : wit (0) q 10000))
          | (· (go_at_call_of 119 (p); exact HCW.out 0 p 100000000 _ hw2)
             (go_big_quiet_on; simp only [Act.put, List.setIfInBounds_toArray, List.set_cons_zero, List.set_cons_succ]; cases h3 : wit 0 p 100000000))
          | (· (go_at_call_of 119 (c); exact HCW.out 0 c 3 _ hw2)
             (go_big_quiet_on; simp only [Act.put, List.setIfInBounds_toArray, List.set_cons_zero, List.set_cons_succ]; cases h4 : wit 0 c 3))
          | (· (go_at_call_of 119 (t); exact HCW.out 0 t 5000 _ hw2)
             (go_big_quiet_on; simp only [Act.put, List.setIfInBounds_toArray, List.set_cons_zero, List.set_cons_succ]; cases h5 : wit 0 t 5000))
          | (· (go_at_call 120; exact HCP.out _ hw2)
             (go_big_quiet_on; simp only [Act.put, List.setIfInBounds_toArray, List.set_cons_zero, List.set_cons_succ]; cases h6 : plainB wh.data.toList))
          | (· (go_at_call_of 119 (s); exact HCW.out 0 s 1099511627776 _ hw2)
             (go_big_quiet_on; simp only [Act.put, List.setIfInBounds_toArray, List.set_cons_zero, List.set_cons_succ]; cases h7 : wit 0 s 1099511627776))
          | (· (go_at_call 149; exact HCL.out _ _ hw2)
             (go_big_quiet_on; simp only [Act.put, List.setIfInBounds_toArray, List.set_cons_zero, List.set_cons_succ]))
          | (· (go_at_call 146; exact HCM.out _ _ hw2)
             (go_big_quiet_on; simp only [Act.put, List.setIfInBounds_toArray, List.set_cons_zero, List.set_cons_succ]))))))
  all_goals
    refine wpQuiet_nil ?_
    intro w3 hw3
    go_wp2
    go_ret
    refine ⟨ret_bool ?_, HB.out _ hw3⟩
    unfold bnd
    simp only [*, Bool.true_and, Bool.false_and]
end Go.Proofs.YtblfmfanfpohbaaGreat
