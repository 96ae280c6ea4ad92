/- Own texts, joined: Ov4, Ov5. -/
import Derived.Test.YtbpjlphjhjfdoaaGreatK13
import Derived.Deep.QuietTactic
import Derived.BigQuiet
namespace Go.Proofs.YtbpjlphjhjfdoaaGreat
open Go.ChangeShapes Go.WideShapes Go.ChangeAt Go.RowKit
set_option linter.unusedVariables false
def untB (s : St) : Bool := s.lines.length == 0 && (s.cur == 0 && (s.tax == 0 && (s.paid == 0 && (s.stamp == 0 && (s.who.toList == [] && s.refused == s.events)))))
theorem toList_nil {x : ByteArray} : (x.toList == []) = true ↔ x = ⟨#[]⟩ := by
  constructor
  · intro h
    have h1 : x.toList = [] := by simpa using h
    rw [ByteArray.toList_eq] at h1
    apply ByteArray.ext
    simpa using h1
  · rintro rfl
    rw [ByteArray.toList_eq]
    rfl
set_option maxRecDepth 20000 in
set_option maxHeartbeats 2000000 in
theorem untouched_any (s : St) (a : Option Addr) (n cap : Nat) (w : World) (hn : s.lines.length = n) : Calls Tryz.prog 61 #[.agg (stA s (.slice a n cap))] w fun e w' => e = .returned (.bool (untB s)) ∧ Below w.heap.size w w' := by
  have HF : Hid (untB s = (((n : Int) == 0) && (s.cur == 0 && (s.tax == 0 && (s.paid == 0 && (s.stamp == 0 && (s.who.toList == [] && s.refused == s.events))))))) := by
    show _ = _
    unfold untB
    rw [hn]
    congr 1
    cases n <;> rfl
  have HB1 : ∀ o, Hid (Below w.heap.size w (w.alloc o)) := fun o => (Below.refl _ _).alloc (Nat.le_refl _) _
  clear hn
  rw [HF.out]
  unfold stA
  cases h0 : ((n : Int) == 0) <;> cases h1 : (s.cur == 0) <;> cases h2 : (s.tax == 0) <;> cases h3 : (s.paid == 0) <;> cases h4 : (s.stamp == 0) <;> cases h5 : s.who.toList == [] <;> (
  go_enter Tryz.func61, Tryz.ntmps61
  go_wp2
  go_ret
  exact ⟨rfl, (HB1 _).out⟩)
def paidB (s : St) : Bool := decide (0 < s.paid) && s.paid == dueS s
end Go.Proofs.YtbpjlphjhjfdoaaGreat
namespace Go.Proofs.YtbpjlphjhjfdoaaGreat
open Go.ChangeShapes Go.WideShapes Go.ChangeAt Go.RowKit
set_option linter.unusedVariables false
set_option linter.unusedSimpArgs false
set_option maxRecDepth 20000 in
set_option maxHeartbeats 4000000 in
theorem paidUp_any (s : St) (a : Option Addr) (n cap : Nat) (w : World) (hn : s.lines.length = n) (hl : Lns w a s.lines) (hb : linesB s.lines = true) (ht0 : 0 ≤ s.tax) (ht : s.tax ≤ 5000) :
    Calls Tryz.prog 62 #[.agg (stA s (.slice a n cap))] w fun e w' => e = .returned (.bool (paidB s)) ∧ Below w.heap.size w w' := by
  have HE := (StC.new w s a n cap hl).drew
  obtain ⟨E, hE⟩ : ∃ E, StC w w.heap.size s a n cap = E := ⟨_, rfl⟩
  have R : Hid (∀ w2, E w2 → w2.cell? ⟨w.heap.size, 6, none⟩ = some (.int .i64 s.paid) ∧ w2.cell? ⟨w.heap.size, 7, none⟩ = some (.int .i64 s.refunded) ∧ w2.cell? ⟨w.heap.size, 5, none⟩ = some (.slice a n cap)) := fun w2 h => by rw [← hE] at h; exact ⟨h.1.cell 6 _ rfl, h.1.cell 7 _ rfl, h.1.cell 5 _ rfl⟩
  have RS : Hid (∀ w2, E w2 → StAt w2 w.heap.size s (.slice a n cap)) := fun w2 h => by rw [← hE] at h; exact h.1
  have HBel : Hid (∀ w2, E w2 → Below w.heap.size w w2) := fun w2 h => by rw [← hE] at h; exact h.2.2
  have HLn : Hid (∀ w2, E w2 → Lns w2 a s.lines) := fun w2 h => by rw [← hE] at h; exact h.2.1
  have HK : Hid (∀ w1 w2, E w1 → Below w1.heap.size w1 w2 → E w2) := fun w1 w2 h h2 => by rw [← hE] at h ⊢; exact h.keep h2
  have CD : Hid (∀ w2, E w2 → Calls Tryz.prog 23 #[.agg (stA s (.slice a n cap))] w2 fun e w' => e = .returned (.int .i64 (dueS s)) ∧ E w') := fun w2 h => (due_any s a n cap w2 hn (HLn.out w2 h) hb ht0 ht).mono fun e w' ⟨h1, h2⟩ => ⟨h1, HK.out _ _ h h2⟩
  obtain ⟨D, hD⟩ : ∃ D, dueS s = D := ⟨_, rfl⟩
  have HP : Hid (paidB s = (decide (0 < s.paid) && s.paid == D)) := by show _ = _; unfold paidB; rw [hD]
  rw [hD] at CD
  rw [HP.out]
  rw [hE] at HE
  have HEE : Hid (E (World.drew _)) := HE
  clear hn hl hb hD hE HE
  by_cases h0 : 0 < s.paid
  · rw [decide_eq_true h0]
    have hd := decide_eq_true h0
    go_enter Tryz.func62, Tryz.ntmps62
    go_wp2
    refine wp_region_quiet (C := E) (by kernel_rfl) (by kernel_rfl) HEE.out ?_
    simp only [List.toList_toArray]
    repeat (any_goals (first
      | go_big_quiet_skip
      | (go_big_quiet_want
         first
         | (refine quiet_val (v := .agg (stA s (.slice a n cap))) (fun w2 hw2 => exec_load_st (.tmp 1) rfl rfl (RS.out w2 hw2)) ?_
            go_big_quiet_on
            simp only [Act.put, List.setIfInBounds_toArray, List.set_cons_zero, List.set_cons_succ])
         | (refine quiet_val (v := ?_) (fun w2 hw2 => ?_) ?_
            rotate_left
            · (first | (go_simp; with_reducible rfl) | (obtain ⟨q1, q2, q3⟩ := R.out w2 hw2; go_simp; with_reducible rfl))
            go_big_quiet_on
            simp only [Act.put, List.setIfInBounds_toArray, List.set_cons_zero, List.set_cons_succ])
         | (refine quiet_call (v := ?_) (f := ?_) (args := ?_) (fun w2 hw2 => ?_) (fun w2 hw2 => ?_) ?_
            rotate_left 3
            · (go_simp; refine ⟨?_, ?_⟩ <;> with_reducible rfl)
            · (skip; exact CD.out _ hw2)
            (go_big_quiet_on; simp only [Act.put, List.setIfInBounds_toArray, List.set_cons_zero, List.set_cons_succ])))))
    all_goals
      refine wpQuiet_nil ?_
      intro w3 hw3
      go_wp2
      go_ret
      exact ⟨ret_bool (by simp), HBel.out _ hw3⟩
  · rw [decide_eq_false h0]
    have hd := decide_eq_false h0
    go_enter Tryz.func62, Tryz.ntmps62
    go_wp2
    refine wp_region_quiet (C := E) (by kernel_rfl) (by kernel_rfl) HEE.out ?_
    simp only [List.toList_toArray]
    repeat (any_goals (first
      | go_big_quiet_skip
      | (go_big_quiet_want
         first
         | (refine quiet_val (v := .agg (stA s (.slice a n cap))) (fun w2 hw2 => exec_load_st (.tmp 1) rfl rfl (RS.out w2 hw2)) ?_
            go_big_quiet_on
            simp only [Act.put, List.setIfInBounds_toArray, List.set_cons_zero, List.set_cons_succ])
         | (refine quiet_val (v := ?_) (fun w2 hw2 => ?_) ?_
            rotate_left
            · (first | (go_simp; with_reducible rfl) | (obtain ⟨q1, q2, q3⟩ := R.out w2 hw2; go_simp; with_reducible rfl))
            go_big_quiet_on
            simp only [Act.put, List.setIfInBounds_toArray, List.set_cons_zero, List.set_cons_succ])
         | (refine quiet_call (v := ?_) (f := ?_) (args := ?_) (fun w2 hw2 => ?_) (fun w2 hw2 => ?_) ?_
            rotate_left 3
            · (go_simp; refine ⟨?_, ?_⟩ <;> with_reducible rfl)
            · (skip; exact CD.out _ hw2)
            (go_big_quiet_on; simp only [Act.put, List.setIfInBounds_toArray, List.set_cons_zero, List.set_cons_succ])))))
    all_goals
      refine wpQuiet_nil ?_
      intro w3 hw3
      go_wp2
      go_ret
      exact ⟨ret_bool (by simp), HBel.out _ hw3⟩
def fitsB (s : St) : Bool := if standS s = 0 then untB s else if standS s = 1 then unshB s.lines && (s.refunded == 0 && !paidB s) else if standS s = 3 then paidB s && !wholeB s.lines else if standS s = 4 then paidB s && wholeB s.lines else unshB s.lines
set_option maxRecDepth 20000 in
set_option maxHeartbeats 4000000 in
theorem fits_any (s : St) (a : Option Addr) (n cap : Nat) (w : World) (hn : s.lines.length = n) (hl : Lns w a s.lines) (hb : linesB s.lines = true) (ht0 : 0 ≤ s.tax) (ht : s.tax ≤ 5000) :
    Calls Tryz.prog 28 #[.agg (stA s (.slice a n cap))] w fun e w' => e = .returned (.bool (fitsB s)) ∧ Below w.heap.size w w' := by
  have hm : n ≤ maxLen := by have := (linesB_facts hb).1; unfold maxLen; omega
  have HS : Hid (StC w w.heap.size s a n cap (w.alloc (.cells (stA s (.slice a n cap)) 25))) := StC.new w s a n cap hl
  have CP : Hid (∀ w2, Lns w2 a s.lines → _) := fun w2 h => paidUp_any s a n cap w2 hn h hb ht0 ht
  have CU : Hid (∀ w2, Lns w2 a s.lines → _) := fun w2 h => unshipped_any s a n cap w2 hn h hm
  have CW : Hid (∀ w2, Lns w2 a s.lines → _) := fun w2 h => whole_any s a n cap w2 hn h hm
  have CT : Hid (∀ w2, _) := fun w2 => untouched_any s a n cap w2 hn
  obtain ⟨k, hk⟩ : ∃ k, standS s = k := ⟨_, rfl⟩
  have HKK : Hid (_) := hk
  obtain ⟨P, hP⟩ : ∃ P, paidB s = P := ⟨_, rfl⟩
  obtain ⟨U, hU⟩ : ∃ U, unshB s.lines = U := ⟨_, rfl⟩
  obtain ⟨W, hW⟩ : ∃ W, wholeB s.lines = W := ⟨_, rfl⟩
  obtain ⟨T, hT⟩ : ∃ T, untB s = T := ⟨_, rfl⟩
  rw [hP] at CP
  rw [hU] at CU
  rw [hW] at CW
  rw [hT] at CT
  have HF : Hid (fitsB s = if k = 0 then T else if k = 1 then U && (s.refunded == 0 && !P) else if k = 3 then P && !W else if k = 4 then P && W else U) := by show _ = _; unfold fitsB; rw [hk, hP, hU, hW, hT]
  clear hn hl hb hm hk hP hU hW hT
  rw [HF.out]
  by_cases k0 : k = 0
  · subst k0
    rw [if_pos rfl]
    go_enter Tryz.func28, Tryz.ntmps28
    go_wp2_with (first
      | ((with_reducible refine guard_load 25 ?_); refine wpList_load_st rfl _ rfl HS.out.1 rfl ?_)
      | ((with_reducible refine guard_loadg 25 ?_); refine wpList_load_stg rfl _ rfl HS.out.1 rfl ?_)
      | (go_at_call 60; refine (stands_any s a n cap _).mono ?_; rw [HKK.out]; rintro _ w8 ⟨rfl, hb8⟩; have HQ : Hid (StC w w.heap.size s a n cap w8) := StC.keep HS.out hb8; clear HS hb8; have HS := HQ; clear HQ; have c7 : World.cell? _ ⟨w.heap.size, 7, none⟩ = some (.int .i64 s.refunded) := HS.out.1.cell 7 _ rfl)
      | (go_at_call 61; refine (CT.out _).mono ?_; rintro _ w8 ⟨rfl, hb8⟩; have HQ : Hid (StC w w.heap.size s a n cap w8) := StC.keep HS.out hb8; clear HS hb8; have HS := HQ; clear HQ)
      | (go_at_call 47; refine (CU.out _ HS.out.2.1).mono ?_; rintro _ w8 ⟨rfl, hb8⟩; have HQ : Hid (StC w w.heap.size s a n cap w8) := StC.keep HS.out hb8; clear HS hb8; have HS := HQ; clear HQ; clear c7; have c7 : World.cell? _ ⟨w.heap.size, 7, none⟩ = some (.int .i64 s.refunded) := HS.out.1.cell 7 _ rfl)
      | (go_at_call 62; refine (CP.out _ HS.out.2.1).mono ?_; rintro _ w8 ⟨rfl, hb8⟩; have HQ : Hid (StC w w.heap.size s a n cap w8) := StC.keep HS.out hb8; clear HS hb8; have HS := HQ; clear HQ; clear c7)
      | (go_at_call 63; refine (CW.out _ HS.out.2.1).mono ?_; rintro _ w8 ⟨rfl, hb8⟩; have HQ : Hid (StC w w.heap.size s a n cap w8) := StC.keep HS.out hb8; clear HS hb8; have HS := HQ; clear HQ))
    go_ret
    exact ⟨ret_bool (by first | rfl | simp), HS.out.2.2⟩
  · rw [if_neg k0]
    by_cases k1 : k = 1
    · subst k1
      rw [if_pos rfl]
      cases U <;> cases hr : (s.refunded == 0) <;> (
        go_enter Tryz.func28, Tryz.ntmps28
        go_wp2_with (first
          | ((with_reducible refine guard_load 25 ?_); refine wpList_load_st rfl _ rfl HS.out.1 rfl ?_)
          | ((with_reducible refine guard_loadg 25 ?_); refine wpList_load_stg rfl _ rfl HS.out.1 rfl ?_)
          | (go_at_call 60; refine (stands_any s a n cap _).mono ?_; rw [HKK.out]; rintro _ w8 ⟨rfl, hb8⟩; have HQ : Hid (StC w w.heap.size s a n cap w8) := StC.keep HS.out hb8; clear HS hb8; have HS := HQ; clear HQ; have c7 : World.cell? _ ⟨w.heap.size, 7, none⟩ = some (.int .i64 s.refunded) := HS.out.1.cell 7 _ rfl)
          | (go_at_call 61; refine (CT.out _).mono ?_; rintro _ w8 ⟨rfl, hb8⟩; have HQ : Hid (StC w w.heap.size s a n cap w8) := StC.keep HS.out hb8; clear HS hb8; have HS := HQ; clear HQ)
          | (go_at_call 47; refine (CU.out _ HS.out.2.1).mono ?_; rintro _ w8 ⟨rfl, hb8⟩; have HQ : Hid (StC w w.heap.size s a n cap w8) := StC.keep HS.out hb8; clear HS hb8; have HS := HQ; clear HQ; clear c7; have c7 : World.cell? _ ⟨w.heap.size, 7, none⟩ = some (.int .i64 s.refunded) := HS.out.1.cell 7 _ rfl)
          | (go_at_call 62; refine (CP.out _ HS.out.2.1).mono ?_; rintro _ w8 ⟨rfl, hb8⟩; have HQ : Hid (StC w w.heap.size s a n cap w8) := StC.keep HS.out hb8; clear HS hb8; have HS := HQ; clear HQ; clear c7)
          | (go_at_call 63; refine (CW.out _ HS.out.2.1).mono ?_; rintro _ w8 ⟨rfl, hb8⟩; have HQ : Hid (StC w w.heap.size s a n cap w8) := StC.keep HS.out hb8; clear HS hb8; have HS := HQ; clear HQ))
        go_ret
        exact ⟨ret_bool (by first | rfl | simp), HS.out.2.2⟩)
    · rw [if_neg k1]
      by_cases k3 : k = 3
      · subst k3
        rw [if_pos rfl]
        cases P <;> (
          go_enter Tryz.func28, Tryz.ntmps28
          go_wp2_with (first
            | ((with_reducible refine guard_load 25 ?_); refine wpList_load_st rfl _ rfl HS.out.1 rfl ?_)
            | ((with_reducible refine guard_loadg 25 ?_); refine wpList_load_stg rfl _ rfl HS.out.1 rfl ?_)
            | (go_at_call 60; refine (stands_any s a n cap _).mono ?_; rw [HKK.out]; rintro _ w8 ⟨rfl, hb8⟩; have HQ : Hid (StC w w.heap.size s a n cap w8) := StC.keep HS.out hb8; clear HS hb8; have HS := HQ; clear HQ; have c7 : World.cell? _ ⟨w.heap.size, 7, none⟩ = some (.int .i64 s.refunded) := HS.out.1.cell 7 _ rfl)
            | (go_at_call 61; refine (CT.out _).mono ?_; rintro _ w8 ⟨rfl, hb8⟩; have HQ : Hid (StC w w.heap.size s a n cap w8) := StC.keep HS.out hb8; clear HS hb8; have HS := HQ; clear HQ)
            | (go_at_call 47; refine (CU.out _ HS.out.2.1).mono ?_; rintro _ w8 ⟨rfl, hb8⟩; have HQ : Hid (StC w w.heap.size s a n cap w8) := StC.keep HS.out hb8; clear HS hb8; have HS := HQ; clear HQ; clear c7; have c7 : World.cell? _ ⟨w.heap.size, 7, none⟩ = some (.int .i64 s.refunded) := HS.out.1.cell 7 _ rfl)
            | (go_at_call 62; refine (CP.out _ HS.out.2.1).mono ?_; rintro _ w8 ⟨rfl, hb8⟩; have HQ : Hid (StC w w.heap.size s a n cap w8) := StC.keep HS.out hb8; clear HS hb8; have HS := HQ; clear HQ; clear c7)
            | (go_at_call 63; refine (CW.out _ HS.out.2.1).mono ?_; rintro _ w8 ⟨rfl, hb8⟩; have HQ : Hid (StC w w.heap.size s a n cap w8) := StC.keep HS.out hb8; clear HS hb8; have HS := HQ; clear HQ))
          go_ret
          exact ⟨ret_bool (by first | rfl | simp), HS.out.2.2⟩)
      · rw [if_neg k3]
        by_cases k4 : k = 4
        · subst k4
          rw [if_pos rfl]
          cases P <;> (
            go_enter Tryz.func28, Tryz.ntmps28
            go_wp2_with (first
              | ((with_reducible refine guard_load 25 ?_); refine wpList_load_st rfl _ rfl HS.out.1 rfl ?_)
              | ((with_reducible refine guard_loadg 25 ?_); refine wpList_load_stg rfl _ rfl HS.out.1 rfl ?_)
              | (go_at_call 60; refine (stands_any s a n cap _).mono ?_; rw [HKK.out]; rintro _ w8 ⟨rfl, hb8⟩; have HQ : Hid (StC w w.heap.size s a n cap w8) := StC.keep HS.out hb8; clear HS hb8; have HS := HQ; clear HQ; have c7 : World.cell? _ ⟨w.heap.size, 7, none⟩ = some (.int .i64 s.refunded) := HS.out.1.cell 7 _ rfl)
              | (go_at_call 61; refine (CT.out _).mono ?_; rintro _ w8 ⟨rfl, hb8⟩; have HQ : Hid (StC w w.heap.size s a n cap w8) := StC.keep HS.out hb8; clear HS hb8; have HS := HQ; clear HQ)
              | (go_at_call 47; refine (CU.out _ HS.out.2.1).mono ?_; rintro _ w8 ⟨rfl, hb8⟩; have HQ : Hid (StC w w.heap.size s a n cap w8) := StC.keep HS.out hb8; clear HS hb8; have HS := HQ; clear HQ; clear c7; have c7 : World.cell? _ ⟨w.heap.size, 7, none⟩ = some (.int .i64 s.refunded) := HS.out.1.cell 7 _ rfl)
              | (go_at_call 62; refine (CP.out _ HS.out.2.1).mono ?_; rintro _ w8 ⟨rfl, hb8⟩; have HQ : Hid (StC w w.heap.size s a n cap w8) := StC.keep HS.out hb8; clear HS hb8; have HS := HQ; clear HQ; clear c7)
              | (go_at_call 63; refine (CW.out _ HS.out.2.1).mono ?_; rintro _ w8 ⟨rfl, hb8⟩; have HQ : Hid (StC w w.heap.size s a n cap w8) := StC.keep HS.out hb8; clear HS hb8; have HS := HQ; clear HQ))
            go_ret
            exact ⟨ret_bool (by first | rfl | simp), HS.out.2.2⟩)
        · rw [if_neg k4]
          have b0 : (k == 0) = false := by simpa using k0
          have b1 : (k == 1) = false := by simpa using k1
          have b3 : (k == 3) = false := by simpa using k3
          have b4 : (k == 4) = false := by simpa using k4
          clear k0 k1 k3 k4
          go_enter Tryz.func28, Tryz.ntmps28
          go_wp2_with (first
            | ((with_reducible refine guard_load 25 ?_); refine wpList_load_st rfl _ rfl HS.out.1 rfl ?_)
            | ((with_reducible refine guard_loadg 25 ?_); refine wpList_load_stg rfl _ rfl HS.out.1 rfl ?_)
            | (go_at_call 60; refine (stands_any s a n cap _).mono ?_; rw [HKK.out]; rintro _ w8 ⟨rfl, hb8⟩; have HQ : Hid (StC w w.heap.size s a n cap w8) := StC.keep HS.out hb8; clear HS hb8; have HS := HQ; clear HQ; have c7 : World.cell? _ ⟨w.heap.size, 7, none⟩ = some (.int .i64 s.refunded) := HS.out.1.cell 7 _ rfl)
            | (go_at_call 61; refine (CT.out _).mono ?_; rintro _ w8 ⟨rfl, hb8⟩; have HQ : Hid (StC w w.heap.size s a n cap w8) := StC.keep HS.out hb8; clear HS hb8; have HS := HQ; clear HQ)
            | (go_at_call 47; refine (CU.out _ HS.out.2.1).mono ?_; rintro _ w8 ⟨rfl, hb8⟩; have HQ : Hid (StC w w.heap.size s a n cap w8) := StC.keep HS.out hb8; clear HS hb8; have HS := HQ; clear HQ; clear c7; have c7 : World.cell? _ ⟨w.heap.size, 7, none⟩ = some (.int .i64 s.refunded) := HS.out.1.cell 7 _ rfl)
            | (go_at_call 62; refine (CP.out _ HS.out.2.1).mono ?_; rintro _ w8 ⟨rfl, hb8⟩; have HQ : Hid (StC w w.heap.size s a n cap w8) := StC.keep HS.out hb8; clear HS hb8; have HS := HQ; clear HQ; clear c7)
            | (go_at_call 63; refine (CW.out _ HS.out.2.1).mono ?_; rintro _ w8 ⟨rfl, hb8⟩; have HQ : Hid (StC w w.heap.size s a n cap w8) := StC.keep HS.out hb8; clear HS hb8; have HS := HQ; clear HQ))
          go_ret
          exact ⟨ret_bool (by first | rfl | simp), HS.out.2.2⟩
def vldB (s : St) : Bool := bndS s && (linesB s.lines && (priorB s && (wit 0 s.paid (dueS s) && (wit 0 s.refunded s.paid && fitsB s))))
set_option maxRecDepth 20000 in
set_option maxHeartbeats 8000000 in
theorem valid_st (s : St) (a : Option Addr) (n cap : Nat) (w : World) (hn : s.lines.length = n) (hl : Lns w a s.lines) (hm : n ≤ maxLen) :
    Calls Tryz.prog 14 #[.agg (stA s (.slice a n cap))] w fun e w' => e = .returned (.bool (vldB s)) ∧ Below w.heap.size w w' := by
  have HE := (StC.new w s a n cap hl).drew
  obtain ⟨E, hE⟩ : ∃ E, StC w w.heap.size s a n cap = E := ⟨_, rfl⟩
  have R : Hid (∀ w2, E w2 → w2.cell? ⟨w.heap.size, 6, none⟩ = some (.int .i64 s.paid) ∧ w2.cell? ⟨w.heap.size, 7, none⟩ = some (.int .i64 s.refunded) ∧ w2.cell? ⟨w.heap.size, 5, none⟩ = some (.slice a n cap)) := fun w2 h => by rw [← hE] at h; exact ⟨h.1.cell 6 _ rfl, h.1.cell 7 _ rfl, h.1.cell 5 _ rfl⟩
  have RS : Hid (∀ w2, E w2 → StAt w2 w.heap.size s (.slice a n cap)) := fun w2 h => by rw [← hE] at h; exact h.1
  have HBel : Hid (∀ w2, E w2 → Below w.heap.size w w2) := fun w2 h => by rw [← hE] at h; exact h.2.2
  have HLn : Hid (∀ w2, E w2 → Lns w2 a s.lines) := fun w2 h => by rw [← hE] at h; exact h.2.1
  have HK : Hid (∀ w1 w2, E w1 → Below w1.heap.size w1 w2 → E w2) := fun w1 w2 h h2 => by rw [← hE] at h ⊢; exact h.keep h2
  have C1 : Hid (∀ w2, E w2 → Calls Tryz.prog 24 #[.agg (stA s (.slice a n cap))] w2 fun e w' => e = .returned (.bool (bndS s)) ∧ E w') := fun w2 h => (bounded_any s a n cap w2).mono fun e w' ⟨h1, h2⟩ => ⟨h1, HK.out _ _ h h2⟩
  have C2 : Hid (∀ w2, E w2 → Calls Tryz.prog 25 #[.slice a n cap] w2 fun e w' => e = .returned (.bool (linesB s.lines)) ∧ E w') := fun w2 h => (rightLines_any s.lines a n cap w2 hn (HLn.out w2 h) hm).mono fun e w' ⟨h1, h2⟩ => ⟨h1, HK.out _ _ h h2⟩
  have C3 : Hid (∀ w2, E w2 → Calls Tryz.prog 26 #[.agg (stA s (.slice a n cap))] w2 fun e w' => e = .returned (.bool (priorB s)) ∧ E w') := fun w2 h => (prior_any s a n cap w2).mono fun e w' ⟨h1, h2⟩ => ⟨h1, HK.out _ _ h h2⟩
  have C4 : Hid (bndS s = true → linesB s.lines = true → ∀ w2, E w2 → Calls Tryz.prog 23 #[.agg (stA s (.slice a n cap))] w2 fun e w' => e = .returned (.int .i64 (dueS s)) ∧ E w') := fun hb1 hb2 w2 h => by
    have ht : 0 ≤ s.tax ∧ s.tax ≤ 5000 := by simp only [bndS, Bool.and_eq_true, wit_true] at hb1; omega
    exact (due_any s a n cap w2 hn (HLn.out w2 h) hb2 ht.1 ht.2).mono fun e w' ⟨h1, h2⟩ => ⟨h1, HK.out _ _ h h2⟩
  have C5 : Hid (∀ x y z w2, E w2 → Calls Tryz.prog 27 #[.int .i64 x, .int .i64 y, .int .i64 z] w2 fun e w' => e = .returned (.bool (wit x y z)) ∧ E w') := fun x y z w2 h => (owithin_any x y z w2).mono fun e w' ⟨h1, h2⟩ => ⟨h1, h2 ▸ h⟩
  have C6 : Hid (bndS s = true → linesB s.lines = true → ∀ w2, E w2 → Calls Tryz.prog 28 #[.agg (stA s (.slice a n cap))] w2 fun e w' => e = .returned (.bool (fitsB s)) ∧ E w') := fun hb1 hb2 w2 h => by
    have ht : 0 ≤ s.tax ∧ s.tax ≤ 5000 := by simp only [bndS, Bool.and_eq_true, wit_true] at hb1; omega
    exact (fits_any s a n cap w2 hn (HLn.out w2 h) hb2 ht.1 ht.2).mono fun e w' ⟨h1, h2⟩ => ⟨h1, HK.out _ _ h h2⟩
  obtain ⟨B, hB⟩ : ∃ B, bndS s = B := ⟨_, rfl⟩
  obtain ⟨L, hL⟩ : ∃ L, linesB s.lines = L := ⟨_, rfl⟩
  obtain ⟨P, hP⟩ : ∃ P, priorB s = P := ⟨_, rfl⟩
  obtain ⟨D, hD⟩ : ∃ D, dueS s = D := ⟨_, rfl⟩
  obtain ⟨F, hF⟩ : ∃ F, fitsB s = F := ⟨_, rfl⟩
  have HV : Hid (vldB s = (B && (L && (P && (wit 0 s.paid D && (wit 0 s.refunded s.paid && F)))))) := by show _ = _; unfold vldB; rw [hB, hL, hP, hD, hF]
  rw [hB] at C1
  rw [hL] at C2
  rw [hP] at C3
  rw [hB, hL, hD] at C4
  rw [hB, hL, hF] at C6
  rw [HV.out]
  rw [hE] at HE
  have HEE : Hid (E (World.drew _)) := HE
  clear hn hl hm hB hL hP hD hF hE HE
  go_enter Tryz.func14, Tryz.ntmps14
  go_wp2
  refine wp_region_quiet (C := E) (by kernel_rfl) (by kernel_rfl) HEE.out ?_
  simp only [List.toList_toArray]
  repeat (any_goals (first
    | go_big_quiet_skip
    | (go_big_quiet_want
       first
       | (refine quiet_val (v := .agg (stA s (.slice a n cap))) (fun w2 hw2 => exec_load_st (.tmp 1) rfl rfl (RS.out w2 hw2)) ?_
          go_big_quiet_on
          simp only [Act.put, List.setIfInBounds_toArray, List.set_cons_zero, List.set_cons_succ])
       | (refine quiet_val (v := ?_) (fun w2 hw2 => ?_) ?_
          rotate_left
          · (first | (go_simp; with_reducible rfl) | (obtain ⟨q1, q2, q3⟩ := R.out w2 hw2; go_simp; with_reducible rfl))
          go_big_quiet_on
          simp only [Act.put, List.setIfInBounds_toArray, List.set_cons_zero, List.set_cons_succ])
       | (refine quiet_call (v := ?_) (f := ?_) (args := ?_) (fun w2 hw2 => ?_) (fun w2 hw2 => ?_) ?_
          rotate_left 3
          · (go_simp; refine ⟨?_, ?_⟩ <;> with_reducible rfl)
          first
          | (· (go_at_call 24; exact C1.out _ hw2)
             (go_big_quiet_on; simp only [Act.put, List.setIfInBounds_toArray, List.set_cons_zero, List.set_cons_succ]; cases B))
          | (· (go_at_call 25; exact C2.out _ hw2)
             (go_big_quiet_on; simp only [Act.put, List.setIfInBounds_toArray, List.set_cons_zero, List.set_cons_succ]; cases L))
          | (· (go_at_call 26; exact C3.out _ hw2)
             (go_big_quiet_on; simp only [Act.put, List.setIfInBounds_toArray, List.set_cons_zero, List.set_cons_succ]; cases P))
          | (· (go_at_call 23; exact C4.out rfl rfl _ hw2)
             (go_big_quiet_on; simp only [Act.put, List.setIfInBounds_toArray, List.set_cons_zero, List.set_cons_succ]))
          | (· (go_at_call_of 27 (D); exact C5.out 0 s.paid D _ hw2)
             (go_big_quiet_on; simp only [Act.put, List.setIfInBounds_toArray, List.set_cons_zero, List.set_cons_succ]; cases h5 : wit 0 s.paid D))
          | (· (go_at_call 27; exact C5.out 0 s.refunded s.paid _ hw2)
             (go_big_quiet_on; simp only [Act.put, List.setIfInBounds_toArray, List.set_cons_zero, List.set_cons_succ]; cases h6 : wit 0 s.refunded s.paid))
          | (· (go_at_call 28; exact C6.out rfl rfl _ hw2)
             (go_big_quiet_on; simp only [Act.put, List.setIfInBounds_toArray, List.set_cons_zero, List.set_cons_succ]))))))
  all_goals
    refine wpQuiet_nil ?_
    intro w3 hw3
    go_wp2
    go_ret
    exact ⟨ret_bool (by simp only [*, Bool.true_and, Bool.false_and]), HBel.out _ hw3⟩
end Go.Proofs.YtbpjlphjhjfdoaaGreat
