/- Own texts, joined: Odh, Odi. -/
import Derived.Test.YtbpjlphjhjfdoaaGreatM34
import Derived.Test.YtbpjlphjhjfdoaaGreatK38
namespace Go.Proofs.YtbpjlphjhjfdoaaGreat
open Go.ChangeShapes Go.WideShapes Go.ChangeAt Go.RowKit
set_option linter.unusedVariables false
set_option linter.unusedSimpArgs false
def empS (id : Int) : St := ⟨id, 0, 0, 0, 0, [], 0, 0, 0, 0, 0, ⟨#[]⟩⟩
set_option maxRecDepth 20000 in
set_option maxHeartbeats 1000000 in
theorem empty_any (id : Int) (w : World) : Calls Tryz.prog 12 #[.int .i64 id] w fun r w' => r = .returned (.agg (stA (empS id) (.slice none 0 0))) ∧ Below w.heap.size w w' := by
  have HA : Hid (StAt (w.alloc (.cells (stA zeroS (.slice none 0 0)) 25)) w.heap.size zeroS (.slice none 0 0)) := StAt.new w zeroS _
  have HB : Hid (Below w.heap.size w (w.alloc (.cells (stA zeroS (.slice none 0 0)) 25))) := (Below.refl _ _).alloc (Nat.le_refl _) _
  go_enter Tryz.func12, Tryz.ntmps12
  go_wp2_with ((with_reducible refine guard_store 25 ?_); refine wpList_store_st (s := zeroS) (s2 := empS id) (a2 := none) (n2 := 0) (c2 := 0) rfl _ _ rfl HA.out rfl rfl ?_; intro y z1 z2 z3 z4)
  exact bodyPost_ret (results_st1 rfl _ _ _ rfl z1) rfl ⟨rfl, z2 _ _ HB.out (Nat.le_refl _)⟩
set_option maxRecDepth 20000 in
set_option maxHeartbeats 1000000 in
theorem odue_any (s : St) (a : Option Addr) (n cap : Nat) (w : World) (hn : s.lines.length = n) (hl : Lns w a s.lines) (hm : n ≤ maxLen) :
    Calls Tryz.prog 13 #[.agg (stA s (.slice a n cap))] w fun r w' => r = .returned (.tuple #[.int .i64 (if vldB s = true then dueS s else 0), .bool (vldB s)]) ∧ Below w.heap.size w w' := by
  have HN : Hid (s.lines.length = n) := hn
  have HC0 : Hid (StC w w.heap.size s a n cap (w.alloc (.cells (stA s (.slice a n cap)) 25))) := StC.new w s a n cap hl
  cases hv : vldB s with
  | false =>
    rw [if_neg (by simp)]
    have HV : Hid (vldB s = false) := hv
    clear hn hl hv
    go_enter Tryz.func13, Tryz.ntmps13
    go_wp2_with (first
      | ((with_reducible refine guard_load 25 ?_); refine wpList_load_st rfl _ rfl HC0.out.1 rfl ?_)
      | (go_at_call 14; refine (valid_st s a n cap _ HN.out HC0.out.2.1 hm).mono ?_; rw [HV.out]; rintro _ x1 ⟨rfl, hb1⟩; have HC1 : Hid (StC w w.heap.size s a n cap x1) := StC.keep HC0.out hb1; clear hb1))
    go_ret2
    exact ⟨rfl, HC1.out.2.2⟩
  | true =>
    rw [if_pos rfl]
    have HV : Hid (vldB s = true) := hv
    have HDU : Hid (linesB s.lines = true ∧ 0 ≤ s.tax ∧ s.tax ≤ 5000) := by have h := vld_due hv; exact ⟨h.1, h.2.1, h.2.2.1⟩
    clear hn hl hv
    go_enter Tryz.func13, Tryz.ntmps13
    go_wp2_with (first
      | ((with_reducible refine guard_load 25 ?_); first | refine wpList_load_st rfl _ rfl HC1.out.1 rfl ?_ | refine wpList_load_st rfl _ rfl HC0.out.1 rfl ?_)
      | (go_at_call 14; refine (valid_st s a n cap _ HN.out HC0.out.2.1 hm).mono ?_; rw [HV.out]; rintro _ x1 ⟨rfl, hb1⟩; have HC1 : Hid (StC w w.heap.size s a n cap x1) := StC.keep HC0.out hb1; clear hb1)
      | (go_at_call 23; refine (due_any s a n cap _ HN.out HC1.out.2.1 HDU.out.1 HDU.out.2.1 HDU.out.2.2).mono ?_; rintro _ x2 ⟨rfl, hb2⟩; have HC2 : Hid (StC w w.heap.size s a n cap x2) := StC.keep HC1.out hb2; clear hb2))
    go_ret2
    exact ⟨rfl, HC2.out.2.2⟩
theorem next_of {s : St} {e : Ev} (hv : vldB s = true) (hc : chk 5 e = 0) (he : s.events ≠ 1099511627776) (ho : e.order = s.order) (hs : stdR s e.kind = 0) (hr : refR s e = 0) : judS s e = 0 ∧ nextS s e = fineS s e := by
  have hj : judS s e = 0 := by
    unfold judS
    rw [if_neg (by rintro (h | h | h); (rw [hv] at h; cases h); exact h hc; exact he h), if_neg (by omega), if_neg (by omega)]
    exact hr
  exact ⟨hj, by unfold nextS; rw [hj, if_neg (by decide), if_pos rfl]⟩
def he1 : Ev := ⟨1, 7, 0, 0, 0, 0, 1000, ⟨#[]⟩, 0, ⟨#[]⟩⟩
def he2 : Ev := ⟨2, 7, 3, 2, 500, 0, 0, ⟨#[]⟩, 0, ⟨#[]⟩⟩
def he3 : Ev := ⟨2, 7, 1, 1, 99, 0, 0, ⟨#[]⟩, 0, ⟨#[]⟩⟩
def he4 : Ev := ⟨3, 7, 0, 0, 1208, 0, 0, ⟨#[]⟩, 0, ⟨#[]⟩⟩
def hs1 : St := ⟨7, 1, 0, 0, 1000, [], 0, 0, 1, 0, 0, ⟨#[]⟩⟩
def hs2 : St := ⟨7, 1, 0, 0, 1000, [⟨3, 500, 2, 0⟩], 0, 0, 2, 0, 0, ⟨#[]⟩⟩
def hs3 : St := ⟨7, 1, 0, 0, 1000, [⟨1, 99, 1, 0⟩, ⟨3, 500, 2, 0⟩], 0, 0, 3, 0, 0, ⟨#[]⟩⟩
def hs4 : St := ⟨7, 3, 0, 0, 1000, [⟨1, 99, 1, 0⟩, ⟨3, 500, 2, 0⟩], 1208, 0, 4, 0, 0, ⟨#[]⟩⟩
theorem he1_ok : chk 5 he1 = 0 := chk_of ⟨by decide, by decide, by decide, by decide, by decide, by decide, by decide, by decide, by decide, by decide, by decide, by decide, by decide, by decide, by decide, by decide, by decide, by decide, by decide, by decide, by decide, .inl (by decide), .inl (by decide), .inl (by decide), .inl (by decide)⟩
theorem he2_ok : chk 5 he2 = 0 := chk_of ⟨by decide, by decide, by decide, by decide, by decide, by decide, by decide, by decide, by decide, by decide, by decide, by decide, by decide, by decide, by decide, by decide, by decide, by decide, by decide, by decide, by decide, .inl (by decide), .inl (by decide), .inl (by decide), .inl (by decide)⟩
theorem he3_ok : chk 5 he3 = 0 := chk_of ⟨by decide, by decide, by decide, by decide, by decide, by decide, by decide, by decide, by decide, by decide, by decide, by decide, by decide, by decide, by decide, by decide, by decide, by decide, by decide, by decide, by decide, .inl (by decide), .inl (by decide), .inl (by decide), .inl (by decide)⟩
theorem he4_ok : chk 5 he4 = 0 := chk_of ⟨by decide, by decide, by decide, by decide, by decide, by decide, by decide, by decide, by decide, by decide, by decide, by decide, by decide, by decide, by decide, by decide, by decide, by decide, by decide, by decide, by decide, .inl (by decide), .inl (by decide), .inl (by decide), .inl (by decide)⟩
theorem wnil : (ByteArray.toList ⟨#[]⟩ == []) = true := toList_nil.2 rfl
theorem emp_valid {id : Int} (h1 : 1 ≤ id) (h2 : id ≤ 1099511627776) : vldB (empS id) = true := by
  refine vl_to ⟨h1, h2, (show (0 : Int) ≤ 0 by decide), (show (0 : Int) ≤ 5 by decide), (show (0 : Int) ≤ 0 by decide), (show (0 : Int) ≤ 3 by decide), (show (0 : Int) ≤ 0 by decide), (show (0 : Int) ≤ 5000 by decide), (show (0 : Int) ≤ 0 by decide), (show (0 : Int) ≤ 1099511627776 by decide), (show (0 : Int) ≤ 0 by decide), (show (0 : Int) ≤ 0 by decide), (show (0 : Int) ≤ 0 by decide), (show (0 : Int) ≤ 1099511627776 by decide), ?_, rfl, rfl, (show (0 : Int) ≤ 0 by decide), (show (0 : Int) ≤ 0 + 0 * 0 / 10000 by decide), (show (0 : Int) ≤ 0 by decide), (show (0 : Int) ≤ 0 by decide), ?_⟩
  · exact who_right (right_of he1_ok)
  · unfold fitsB
    rw [if_pos (show standS (empS id) = 0 from rfl)]
    unfold untB
    show (_ && (_ && (_ && (_ && (_ && ((ByteArray.toList ⟨#[]⟩ == []) && _)))))) = true
    rw [wnil]
    rfl
theorem hd1 : nextS (empS 7) he1 = hs1 := by
  rw [(next_of (emp_valid (by decide) (by decide)) he1_ok (by decide) rfl (by decide) (by decide)).2]
  unfold fineS
  rw [show (he1.who.toList == []) = true from wnil]
  rfl
theorem hd2 : nextS hs1 he2 = hs2 := by
  rw [(next_of (hd1 ▸ next_valid (emp_valid (by decide) (by decide))) he2_ok (by decide) rfl (by decide) (by decide)).2]
  unfold fineS
  rw [show (he2.who.toList == []) = true from wnil]
  rfl
theorem hs2_ok : vldB hs2 = true := hd2 ▸ next_valid (hd1 ▸ next_valid (emp_valid (by decide) (by decide)))
theorem hd3 : nextS hs2 he3 = hs3 := by
  rw [(next_of hs2_ok he3_ok (by decide) rfl (by decide) (by decide)).2]
  unfold fineS
  rw [show (he3.who.toList == []) = true from wnil]
  rfl
theorem hs3_ok : vldB hs3 = true := hd3 ▸ next_valid hs2_ok
theorem hd4 : judS hs3 he4 = 0 ∧ nextS hs3 he4 = hs4 := by
  have h := next_of hs3_ok he4_ok (by decide) rfl (by decide) (by decide)
  refine ⟨h.1, ?_⟩
  rw [h.2]
  unfold fineS
  rw [show (he4.who.toList == []) = true from wnil]
  rfl
theorem hs4_ok : vldB hs4 = true := hd4.2 ▸ next_valid hs3_ok
theorem hs3_fold : foldS (empS 7) [he1, he2, he3] = hs3 := by
  show nextS (nextS (nextS (empS 7) he1) he2) he3 = hs3
  rw [hd1, hd2, hd3]
theorem hs3_due : dueS hs3 = 1208 := by decide
end Go.Proofs.YtbpjlphjhjfdoaaGreat
namespace Go.Proofs.YtbpjlphjhjfdoaaGreat
open Go.ChangeShapes Go.WideShapes Go.ChangeAt Go.RowKit
set_option linter.unusedVariables false
set_option linter.unusedSimpArgs false
theorem evs3 (w : World) (a b c : Ev) (T : TypeId) : EvsIn (w.alloc (.cells (evA a ++ evA b ++ evA c) T)) (some ⟨w.heap.size, 0, none⟩) [a, b, c] := by
  refine .inr ⟨w.heap.size, 0, rfl, by simp, fun k e he j u hu => ?_⟩
  rw [cell_of_row _ w.heap.size _ _ _ (0, 0) (heap_alloc_new w _)]
  have hj : j < 10 := by
    have h := hu
    by_cases hh : j < 10
    · exact hh
    · rw [Array.getElem?_eq_none (by simp [evA]; omega)] at h; cases h
  have hk : k = 0 ∨ k = 1 ∨ k = 2 := by have := ln_lt he; simp at this; omega
  rcases hk with rfl | rfl | rfl
  · simp at he; subst he
    simp only [Nat.zero_add, Nat.zero_mul]
    rw [Array.append_assoc, Array.getElem?_append_left (by simp [evA]; omega)]
    exact hu
  · simp at he; subst he
    rw [Array.append_assoc, Array.getElem?_append_right (by simp [evA]), Array.getElem?_append_left (by simp [evA]; omega)]
    simpa [evA] using hu
  · simp at he; subst he
    rw [Array.getElem?_append_right (by simp [evA])]
    simpa [evA] using hu
set_option maxRecDepth 20000 in
set_option maxHeartbeats 4000000 in
theorem head08_any (w : World) : Calls Tryz.prog 5 #[] w fun r w' => r = .returned (.bool true) ∧ Below w.heap.size w w' := by
  have T1 : Hid True := trivial
  have T2 : Hid True := trivial
  go_enter Tryz.func5, Tryz.ntmps5
  go_wp2_with (first
    | (go_at_call 12; refine (empty_any 7 _).mono ?_; rintro _ x0 ⟨rfl, hb0⟩; have HB0 : Hid (Below w.heap.size w x0) := hb0; clear hb0)
    | (go_at_call 10; refine (fold_any (empS 7) [he1, he2, he3] none _ 0 0 3 3 _ rfl (.inl rfl) (by decide) rfl (evs3 x0 he1 he2 he3 _) (by decide)).mono ?_; rw [hs3_fold]; rintro _ x1 ⟨a1, n1, c1, rfl, ho1, hb1⟩; obtain rfl : 2 = n1 := ho1.len; have HB1 : Hid (Below w.heap.size w x1) := below_next (HB0.out.alloc HB0.out.size _) hb1; have HL1 : Hid (Lns x1 a1 hs3.lines) := ownl_lns ho1; clear ho1 hb1)
    | ((with_reducible refine guard_store 25 ?_); clear T1; refine wpList_store_st (s := zeroS) (s2 := hs3) (a2 := a1) (n2 := 2) (c2 := c1) rfl _ _ rfl (StAt.new x1 zeroS (.slice none 0 0)) rfl rfl ?_; intro x2 z1 z2 z3 z4; have hu := (z2 _ _ ((Below.refl x1.heap.size x1).alloc (Nat.le_refl _) _) (Nat.le_refl _)); have HB2 : Hid (Below w.heap.size w x2) := below_next HB1.out hu; have HL2 : Hid (Lns x2 a1 hs3.lines) := HL1.out.keep hu; have HS2 : Hid (StAt x2 x1.heap.size hs3 (.slice a1 2 c1)) := z1; clear z1 z2 z3 z4 hu)
    | ((with_reducible refine guard_load 25 ?_); first | refine wpList_load_st rfl _ rfl HS3.out rfl ?_ | refine wpList_load_st rfl _ rfl HS2.out rfl ?_)
    | (go_at_call 13; refine (odue_any hs3 a1 2 c1 _ rfl HL2.out (by decide)).mono ?_; rw [hs3_ok, if_pos rfl, hs3_due]; rintro _ x3 ⟨rfl, hb3⟩; have HB3 : Hid (Below w.heap.size w x3) := below_next HB2.out hb3; have HL3 : Hid (Lns x3 a1 hs3.lines) := HL2.out.keep hb3; have HS3 : Hid (StAt x3 x1.heap.size hs3 (.slice a1 2 c1)) := HS2.out.after hb3; clear hb3)
    | (go_at_call 8; refine (apply_any hs3 he4 a1 2 c1 _ rfl HL3.out (by decide)).mono ?_; rw [hd4.1, hd4.2]; rintro _ x4 ⟨a4, n4, c4, rfl, ho4, hb4⟩; obtain rfl : 2 = n4 := ho4.len; have HB4 : Hid (Below w.heap.size w x4) := below_next HB3.out hb4; have HL4 : Hid (Lns x4 a1 hs3.lines) := HL3.out.keep hb4; have HS4 : Hid (StAt x4 x1.heap.size hs3 (.slice a1 2 c1)) := HS3.out.after hb4; have HM4 : Hid (Lns x4 a4 hs4.lines) := ownl_lns ho4; clear ho4 hb4)
    | ((with_reducible refine guard_store 25 ?_); clear T2; refine wpList_store_st (s := zeroS) (s2 := hs4) (a2 := a4) (n2 := 2) (c2 := c4) rfl _ _ rfl (StAt.new x4 zeroS (.slice none 0 0)) rfl rfl ?_; intro x5 z1 z2 z3 z4; have hu := (z2 _ _ ((Below.refl x4.heap.size x4).alloc (Nat.le_refl _) _) (Nat.le_refl _)); have HB5 : Hid (Below w.heap.size w x5) := below_next HB4.out hu; have HM5 : Hid (Lns x5 a4 hs4.lines) := HM4.out.keep hu; have HT5 : Hid (StAt x5 x4.heap.size hs4 (.slice a4 2 c4)) := z1; have g5 := (HS4.out.after hu).cell 5 (.slice a1 2 c1) rfl; have t1 := HT5.out.cell 1 (.int .i64 3) rfl; obtain ⟨lb, lo, hlo, _, l0, _⟩ := (HL4.out.keep hu).cells 0 ⟨1, 99, 1, 0⟩ rfl; subst hlo; simp only [Nat.zero_mul, Nat.add_zero] at l0; clear z1 z2 z3 z4 hu)
    | ((with_reducible refine guard_loadg 25 ?_); refine wpList_load_stg rfl _ rfl HT5.out rfl ?_)
    | (go_at_call 14; refine (valid_st hs4 a4 2 c4 _ rfl HM5.out (by decide)).mono ?_; rw [hs4_ok]; rintro _ x6 ⟨rfl, hb6⟩; have HB6 : Hid (Below w.heap.size w x6) := below_next HB5.out hb6; clear hb6))
  go_ret
  exact ⟨rfl, HB6.out⟩
end Go.Proofs.YtbpjlphjhjfdoaaGreat
