/- Own texts, joined: Odh, Odi. -/
import Derived.Test.YtdmncbeloenihaaGreatM34
import Derived.Test.YtdmncbeloenihaaGreatK38
namespace Go.Proofs.YtdmncbeloenihaaGreat
open Go.ChangeShapes Go.WideShapes Go.ChangeAt Go.RowKit
set_option linter.unusedVariables false
set_option linter.unusedSimpArgs false
/-- the state of an order that nothing has happened to -/
def empS (id : Int) : St := ⟨id, 0, 0, 0, 0, [], 0, 0, 0, 0, 0, ⟨#[]⟩⟩
set_option maxRecDepth 20000 in
set_option maxHeartbeats 1000000 in
theorem empty_any (id : Int) (w : World) : Calls Tryz.prog 6 #[.int .i64 id] w fun r w' => r = .returned (.agg (stA (empS id) (.slice none 0 0))) ∧ Below w.heap.size w w' := by
  have HA : Hid (StAt (w.alloc (.cells (stA zeroS (.slice none 0 0)) 27)) w.heap.size zeroS (.slice none 0 0)) := StAt.new w zeroS _
  have HB : Hid (Below w.heap.size w (w.alloc (.cells (stA zeroS (.slice none 0 0)) 27))) := (Below.refl _ _).alloc (Nat.le_refl _) _
  go_enter Tryz.func6, Tryz.ntmps6
  go_wp2_with ((with_reducible refine guard_store 27 ?_); refine wpList_store_st (s := zeroS) (s2 := empS id) (a2 := none) (n2 := 0) (c2 := 0) rfl _ _ rfl HA.out rfl rfl ?_; intro y z1 z2 z3 z4)
  exact bodyPost_ret (results_st1 rfl _ _ _ rfl z1) rfl ⟨rfl, z2 _ _ HB.out (Nat.le_refl _)⟩
theorem next_of {s : St} {e : Ev} (hv : vldB s = true) (hc : chk 5 e = 0) (he : s.events ≠ 1099511627776) (ho : e.order = s.order) (hs : stdR s e.kind = 0) (hr : refR s e = 0) : judS s e = 0 ∧ nextS s e = fineS s e := by
  have hj : judS s e = 0 := by
    unfold judS
    rw [if_neg (by rintro (h | h | h); (rw [hv] at h; cases h); exact h hc; exact he h), if_neg (by omega), if_neg (by omega)]
    exact hr
  exact ⟨hj, by unfold nextS; rw [hj, if_neg (by decide), if_pos rfl]⟩
def he1 : Ev := ⟨1, 7, 0, 0, 0, 0, 1000, ⟨#[]⟩, 0, ⟨#[]⟩⟩
def he2 : Ev := ⟨2, 7, 3, 2, 500, 0, 0, ⟨#[]⟩, 0, ⟨#[]⟩⟩
def he3 : Ev := ⟨2, 7, 1, 1, 99, 0, 0, ⟨#[]⟩, 0, ⟨#[]⟩⟩
def he4 : Ev := ⟨3, 7, 0, 0, 1208, 0, 0, ⟨#[]⟩, 0, ⟨#[]⟩⟩
def hs1 : St := ⟨7, 1, 0, 0, 1000, [], 0, 0, 1, 0, 0, ⟨#[]⟩⟩
def hs2 : St := ⟨7, 1, 0, 0, 1000, [⟨3, 500, 2, 0⟩], 0, 0, 2, 0, 0, ⟨#[]⟩⟩
def hs3 : St := ⟨7, 1, 0, 0, 1000, [⟨1, 99, 1, 0⟩, ⟨3, 500, 2, 0⟩], 0, 0, 3, 0, 0, ⟨#[]⟩⟩
def hs4 : St := ⟨7, 3, 0, 0, 1000, [⟨1, 99, 1, 0⟩, ⟨3, 500, 2, 0⟩], 1208, 0, 4, 0, 0, ⟨#[]⟩⟩
theorem he1_ok : chk 5 he1 = 0 := chk_of ⟨by decide, by decide, by decide, by decide, by decide, by decide, by decide, by decide, by decide, by decide, by decide, by decide, by decide, by decide, by decide, by decide, by decide, by decide, by decide, by decide, by decide, .inl (by decide), .inl (by decide), .inl (by decide), .inl (by decide)⟩
theorem he2_ok : chk 5 he2 = 0 := chk_of ⟨by decide, by decide, by decide, by decide, by decide, by decide, by decide, by decide, by decide, by decide, by decide, by decide, by decide, by decide, by decide, by decide, by decide, by decide, by decide, by decide, by decide, .inl (by decide), .inl (by decide), .inl (by decide), .inl (by decide)⟩
theorem he3_ok : chk 5 he3 = 0 := chk_of ⟨by decide, by decide, by decide, by decide, by decide, by decide, by decide, by decide, by decide, by decide, by decide, by decide, by decide, by decide, by decide, by decide, by decide, by decide, by decide, by decide, by decide, .inl (by decide), .inl (by decide), .inl (by decide), .inl (by decide)⟩
theorem he4_ok : chk 5 he4 = 0 := chk_of ⟨by decide, by decide, by decide, by decide, by decide, by decide, by decide, by decide, by decide, by decide, by decide, by decide, by decide, by decide, by decide, by decide, by decide, by decide, by decide, by decide, by decide, .inl (by decide), .inl (by decide), .inl (by decide), .inl (by decide)⟩
theorem wnil : (ByteArray.toList ⟨#[]⟩ == []) = true := toList_nil.2 rfl
theorem emp_valid {id : Int} (h1 : 1 ≤ id) (h2 : id ≤ 1099511627776) : vldB (empS id) = true := by
  refine vl_to ⟨h1, h2, (show (0 : Int) ≤ 0 by decide), (show (0 : Int) ≤ 5 by decide), (show (0 : Int) ≤ 0 by decide), (show (0 : Int) ≤ 3 by decide), (show (0 : Int) ≤ 0 by decide), (show (0 : Int) ≤ 5000 by decide), (show (0 : Int) ≤ 0 by decide), (show (0 : Int) ≤ 1099511627776 by decide), (show (0 : Int) ≤ 0 by decide), (show (0 : Int) ≤ 0 by decide), (show (0 : Int) ≤ 0 by decide), (show (0 : Int) ≤ 1099511627776 by decide), ?_, rfl, rfl, (show (0 : Int) ≤ 0 by decide), (show (0 : Int) ≤ 0 + 0 * 0 / 10000 by decide), (show (0 : Int) ≤ 0 by decide), (show (0 : Int) ≤ 0 by decide), ?_⟩
  · exact who_right (right_of he1_ok)
  · unfold fitsB
    rw [if_pos (show standS (empS id) = 0 from rfl)]
    unfold untB
    show (_ && (_ && (_ && (_ && (_ && ((ByteArray.toList ⟨#[]⟩ == []) && _)))))) = true
    rw [wnil]
    rfl
theorem hd1 : nextS (empS 7) he1 = hs1 := by
  rw [(next_of (emp_valid (by decide) (by decide)) he1_ok (by decide) rfl (by decide) (by decide)).2]
  unfold fineS
  rw [show (he1.who.toList == []) = true from wnil]
  rfl
theorem hd2 : nextS hs1 he2 = hs2 := by
  rw [(next_of (hd1 ▸ next_valid (emp_valid (by decide) (by decide))) he2_ok (by decide) rfl (by decide) (by decide)).2]
  unfold fineS
  rw [show (he2.who.toList == []) = true from wnil]
  rfl
theorem hs2_ok : vldB hs2 = true := hd2 ▸ next_valid (hd1 ▸ next_valid (emp_valid (by decide) (by decide)))
theorem hd3 : nextS hs2 he3 = hs3 := by
  rw [(next_of hs2_ok he3_ok (by decide) rfl (by decide) (by decide)).2]
  unfold fineS
  rw [show (he3.who.toList == []) = true from wnil]
  rfl
theorem hs3_ok : vldB hs3 = true := hd3 ▸ next_valid hs2_ok
theorem hd4 : judS hs3 he4 = 0 ∧ nextS hs3 he4 = hs4 := by
  have h := next_of hs3_ok he4_ok (by decide) rfl (by decide) (by decide)
  refine ⟨h.1, ?_⟩
  rw [h.2]
  unfold fineS
  rw [show (he4.who.toList == []) = true from wnil]
  rfl
theorem hs4_ok : vldB hs4 = true := hd4.2 ▸ next_valid hs3_ok
theorem hs3_fold : foldS (empS 7) [he1, he2, he3] = hs3 := by
  show nextS (nextS (nextS (empS 7) he1) he2) he3 = hs3
  rw [hd1, hd2, hd3]
theorem hs3_due : dueS hs3 = 1208 := by decide
end Go.Proofs.YtdmncbeloenihaaGreat
namespace Go.Proofs.YtdmncbeloenihaaGreat
open Go.ChangeShapes Go.WideShapes Go.ChangeAt Go.RowKit
set_option linter.unusedVariables false
set_option linter.unusedSimpArgs false
theorem evs3 (w : World) (a b c : Ev) (T : TypeId) : EvsIn (w.alloc (.cells (evA a ++ evA b ++ evA c) T)) (some ⟨w.heap.size, 0, none⟩) [a, b, c] := by
  refine .inr ⟨w.heap.size, 0, rfl, by simp, fun k e he j u hu => ?_⟩
  rw [cell_of_row _ w.heap.size _ _ _ (0, 0) (heap_alloc_new w _)]
  have hj : j < 10 := by
    have h := hu
    by_cases hh : j < 10
    · exact hh
    · rw [Array.getElem?_eq_none (by simp [evA]; omega)] at h; cases h
  have hk : k = 0 ∨ k = 1 ∨ k = 2 := by have := ln_lt he; simp at this; omega
  rcases hk with rfl | rfl | rfl
  · simp at he; subst he
    simp only [Nat.zero_add, Nat.zero_mul]
    rw [Array.append_assoc, Array.getElem?_append_left (by simp [evA]; omega)]
    exact hu
  · simp at he; subst he
    rw [Array.append_assoc, Array.getElem?_append_right (by simp [evA]), Array.getElem?_append_left (by simp [evA]; omega)]
    simpa [evA] using hu
  · simp at he; subst he
    rw [Array.getElem?_append_right (by simp [evA])]
    simpa [evA] using hu
end Go.Proofs.YtdmncbeloenihaaGreat
