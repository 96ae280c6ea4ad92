/- Own texts, joined: Od10. -/
import Derived.Test.YtmjppeljpifjpaaGreatK22
namespace Go.Proofs.YtmjppeljpifjpaaGreat
open Go.ChangeShapes Go.WideShapes Go.ChangeAt Go.RowKit
set_option linter.unusedVariables false
set_option linter.unusedSimpArgs false
set_option maxRecDepth 20000 in
set_option maxHeartbeats 4000000 in
theorem standing_any (lo b k : Nat) (s : St) (a : Option Addr) (n cap : Nat) (w : World) (hd : DeedsAt lo w b) (h1 : 1 ≤ k) (h10 : k ≤ 10) (hn : s.lines.length = n) (hl : Lns w a s.lines) (hm : n ≤ maxLen) :
    Calls Tryz.prog 51 #[.slice (some ⟨b, 0, none⟩) 11 11, .agg (stA s (.slice a n cap)), .int .i64 (k : Int)] w fun r w' => r = .returned (.int .i64 (stdR s k)) ∧ Below w.heap.size w w' := by
  obtain ⟨W, hW⟩ : ∃ W, w.alloc (.cells (stA s (.slice a n cap)) 25) = W := ⟨_, rfl⟩
  have HC := StC.new w s a n cap hl
  rw [hW] at HC
  have HCH : Hid (StC w w.heap.size s a n cap W) := HC
  have c1 := HC.1.cell 1 (.int .i64 s.status) rfl
  by_cases g1 : s.status = 0 ∧ (k : Int) ≠ 1
  · rw [show stdR s k = 3 from if_pos g1]
    have e1 : (s.status == 0) = true := by simpa using g1.1
    have e2 : ((k : Int) != 1) = true := by simpa using g1.2
    clear g1 hd hn hl
    go_enter Tryz.func51, Tryz.ntmps51
    go_wp2
    go_ret
    exact ⟨rfl, HCH.out.2.2⟩
  · by_cases g2 : s.status ≠ 0 ∧ (k : Int) = 1
    · rw [show stdR s k = 4 from (if_neg g1).trans (if_pos g2)]
      have e1 : (s.status == 0) = false := by simpa using g2.1
      have e1' : (s.status != 0) = true := by simpa using g2.1
      have e2 : ((k : Int) == 1) = true := by simpa using g2.2
      clear g1 g2 hd hn hl
      go_enter Tryz.func51, Tryz.ntmps51
      go_wp2
      go_ret
      exact ⟨rfl, HCH.out.2.2⟩
    · have hS : stdR s k = if useB s k = false then 5 else 0 := (if_neg g1).trans (if_neg g2)
      obtain ⟨vs, vr, q0, q1, q2, hs, hr⟩ := hd.2.2 k h1 h10
      obtain ⟨g, cb, rfl, eg, C⟩ := hs
      have hblt := hd.1
      have HE := HC.drew
      obtain ⟨E, hE⟩ : ∃ E, StC w w.heap.size s a n cap = E := ⟨_, rfl⟩
      have R : Hid (∀ w2, E w2 → w2.cell? ⟨b, k * 3, none⟩ = some (.func (Fn.func g) #[] cb)) := fun w2 h => by rw [← hE] at h; exact (h.2.2.cell (p := ⟨b, k * 3, none⟩) hblt).trans q0
      have RS : Hid (∀ w2, E w2 → StAt w2 w.heap.size s (.slice a n cap)) := fun w2 h => by rw [← hE] at h; exact h.1
      have HBel : Hid (∀ w2, E w2 → Below w.heap.size w w2) := fun w2 h => by rw [← hE] at h; exact h.2.2
      have CD : Hid (∀ w2, E w2 → Calls Tryz.prog g (#[.agg (stA s (.slice a n cap))] ++ cb) w2 fun e w' => e = .returned (.bool (useB s k)) ∧ E w') := fun w2 h => by
        rw [← hE] at h ⊢
        exact (C w2 s a n cap (same_of h.2.2) hn h.2.1 hm).mono fun e w' ⟨h1, h2⟩ => ⟨h1, h.keep h2⟩
      obtain ⟨U, hU⟩ : ∃ U, useB s k = U := ⟨_, rfl⟩
      rw [hU] at CD hS
      rw [hS]
      rw [hE] at HE
      have HEE : Hid (E (World.drew _)) := HE
      have hcase : ((s.status == 0) = true ∧ ((k : Int) != 1) = false ∧ (s.status != 0) = false) ∨ ((s.status == 0) = false ∧ (s.status != 0) = true ∧ ((k : Int) == 1) = false) := by
        by_cases h0 : s.status = 0
        · left
          refine ⟨by simpa using h0, ?_, by simpa using h0⟩
          have : (k : Int) = 1 := Classical.byContradiction fun hk => g1 ⟨h0, hk⟩
          simpa using this
        · right
          refine ⟨by simpa using h0, by simpa using h0, ?_⟩
          have : ¬ (k : Int) = 1 := fun hk => g2 ⟨h0, hk⟩
          simpa using this
      have hk11 : (k : Int) < 11 := by omega
      clear hd hn hl hm g1 g2 hS hU C q0 q1 q2 hr hblt HE hE HC HCH
      rcases hcase with ⟨e1, e2, e3⟩ | ⟨e1, e2, e3⟩ <;> cases U
      all_goals
        go_enter Tryz.func51, Tryz.ntmps51
        go_wp2
        refine wp_region_quiet (C := E) (by kernel_rfl) (by kernel_rfl) HEE.out ?_
        simp only [List.toList_toArray]
        repeat (any_goals (first
          | go_big_quiet_skip
          | (go_big_quiet_want
             first
             | (refine quiet_val (v := .agg (stA s (.slice a n cap))) (fun w2 hw2 => exec_load_st (.tmp 4) rfl rfl (RS.out w2 hw2)) ?_
                go_big_quiet_on
                simp only [Act.put, List.setIfInBounds_toArray, List.set_cons_zero, List.set_cons_succ])
             | (refine quiet_val (v := ?_) (fun w2 hw2 => ?_) ?_
                rotate_left
                · (first | (go_simp; with_reducible rfl) | (have q1 := R.out w2 hw2; go_simp; with_reducible rfl))
                go_big_quiet_on
                simp only [Act.put, List.setIfInBounds_toArray, List.set_cons_zero, List.set_cons_succ])
             | (refine quiet_call (v := ?_) (f := ?_) (args := ?_) (fun w2 hw2 => ?_) (fun w2 hw2 => ?_) ?_
                rotate_left 3
                · (go_simp; refine ⟨?_, ?_⟩ <;> with_reducible rfl)
                · (skip; exact CD.out _ hw2)
                (go_big_quiet_on; simp only [Act.put, List.setIfInBounds_toArray, List.set_cons_zero, List.set_cons_succ])))))
        all_goals
          refine wpQuiet_nil ?_
          intro w3 hw3
          go_wp2
          go_ret
          exact ⟨rfl, HBel.out _ hw3⟩
end Go.Proofs.YtmjppeljpifjpaaGreat
