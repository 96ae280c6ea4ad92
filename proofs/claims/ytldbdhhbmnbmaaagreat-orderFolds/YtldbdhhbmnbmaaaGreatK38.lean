/- Own texts, joined: Cn9. -/
import Derived.Test.YtldbdhhbmnbmaaaGreatK26
import Derived.Test.YtldbdhhbmnbmaaaGreatK00
import Derived.WalkSmall
import Derived.BigQuiet
namespace Go.Proofs.YtldbdhhbmnbmaaaGreat
open Go.ChangeShapes Go.WideShapes Go.ChangeAt Go.RowKit
set_option linter.unusedVariables false
set_option maxRecDepth 20000 in
theorem ln_self (a b c d : Int) (w : World) : (binOp .neq 36 (.agg #[.int .i64 a, .int .i64 b, .int .i64 c, .int .i64 d]) (.agg #[.int .i64 a, .int .i64 b, .int .i64 c, .int .i64 d])).run Tryz.prog w = .ok (.bool false) w := by
  rw [run_neq_struct]
  simp [go_sem, Tryz.underlying36]
set_option maxRecDepth 20000 in
theorem ln_diff (a b c d a' b' c' d' : Int) (w : World) (h : ¬ (a = a' ∧ b = b' ∧ c = c' ∧ d = d')) : (binOp .neq 36 (.agg #[.int .i64 a, .int .i64 b, .int .i64 c, .int .i64 d]) (.agg #[.int .i64 a', .int .i64 b', .int .i64 c', .int .i64 d'])).run Tryz.prog w = .ok (.bool true) w := by
  rw [run_neq_struct]
  simp [go_sem, Tryz.underlying36]
  by_cases h1 : a = a'
  · by_cases h2 : b = b'
    · by_cases h3 : c = c'
      · by_cases h4 : d = d'
        · exact absurd ⟨h1, h2, h3, h4⟩ h
        · simp [h1, h2, h3, h4]
      · simp [h1, h2, h3]
    · simp [h1, h2]
  · simp [h1]
theorem two_st (w : World) (s t : St) (v u : Value) : ∃ W, (w.alloc (.cells (stA s v) 25)).alloc (.cells (stA t u) 25) = W ∧ StAt W w.heap.size s v ∧ StAt W (w.heap.size + 1) t u ∧ Below w.heap.size w W := by
  refine ⟨_, rfl, (StAt.new w s v).after ((Below.refl _ _).alloc (Nat.le_refl _) _), ?_, ((Below.refl _ _).alloc (Nat.le_refl _) _).alloc (by simp) _⟩
  have := StAt.new (w.alloc (.cells (stA s v) 25)) t u
  simpa using this
set_option maxRecDepth 20000 in
set_option maxHeartbeats 4000000 in
theorem ssame_lines (s t : St) (a a2 : Option Addr) (n cap cap2 : Nat) (w : World) (b : Bool) (hb : b = true ↔ s.lines = t.lines) (heq : s.order = t.order ∧ s.status = t.status ∧ s.prior = t.prior ∧ s.cur = t.cur ∧ s.tax = t.tax ∧ s.paid = t.paid ∧ s.refunded = t.refunded ∧ s.events = t.events ∧ s.refused = t.refused ∧ s.stamp = t.stamp ∧ s.who = t.who) (hn : s.lines.length = n) (hn2 : t.lines.length = n) (hl : Lns w a s.lines) (hl2 : Lns w a2 t.lines) (hm : n ≤ maxLen) :
    Calls Tryz.prog 9 #[.agg (stA s (.slice a n cap)), .agg (stA t (.slice a2 n cap2))] w fun e w' => e = .returned (.bool b) ∧ Below w.heap.size w w' := by
  unfold maxLen at hm
  obtain ⟨W, hW, t1, t2, t3⟩ := two_st w s t (.slice a n cap) (.slice a2 n cap2)
  have c0 := t1.cell 0 (.int .i64 s.order) rfl
  have d0 := t2.cell 0 (.int .i64 t.order) rfl
  have c1 := t1.cell 1 (.int .i64 s.status) rfl
  have d1 := t2.cell 1 (.int .i64 t.status) rfl
  have c2 := t1.cell 2 (.int .i64 s.prior) rfl
  have d2 := t2.cell 2 (.int .i64 t.prior) rfl
  have c3 := t1.cell 3 (.int .i64 s.cur) rfl
  have d3 := t2.cell 3 (.int .i64 t.cur) rfl
  have c4 := t1.cell 4 (.int .i64 s.tax) rfl
  have d4 := t2.cell 4 (.int .i64 t.tax) rfl
  have c6 := t1.cell 6 (.int .i64 s.paid) rfl
  have d6 := t2.cell 6 (.int .i64 t.paid) rfl
  have c7 := t1.cell 7 (.int .i64 s.refunded) rfl
  have d7 := t2.cell 7 (.int .i64 t.refunded) rfl
  have c8 := t1.cell 8 (.int .i64 s.events) rfl
  have d8 := t2.cell 8 (.int .i64 t.events) rfl
  have c9 := t1.cell 9 (.int .i64 s.refused) rfl
  have d9 := t2.cell 9 (.int .i64 t.refused) rfl
  have c10 := t1.cell 10 (.int .i64 s.stamp) rfl
  have d10 := t2.cell 10 (.int .i64 t.stamp) rfl
  have c11 := t1.cell 11 (.string s.who) rfl
  have d11 := t2.cell 11 (.string t.who) rfl
  have c5 := t1.cell 5 (.slice a n cap) rfl
  have d5 := t2.cell 5 (.slice a2 n cap2) rfl
  have HB : Hid (Below w.heap.size w W) := t3
  have HN : Hid (s.lines.length = n ∧ t.lines.length = n) := ⟨hn, hn2⟩
  have HL : Hid (Lns W a s.lines ∧ Lns W a2 t.lines) := ⟨hl.keep t3, hl2.keep t3⟩
  have HBB : Hid (b = true ↔ s.lines = t.lines) := hb
  obtain ⟨e0, e1, e2, e3, e4, e5, e6, e7, e8, e9, e10⟩ := heq
  have g0 : (s.order != t.order) = false := by simp [e0]
  have g1 : (s.status != t.status) = false := by simp [e1]
  have g2 : (s.prior != t.prior) = false := by simp [e2]
  have g3 : (s.cur != t.cur) = false := by simp [e3]
  have g4 : (s.tax != t.tax) = false := by simp [e4]
  have g5 : (s.paid != t.paid) = false := by simp [e5]
  have g6 : (s.refunded != t.refunded) = false := by simp [e6]
  have g7 : (s.events != t.events) = false := by simp [e7]
  have g8 : (s.refused != t.refused) = false := by simp [e8]
  have g9 : (s.stamp != t.stamp) = false := by simp [e9]
  have g10 : (s.who.toList == t.who.toList) = true := by simp [e10]
  clear t1 t2 t3 hn hn2 hl hl2 hb e0 e1 e2 e3 e4 e5 e6 e7 e8 e9 e10
  go_enter Tryz.func9, Tryz.ntmps9
  go_wp2
  go_loopw [91] (fun vi wr => ∃ k n0 : Nat, k ≤ n ∧ vi = .int .i64 k ∧ wr = W.drewN n0 ∧ Hid (s.lines.take k = t.lines.take k)) (fun vi _ => n - (intOf vi).toNat)
  case atStart => exact ⟨0, 0, Nat.zero_le _, rfl, rfl, by rw [List.take_zero, List.take_zero]; rfl⟩
  case round =>
    clear c0 d0 c1 d1 c2 d2 c3 d3 c4 d4 c6 d6 c7 d7 c8 d8 c9 d9 c10 d10 c11 d11 g0 g1 g2 g3 g4 g5 g6 g7 g8 g9 g10
    obtain ⟨k, n0, hk, rfl, rfl, HJ⟩ := hrel
    by_cases hkn : k < n
    · obtain ⟨p, hp⟩ := ln_get (L := s.lines) (k := k) (by rw [HN.out.1]; exact hkn)
      obtain ⟨p2, hp2⟩ := ln_get (L := t.lines) (k := k) (by rw [HN.out.2]; exact hkn)
      obtain ⟨bb, off, rfl, hlt, q0, q1, q2, q3⟩ := HL.out.1.cells k p hp
      obtain ⟨bb2, off2, rfl, hlt2, r0, r1, r2, r3⟩ := HL.out.2.cells k p2 hp2
      have HP : Hid (s.lines[k]? = some p ∧ t.lines[k]? = some p2) := ⟨hp, hp2⟩
      clear hp hp2
      by_cases hx : p = p2
      · subst hx
        have hls := fun w => ln_self p.item p.price p.qty p.shipped w
        go_wp2
        go_quiet (fail)
        go_wp2
        go_roundw
        case rel =>
          refine ⟨k + 1, n0 + nq, by omega, by go_num, by first | rfl | exact drewN_add _ _ _, ?_⟩
          show _ = _
          rw [ln_take _ _ _ HP.out.1, ln_take _ _ _ HP.out.2, HJ.out]
        case measure => simp [intOf]; omega
      · have hls := fun w => ln_diff p.item p.price p.qty p.shipped p2.item p2.price p2.qty p2.shipped w (fun h => hx (by cases p; cases p2; simp only [Ln.mk.injEq]; exact h))
        have HF : Hid (b = false) := by
          show _ = _
          cases hbv : b with
          | false => rfl
          | true =>
            have h1 := HBB.out.1 hbv
            have h2 := HP.out
            rw [h1] at h2
            exact absurd (Option.some.inj (h2.1.symm.trans h2.2)) hx
        clear hx
        go_wp2
        go_quiet (fail)
        go_wp2
        go_ret
        exact ⟨ret_bool (by rw [HF.out]), below_drewN (below_drewN HB.out _) _⟩
    · have HT : Hid (b = true) := by
        show _ = _
        have h := HJ.out
        rw [List.take_of_length_le (by rw [HN.out.1]; omega), List.take_of_length_le (by rw [HN.out.2]; omega)] at h
        exact HBB.out.2 h
      go_wp2
      go_ret
      exact ⟨ret_bool (by rw [HT.out]), below_drewN HB.out _⟩
theorem ssame_yes (s : St) (a a2 : Option Addr) (n cap cap2 : Nat) (w : World) (hn : s.lines.length = n) (hl : Lns w a s.lines) (hl2 : Lns w a2 s.lines) (hm : n ≤ maxLen) :
    Calls Tryz.prog 9 #[.agg (stA s (.slice a n cap)), .agg (stA s (.slice a2 n cap2))] w fun e w' => e = .returned (.bool true) ∧ Below w.heap.size w w' :=
  ssame_lines s s a a2 n cap cap2 w true (by simp) ⟨rfl, rfl, rfl, rfl, rfl, rfl, rfl, rfl, rfl, rfl, rfl⟩ hn hn hl hl2 hm
end Go.Proofs.YtldbdhhbmnbmaaaGreat
