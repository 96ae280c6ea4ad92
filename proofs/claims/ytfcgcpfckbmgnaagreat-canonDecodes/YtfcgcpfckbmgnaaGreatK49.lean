/- Own texts, joined: Cn9, Cpn, Cnc. -/
import Derived.Test.YtfcgcpfckbmgnaaGreatK48
import Derived.Test.YtfcgcpfckbmgnaaGreatK41
import Derived.WalkSmall
import Derived.BigQuiet
import Derived.Test.YtfcgcpfckbmgnaaGreatK17
namespace Go.Proofs.YtfcgcpfckbmgnaaGreat
open Go.ChangeShapes Go.WideShapes Go.ChangeAt Go.RowKit
set_option linter.unusedVariables false
set_option maxRecDepth 20000 in
theorem ln_self (a b c d : Int) (w : World) : (binOp .neq 37 (.agg #[.int .i64 a, .int .i64 b, .int .i64 c, .int .i64 d]) (.agg #[.int .i64 a, .int .i64 b, .int .i64 c, .int .i64 d])).run Tryz.prog w = .ok (.bool false) w := by
  rw [run_neq_struct]
  simp [go_sem, Tryz.underlying37]
set_option maxRecDepth 20000 in
theorem ln_diff (a b c d a' b' c' d' : Int) (w : World) (h : ¬ (a = a' ∧ b = b' ∧ c = c' ∧ d = d')) : (binOp .neq 37 (.agg #[.int .i64 a, .int .i64 b, .int .i64 c, .int .i64 d]) (.agg #[.int .i64 a', .int .i64 b', .int .i64 c', .int .i64 d'])).run Tryz.prog w = .ok (.bool true) w := by
  rw [run_neq_struct]
  simp [go_sem, Tryz.underlying37]
  by_cases h1 : a = a'
  · by_cases h2 : b = b'
    · by_cases h3 : c = c'
      · by_cases h4 : d = d'
        · exact absurd ⟨h1, h2, h3, h4⟩ h
        · simp [h1, h2, h3, h4]
      · simp [h1, h2, h3]
    · simp [h1, h2]
  · simp [h1]
theorem two_st (w : World) (s t : St) (v u : Value) : ∃ W, (w.alloc (.cells (stA s v) 28)).alloc (.cells (stA t u) 28) = W ∧ StAt W w.heap.size s v ∧ StAt W (w.heap.size + 1) t u ∧ Below w.heap.size w W := by
  refine ⟨_, rfl, (StAt.new w s v).after ((Below.refl _ _).alloc (Nat.le_refl _) _), ?_, ((Below.refl _ _).alloc (Nat.le_refl _) _).alloc (by simp) _⟩
  have := StAt.new (w.alloc (.cells (stA s v) 28)) t u
  simpa using this
theorem who_ne {x y : ByteArray} (h : x ≠ y) : (x.toList == y.toList) = false := by
  rw [beq_eq_false_iff_ne]
  intro h2
  rw [ByteArray.toList_eq, ByteArray.toList_eq] at h2
  exact h (ByteArray.ext (Array.toList_inj.1 h2))
set_option maxRecDepth 20000 in
set_option maxHeartbeats 4000000 in
theorem ssame_head (s t : St) (a a2 : Option Addr) (n m cap cap2 : Nat) (w : World) (hne : ¬ (s.order = t.order ∧ s.status = t.status ∧ s.prior = t.prior ∧ s.cur = t.cur ∧ s.tax = t.tax ∧ s.paid = t.paid ∧ s.refunded = t.refunded ∧ s.events = t.events ∧ s.refused = t.refused ∧ s.stamp = t.stamp ∧ s.who = t.who ∧ n = m)) :
    Calls Tryz.prog 8 #[.agg (stA s (.slice a n cap)), .agg (stA t (.slice a2 m cap2))] w fun e w' => e = .returned (.bool false) ∧ Below w.heap.size w w' := by
  obtain ⟨W, hW, t1, t2, t3⟩ := two_st w s t (.slice a n cap) (.slice a2 m cap2)
  have c0 := t1.cell 0 (.int .i64 s.order) rfl
  have d0 := t2.cell 0 (.int .i64 t.order) rfl
  have c1 := t1.cell 1 (.int .i64 s.status) rfl
  have d1 := t2.cell 1 (.int .i64 t.status) rfl
  have c2 := t1.cell 2 (.int .i64 s.prior) rfl
  have d2 := t2.cell 2 (.int .i64 t.prior) rfl
  have c3 := t1.cell 3 (.int .i64 s.cur) rfl
  have d3 := t2.cell 3 (.int .i64 t.cur) rfl
  have c4 := t1.cell 4 (.int .i64 s.tax) rfl
  have d4 := t2.cell 4 (.int .i64 t.tax) rfl
  have c6 := t1.cell 6 (.int .i64 s.paid) rfl
  have d6 := t2.cell 6 (.int .i64 t.paid) rfl
  have c7 := t1.cell 7 (.int .i64 s.refunded) rfl
  have d7 := t2.cell 7 (.int .i64 t.refunded) rfl
  have c8 := t1.cell 8 (.int .i64 s.events) rfl
  have d8 := t2.cell 8 (.int .i64 t.events) rfl
  have c9 := t1.cell 9 (.int .i64 s.refused) rfl
  have d9 := t2.cell 9 (.int .i64 t.refused) rfl
  have c10 := t1.cell 10 (.int .i64 s.stamp) rfl
  have d10 := t2.cell 10 (.int .i64 t.stamp) rfl
  have c11 := t1.cell 11 (.string s.who) rfl
  have d11 := t2.cell 11 (.string t.who) rfl
  have c5 := t1.cell 5 (.slice a n cap) rfl
  have d5 := t2.cell 5 (.slice a2 m cap2) rfl
  have HB : Hid (Below w.heap.size w W) := t3
  clear t1 t2 t3
  by_cases e0 : s.order = t.order
  · have g0 : (s.order != t.order) = false := by simp [e0]
    by_cases e1 : s.status = t.status
    · have g1 : (s.status != t.status) = false := by simp [e1]
      by_cases e2 : s.prior = t.prior
      · have g2 : (s.prior != t.prior) = false := by simp [e2]
        by_cases e3 : s.cur = t.cur
        · have g3 : (s.cur != t.cur) = false := by simp [e3]
          by_cases e4 : s.tax = t.tax
          · have g4 : (s.tax != t.tax) = false := by simp [e4]
            by_cases e5 : s.paid = t.paid
            · have g5 : (s.paid != t.paid) = false := by simp [e5]
              by_cases e6 : s.refunded = t.refunded
              · have g6 : (s.refunded != t.refunded) = false := by simp [e6]
                by_cases e7 : s.events = t.events
                · have g7 : (s.events != t.events) = false := by simp [e7]
                  by_cases e8 : s.refused = t.refused
                  · have g8 : (s.refused != t.refused) = false := by simp [e8]
                    by_cases e9 : s.stamp = t.stamp
                    · have g9 : (s.stamp != t.stamp) = false := by simp [e9]
                      by_cases e10 : s.who = t.who
                      · have g10 : (s.who.toList == t.who.toList) = true := by simp [e10]
                        by_cases e11 : n = m
                        · skip
                          exact absurd ⟨e0, e1, e2, e3, e4, e5, e6, e7, e8, e9, e10, e11⟩ hne
                        · have hx : ((n : Int) != (m : Int)) = true := by simp; omega
                          clear hne
                          go_enter Tryz.func8, Tryz.ntmps8
                          go_wp2
                          go_ret
                          exact ⟨rfl, HB.out⟩
                      · have hx := who_ne e10
                        clear hne
                        go_enter Tryz.func8, Tryz.ntmps8
                        go_wp2
                        go_ret
                        exact ⟨rfl, HB.out⟩
                    · have hx : (s.stamp != t.stamp) = true := by simpa using e9
                      clear hne
                      go_enter Tryz.func8, Tryz.ntmps8
                      go_wp2
                      go_ret
                      exact ⟨rfl, HB.out⟩
                  · have hx : (s.refused != t.refused) = true := by simpa using e8
                    clear hne
                    go_enter Tryz.func8, Tryz.ntmps8
                    go_wp2
                    go_ret
                    exact ⟨rfl, HB.out⟩
                · have hx : (s.events != t.events) = true := by simpa using e7
                  clear hne
                  go_enter Tryz.func8, Tryz.ntmps8
                  go_wp2
                  go_ret
                  exact ⟨rfl, HB.out⟩
              · have hx : (s.refunded != t.refunded) = true := by simpa using e6
                clear hne
                go_enter Tryz.func8, Tryz.ntmps8
                go_wp2
                go_ret
                exact ⟨rfl, HB.out⟩
            · have hx : (s.paid != t.paid) = true := by simpa using e5
              clear hne
              go_enter Tryz.func8, Tryz.ntmps8
              go_wp2
              go_ret
              exact ⟨rfl, HB.out⟩
          · have hx : (s.tax != t.tax) = true := by simpa using e4
            clear hne
            go_enter Tryz.func8, Tryz.ntmps8
            go_wp2
            go_ret
            exact ⟨rfl, HB.out⟩
        · have hx : (s.cur != t.cur) = true := by simpa using e3
          clear hne
          go_enter Tryz.func8, Tryz.ntmps8
          go_wp2
          go_ret
          exact ⟨rfl, HB.out⟩
      · have hx : (s.prior != t.prior) = true := by simpa using e2
        clear hne
        go_enter Tryz.func8, Tryz.ntmps8
        go_wp2
        go_ret
        exact ⟨rfl, HB.out⟩
    · have hx : (s.status != t.status) = true := by simpa using e1
      clear hne
      go_enter Tryz.func8, Tryz.ntmps8
      go_wp2
      go_ret
      exact ⟨rfl, HB.out⟩
  · have hx : (s.order != t.order) = true := by simpa using e0
    clear hne
    go_enter Tryz.func8, Tryz.ntmps8
    go_wp2
    go_ret
    exact ⟨rfl, HB.out⟩
set_option maxRecDepth 20000 in
set_option maxHeartbeats 4000000 in
theorem ssame_lines (s t : St) (a a2 : Option Addr) (n cap cap2 : Nat) (w : World) (b : Bool) (hb : b = true ↔ s.lines = t.lines) (heq : s.order = t.order ∧ s.status = t.status ∧ s.prior = t.prior ∧ s.cur = t.cur ∧ s.tax = t.tax ∧ s.paid = t.paid ∧ s.refunded = t.refunded ∧ s.events = t.events ∧ s.refused = t.refused ∧ s.stamp = t.stamp ∧ s.who = t.who) (hn : s.lines.length = n) (hn2 : t.lines.length = n) (hl : Lns w a s.lines) (hl2 : Lns w a2 t.lines) (hm : n ≤ maxLen) :
    Calls Tryz.prog 8 #[.agg (stA s (.slice a n cap)), .agg (stA t (.slice a2 n cap2))] w fun e w' => e = .returned (.bool b) ∧ Below w.heap.size w w' := by
  unfold maxLen at hm
  obtain ⟨W, hW, t1, t2, t3⟩ := two_st w s t (.slice a n cap) (.slice a2 n cap2)
  have c0 := t1.cell 0 (.int .i64 s.order) rfl
  have d0 := t2.cell 0 (.int .i64 t.order) rfl
  have c1 := t1.cell 1 (.int .i64 s.status) rfl
  have d1 := t2.cell 1 (.int .i64 t.status) rfl
  have c2 := t1.cell 2 (.int .i64 s.prior) rfl
  have d2 := t2.cell 2 (.int .i64 t.prior) rfl
  have c3 := t1.cell 3 (.int .i64 s.cur) rfl
  have d3 := t2.cell 3 (.int .i64 t.cur) rfl
  have c4 := t1.cell 4 (.int .i64 s.tax) rfl
  have d4 := t2.cell 4 (.int .i64 t.tax) rfl
  have c6 := t1.cell 6 (.int .i64 s.paid) rfl
  have d6 := t2.cell 6 (.int .i64 t.paid) rfl
  have c7 := t1.cell 7 (.int .i64 s.refunded) rfl
  have d7 := t2.cell 7 (.int .i64 t.refunded) rfl
  have c8 := t1.cell 8 (.int .i64 s.events) rfl
  have d8 := t2.cell 8 (.int .i64 t.events) rfl
  have c9 := t1.cell 9 (.int .i64 s.refused) rfl
  have d9 := t2.cell 9 (.int .i64 t.refused) rfl
  have c10 := t1.cell 10 (.int .i64 s.stamp) rfl
  have d10 := t2.cell 10 (.int .i64 t.stamp) rfl
  have c11 := t1.cell 11 (.string s.who) rfl
  have d11 := t2.cell 11 (.string t.who) rfl
  have c5 := t1.cell 5 (.slice a n cap) rfl
  have d5 := t2.cell 5 (.slice a2 n cap2) rfl
  have HB : Hid (Below w.heap.size w W) := t3
  have HN : Hid (s.lines.length = n ∧ t.lines.length = n) := ⟨hn, hn2⟩
  have HL : Hid (Lns W a s.lines ∧ Lns W a2 t.lines) := ⟨hl.keep t3, hl2.keep t3⟩
  have HBB : Hid (b = true ↔ s.lines = t.lines) := hb
  obtain ⟨e0, e1, e2, e3, e4, e5, e6, e7, e8, e9, e10⟩ := heq
  have g0 : (s.order != t.order) = false := by simp [e0]
  have g1 : (s.status != t.status) = false := by simp [e1]
  have g2 : (s.prior != t.prior) = false := by simp [e2]
  have g3 : (s.cur != t.cur) = false := by simp [e3]
  have g4 : (s.tax != t.tax) = false := by simp [e4]
  have g5 : (s.paid != t.paid) = false := by simp [e5]
  have g6 : (s.refunded != t.refunded) = false := by simp [e6]
  have g7 : (s.events != t.events) = false := by simp [e7]
  have g8 : (s.refused != t.refused) = false := by simp [e8]
  have g9 : (s.stamp != t.stamp) = false := by simp [e9]
  have g10 : (s.who.toList == t.who.toList) = true := by simp [e10]
  clear t1 t2 t3 hn hn2 hl hl2 hb e0 e1 e2 e3 e4 e5 e6 e7 e8 e9 e10
  go_enter Tryz.func8, Tryz.ntmps8
  go_wp2
  go_loopw [91] (fun vi wr => ∃ k n0 : Nat, k ≤ n ∧ vi = .int .i64 k ∧ wr = W.drewN n0 ∧ Hid (s.lines.take k = t.lines.take k)) (fun vi _ => n - (intOf vi).toNat)
  case atStart => exact ⟨0, 0, Nat.zero_le _, rfl, rfl, by rw [List.take_zero, List.take_zero]; rfl⟩
  case round =>
    clear c0 d0 c1 d1 c2 d2 c3 d3 c4 d4 c6 d6 c7 d7 c8 d8 c9 d9 c10 d10 c11 d11 g0 g1 g2 g3 g4 g5 g6 g7 g8 g9 g10
    obtain ⟨k, n0, hk, rfl, rfl, HJ⟩ := hrel
    by_cases hkn : k < n
    · obtain ⟨p, hp⟩ := ln_get (L := s.lines) (k := k) (by rw [HN.out.1]; exact hkn)
      obtain ⟨p2, hp2⟩ := ln_get (L := t.lines) (k := k) (by rw [HN.out.2]; exact hkn)
      obtain ⟨bb, off, rfl, hlt, q0, q1, q2, q3⟩ := HL.out.1.cells k p hp
      obtain ⟨bb2, off2, rfl, hlt2, r0, r1, r2, r3⟩ := HL.out.2.cells k p2 hp2
      have HP : Hid (s.lines[k]? = some p ∧ t.lines[k]? = some p2) := ⟨hp, hp2⟩
      clear hp hp2
      by_cases hx : p = p2
      · subst hx
        have hls := fun w => ln_self p.item p.price p.qty p.shipped w
        go_wp2
        go_quiet (fail)
        go_wp2
        go_roundw
        case rel =>
          refine ⟨k + 1, n0 + nq, by omega, by go_num, by first | rfl | exact drewN_add _ _ _, ?_⟩
          show _ = _
          rw [ln_take _ _ _ HP.out.1, ln_take _ _ _ HP.out.2, HJ.out]
        case measure => simp [intOf]; omega
      · have hls := fun w => ln_diff p.item p.price p.qty p.shipped p2.item p2.price p2.qty p2.shipped w (fun h => hx (by cases p; cases p2; simp only [Ln.mk.injEq]; exact h))
        have HF : Hid (b = false) := by
          show _ = _
          cases hbv : b with
          | false => rfl
          | true =>
            have h1 := HBB.out.1 hbv
            have h2 := HP.out
            rw [h1] at h2
            exact absurd (Option.some.inj (h2.1.symm.trans h2.2)) hx
        clear hx
        go_wp2
        go_quiet (fail)
        go_wp2
        go_ret
        exact ⟨ret_bool (by rw [HF.out]), below_drewN (below_drewN HB.out _) _⟩
    · have HT : Hid (b = true) := by
        show _ = _
        have h := HJ.out
        rw [List.take_of_length_le (by rw [HN.out.1]; omega), List.take_of_length_le (by rw [HN.out.2]; omega)] at h
        exact HBB.out.2 h
      go_wp2
      go_ret
      exact ⟨ret_bool (by rw [HT.out]), below_drewN HB.out _⟩
theorem ssame_yes (s : St) (a a2 : Option Addr) (n cap cap2 : Nat) (w : World) (hn : s.lines.length = n) (hl : Lns w a s.lines) (hl2 : Lns w a2 s.lines) (hm : n ≤ maxLen) :
    Calls Tryz.prog 8 #[.agg (stA s (.slice a n cap)), .agg (stA s (.slice a2 n cap2))] w fun e w' => e = .returned (.bool true) ∧ Below w.heap.size w w' :=
  ssame_lines s s a a2 n cap cap2 w true (by simp) ⟨rfl, rfl, rfl, rfl, rfl, rfl, rfl, rfl, rfl, rfl, rfl⟩ hn hn hl hl2 hm
theorem ssame_no (s t : St) (a a2 : Option Addr) (n m cap cap2 : Nat) (w : World) (hne : s ≠ t) (hn : s.lines.length = n) (hn2 : t.lines.length = m) (hl : Lns w a s.lines) (hl2 : Lns w a2 t.lines) (hm : n ≤ maxLen) :
    Calls Tryz.prog 8 #[.agg (stA s (.slice a n cap)), .agg (stA t (.slice a2 m cap2))] w fun e w' => e = .returned (.bool false) ∧ Below w.heap.size w w' := by
  by_cases h : s.order = t.order ∧ s.status = t.status ∧ s.prior = t.prior ∧ s.cur = t.cur ∧ s.tax = t.tax ∧ s.paid = t.paid ∧ s.refunded = t.refunded ∧ s.events = t.events ∧ s.refused = t.refused ∧ s.stamp = t.stamp ∧ s.who = t.who ∧ n = m
  · obtain ⟨e0, e1, e2, e3, e4, e5, e6, e7, e8, e9, e10, e11⟩ := h
    subst e11
    refine ssame_lines s t a a2 n cap cap2 w false ?_ ⟨e0, e1, e2, e3, e4, e5, e6, e7, e8, e9, e10⟩ hn hn2 hl hl2 hm
    constructor
    · intro h; cases h
    · intro h
      exfalso
      apply hne
      cases s; cases t
      simp only [St.mk.injEq] at *
      exact ⟨e0, e1, e2, e3, e4, h, e5, e6, e7, e8, e9, e10⟩
  · exact ssame_head s t a a2 n m cap cap2 w h
end Go.Proofs.YtfcgcpfckbmgnaaGreat
namespace Go.Proofs.YtfcgcpfckbmgnaaGreat
open Go.ChangeShapes Go.WideShapes Go.ChangeAt Go.RowKit
set_option linter.unusedVariables false
theorem bel_drewN {B : Nat} {a w : World} (h : Below B a w) (n : Nat) : Below B a (w.drewN n) := by
  induction n with
  | zero => exact h
  | succ n ih => exact ih.drew
theorem copy_nn (l : List Nat) (a : Option Addr) (n cap : Nat) (w : World) (hn : l.length = n) (hb : Bytes w a l) (hl : n ≤ 281474976710656) :
    Calls Tryz.prog 5 #[.slice a n cap] w fun e w' => ∃ a2 cap2, e = .returned (.slice a2 n cap2) ∧ n ≤ cap2 ∧ Bytes w' a2 l ∧ Own w' w.heap.size (.slice a2 n cap2) l ∧ Below w.heap.size w w' := by
  subst hn
  refine (copy_any l a cap w hb hl).mono ?_
  rintro e w' ⟨v, rfl, ho, hb'⟩
  obtain ⟨a2, cap2, rfl, h1, _, h3, _⟩ := ho.shape
  exact ⟨a2, cap2, rfl, h1, h3, ho, hb'⟩
theorem same_yes (l : List Nat) (n1 n2 : Nat) (a1 a2 : Option Addr) (c1 c2 : Nat) (w : World) (e1 : l.length = n1) (e2 : l.length = n2) (hb1 : Bytes w a1 l) (hb2 : Bytes w a2 l) (hl : n1 ≤ maxLen) :
    Calls Tryz.prog 9 #[.slice a1 n1 c1, .slice a2 n2 c2] w fun e w' => e = .returned (.bool true) ∧ Below w.heap.size w w' := by
  refine (same_at l l n1 n2 a1 a2 c1 c2 w e1 e2 hb1 hb2 (by rw [e1]; exact hl) (by rw [e1]; exact hl)).mono ?_
  rw [decide_eq_true rfl]
  rintro e w' ⟨rfl, m, rfl⟩
  exact ⟨rfl, bel_drewN (Below.refl _ _) m⟩
theorem same_no (l m : List Nat) (n1 n2 : Nat) (a1 a2 : Option Addr) (c1 c2 : Nat) (w : World) (hne : l ≠ m) (e1 : l.length = n1) (e2 : m.length = n2) (hb1 : Bytes w a1 l) (hb2 : Bytes w a2 m) (hl : n1 ≤ maxLen) (hm : n2 ≤ maxLen) :
    Calls Tryz.prog 9 #[.slice a1 n1 c1, .slice a2 n2 c2] w fun e w' => e = .returned (.bool false) ∧ Below w.heap.size w w' := by
  refine (same_at l m n1 n2 a1 a2 c1 c2 w e1 e2 hb1 hb2 (by rw [e1]; exact hl) (by rw [e2]; exact hm)).mono ?_
  rw [decide_eq_false hne]
  rintro e w' ⟨rfl, m, rfl⟩
  exact ⟨rfl, bel_drewN (Below.refl _ _) m⟩
end Go.Proofs.YtfcgcpfckbmgnaaGreat
namespace Go.Proofs.YtfcgcpfckbmgnaaGreat
open Go.ChangeShapes Go.WideShapes Go.ChangeAt Go.RowKit
set_option linter.unusedVariables false
def sevS : St := ⟨7, 0, 0, 0, 0, [], 0, 0, 0, 0, 0, ⟨#[]⟩⟩
theorem nilB_e : nilB ⟨#[]⟩ = true := (nilB_iff _).2 nums8_nil
theorem who_ok : chk 5 (whoE ⟨#[]⟩) = 0 := chk_of ⟨by decide, by decide, by decide, by decide, by decide, by decide, by decide, by decide, by decide, by decide, by decide, by decide, by decide, by decide, by decide, by decide, by decide, by decide, by decide, by decide, by decide, .inr rfl, .inr rfl, .inr nilB_e, .inr ⟨rfl, nilB_e⟩⟩
theorem sev_ok : vldB sevS = true := by
  have h1 : whoB sevS.who = true := by show (chk 5 (whoE ⟨#[]⟩) == 0) = true; rw [who_ok]; rfl
  have h2 : bndS sevS = true := by
    unfold bndS
    rw [h1]
    rfl
  have h3 : fitsB sevS = true := by
    have h4 : (sevS.who.toList == []) = true := toList_nil.2 rfl
    unfold fitsB
    rw [if_pos (show standS sevS = 0 from rfl)]
    unfold untB
    rw [h4]
    rfl
  unfold vldB
  rw [h2, h3]
  rfl
theorem sev_ones : ones (sfs sevS) = [2, 7] := by rfl
theorem sev_enc : cenc sevS = ([2, 7], 0) := by unfold cenc; rw [if_pos sev_ok, sev_ones]
theorem sev_dec : cdec [2, 7] = (sevS, 0) := by have h := cdec_back sev_ok; rw [sev_ones] at h; exact h
set_option maxRecDepth 20000 in
set_option maxHeartbeats 2000000 in
theorem head09_any (w : World) : Calls Tryz.prog 4 #[] w fun r w' => r = .returned (.bool true) ∧ Below w.heap.size w w' := by
  have T1 : Hid True := trivial
  go_enter Tryz.func4, Tryz.ntmps4
  go_wp2_with (first
    | (go_at_call 10; refine (cenc_any sevS none 0 0 _ rfl (.inl rfl) (by decide)).mono ?_; unfold CencPost; rw [sev_enc]; rintro _ x1 ⟨v1, rfl, ho1, hb1⟩; obtain ⟨a1, c1, hv1, _, _, hy1, _⟩ := ho1.shape; subst hv1; have HB1 : Hid (Below w.heap.size w x1) := hb1; have HY1 : Hid (Bytes x1 a1 [2, 7]) := hy1; clear ho1 hb1 hy1)
    | (go_at_call 7; refine (cdec_any [2, 7] (some ⟨x1.heap.size, 0, none⟩) 2 2 _ rfl (bytes_lit x1 [2, 7] (lt_getDC (by decide))) (by decide) (by decide)).mono ?_; unfold CdecPost; rw [sev_dec]; rintro _ x2 ⟨v2, rfl, ho2, hb2⟩; obtain ⟨a2, c2, hv2, _, _, hl2, _⟩ := ho2.shape; subst hv2; have hbx : Below x1.heap.size x1 x2 := below_next ((Below.refl x1.heap.size x1).alloc (Nat.le_refl _) _) hb2; have HB2 : Hid (Below w.heap.size w x2) := below_next HB1.out hbx; have HY2 : Hid (Bytes x2 a1 [2, 7]) := HY1.out.keep hbx; have HL2 : Hid (Lns x2 a2 []) := hl2; clear ho2 hb2 hbx hl2)
    | ((with_reducible refine guard_store 28 ?_); clear T1; refine wpList_store_st (s := zeroS) (s2 := sevS) (a2 := a2) (n2 := 0) (c2 := c2) rfl _ _ rfl (StAt.new x2 zeroS (.slice none 0 0)) rfl rfl ?_; intro x3 z1 z2 z3 z4; have hu := (z2 _ _ ((Below.refl x2.heap.size x2).alloc (Nat.le_refl _) _) (Nat.le_refl _)); have HB3 : Hid (Below w.heap.size w x3) := below_next HB2.out hu; have HY3 : Hid (Bytes x3 a1 [2, 7]) := HY2.out.keep hu; have HL3 : Hid (Lns x3 a2 []) := HL2.out.keep hu; have HS3 : Hid (StAt x3 x2.heap.size sevS (.slice a2 0 c2)) := z1; clear z1 z2 z3 z4 hu)
    | (go_at_call 9; refine (same_yes [2, 7] 2 2 a1 (some ⟨x3.heap.size, 0, none⟩) c1 2 _ rfl rfl (HY3.out.keep ((Below.refl x3.heap.size x3).alloc (Nat.le_refl _) _)) (bytes_lit x3 [2, 7] (lt_getDC (by decide))) (by decide)).mono ?_; rintro _ x4 ⟨rfl, hb4⟩; have hbx : Below x3.heap.size x3 x4 := below_next ((Below.refl x3.heap.size x3).alloc (Nat.le_refl _) _) hb4; have HB4 : Hid (Below w.heap.size w x4) := below_next HB3.out hbx; have hs4 := HS3.out.after hbx; have HS4 : Hid (StAt x4 x2.heap.size sevS (.slice a2 0 c2)) := hs4; have HL4 : Hid (Lns x4 a2 []) := HL3.out.keep hbx; have k0 : x4.cell? ⟨x2.heap.size, 0, none⟩ = some (.int .i64 7) := hs4.cell 0 _ rfl; clear hb4 hbx hs4)
    | ((with_reducible refine guard_loadg 28 ?_); refine wpList_load_stg rfl _ rfl HS4.out rfl ?_)
    | (go_at_call 11; refine (csize_any sevS a2 0 c2 _ rfl HL4.out (by decide)).mono ?_; rw [sev_enc]; rintro _ x5 ⟨rfl, hb5⟩; have HB5 : Hid (Below w.heap.size w x5) := below_next HB4.out hb5; clear hb5))
  go_ret
  exact ⟨rfl, HB5.out⟩
end Go.Proofs.YtfcgcpfckbmgnaaGreat
