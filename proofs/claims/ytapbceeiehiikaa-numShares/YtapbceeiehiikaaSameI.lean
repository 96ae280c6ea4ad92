/- What daybooklaw04.same answers. -/
import Derived.Test.YtapbceeiehiikaaRows
import Derived.Test.YtapbceeiehiikaaInts
import Derived.Deep.QuietTactic
import Derived.BigQuiet
namespace Go.Proofs.Ytapbceeiehiikaa
open Go.ChangeShapes Go.WideShapes Go.ChangeAt Go.RowKit
theorem drewI_addN (w : World) (a b : Nat) : (w.drewN a).drewN b = w.drewN (a + b) := by
  induction b with
  | zero => rfl
  | succ b ih => show ((w.drewN a).drewN b).drew = (w.drewN (a + b)).drew; rw [ih]
theorem sameI_end (l m : List Int) (hl : l.length = m.length) (h : ∀ i, i < l.length → l.getD i 0 = m.getD i 0) : l = m := by
  apply List.ext_getElem hl
  intro i h1 h2
  have := h i h1
  simpa [List.getD_eq_getElem?_getD, List.getElem?_eq_getElem h1, List.getElem?_eq_getElem h2] using this
set_option maxRecDepth 20000 in
set_option maxHeartbeats 1000000 in
theorem sameI_any (l m : List Int) (a1 a2 : Option Addr) (c1 c2 : Nat) (w : World) (hb1 : Ints w a1 l) (hb2 : Ints w a2 m) (hl : l.length ≤ maxLen) (hm : m.length ≤ maxLen) :
    Calls Try.prog 9 #[.slice a1 l.length c1, .slice a2 m.length c2] w fun e w' => e = .returned (.bool (decide (l = m))) ∧ ∃ n, w' = w.drewN n := by
  unfold maxLen at hl hm
  by_cases hne : l.length = m.length
  · have HN : Hid (l.length = m.length) := hne
    have hnb : ((l.length : Int) != (m.length : Int)) = false := by simp; omega
    obtain ⟨hy1, hb1⟩ := hb1
    obtain ⟨hy2, hb2⟩ := hb2
    by_cases h0 : l = []
    · subst h0
      have h1 : m = [] := List.length_eq_zero_iff.1 hne.symm
      subst h1
      clear hne
      go_enter Try.func9, Try.ntmps9
      go_wp2
      refine wp_loop_rounds 1 ?_
      rw [rounds_succ]
      go_wp2
      go_ret
      exact ⟨rfl, 0, rfl⟩
    · have h1 : m ≠ [] := by intro h; subst h; simp at hne; exact h0 hne
      rcases hb1 with hb1 | ⟨b, off, rfl, hlt1, hc1⟩
      · exact absurd hb1 h0
      rcases hb2 with hb2 | ⟨b', off', rfl, hlt2, hc2⟩
      · exact absurd hb2 h1
      clear h0 h1 hne
      go_enter Try.func9, Try.ntmps9
      go_wp2
      go_loopw [13] (fun i wr => ∃ k n0 : Nat, k ≤ l.length ∧ i = .int .i64 k ∧ wr = w.drewN n0 ∧ ∀ j, j < k → l.getD j 0 = m.getD j 0) (fun i _ => l.length - (intOf i).toNat)
      case atStart => exact ⟨0, 0, Nat.zero_le _, rfl, rfl, fun j hj => absurd hj (Nat.not_lt_zero _)⟩
      case round =>
        obtain ⟨k, n0, hk, rfl, rfl, hj⟩ := hrel
        have HJ : Hid (∀ j, j < k → l.getD j 0 = m.getD j 0) := hj
        clear hj
        by_cases hlt : k < l.length
        · have e1 := hc1 k hlt
          have e2 := hc2 k (by have := HN.out; omega)
          have hkm : k < m.length := by have := HN.out; omega
          obtain ⟨x, hx⟩ : ∃ x, x = l.getD k 0 := ⟨_, rfl⟩
          obtain ⟨y, hy⟩ : ∃ y, y = m.getD k 0 := ⟨_, rfl⟩
          rw [← hx] at e1
          rw [← hy] at e2
          have HX : Hid (x = l.getD k 0) := hx
          have HY : Hid (y = m.getD k 0) := hy
          clear hx hy hc1 hc2 hy1 hy2
          by_cases hxy : x = y
          · have HXY : Hid (x = y) := hxy
            have hq : ((x : Int) != (y : Int)) = false := by simp [hxy]
            clear hxy
            go_wp2
            go_quiet (fail)
            go_wp2
            go_roundw
            case rel =>
              refine ⟨k + 1, n0 + nq, by omega, by go_num, by first | rfl | exact drewI_addN _ _ _, fun j hj => ?_⟩
              by_cases hjk : j < k
              · exact HJ.out j hjk
              · obtain rfl : j = k := by omega
                rw [← HX.out, ← HY.out, HXY.out]
            case measure => simp [intOf]; omega
          · have hq : ((x : Int) != (y : Int)) = true := by simpa using hxy
            have HNE : Hid (decide (l = m) = false) := by
              show _ = _
              rw [decide_eq_false_iff_not]
              intro h
              apply hxy
              rw [HX.out, HY.out, h]
            clear hxy
            go_wp2
            go_quiet (fail)
            go_wp2
            go_ret
            exact ⟨by rw [HNE.out]; rfl, n0 + nq, by first | rfl | exact drewI_addN _ _ _⟩
        · have HEQ : Hid (decide (l = m) = true) := by
            show _ = _
            rw [decide_eq_true_iff]
            exact sameI_end l m HN.out fun i hi => HJ.out i (by omega)
          clear hc1 hc2 hy1 hy2
          go_wp2
          go_ret
          exact ⟨by rw [HEQ.out]; rfl, n0, rfl⟩
  · have hnb : ((l.length : Int) != (m.length : Int)) = true := by simp; omega
    have HNE : Hid (decide (l = m) = false) := by
      show _ = _
      rw [decide_eq_false_iff_not]
      intro h
      exact hne (by rw [h])
    clear hne hb1 hb2
    go_enter Try.func9, Try.ntmps9
    go_wp2
    go_ret
    exact ⟨by rw [HNE.out]; rfl, 0, rfl⟩
theorem sameI_at (l m : List Int) (n1 n2 : Nat) (a1 a2 : Option Addr) (c1 c2 : Nat) (w : World) (e1 : l.length = n1) (e2 : m.length = n2) (hb1 : Ints w a1 l) (hb2 : Ints w a2 m) (hl : l.length ≤ maxLen) (hm : m.length ≤ maxLen) :
    Calls Try.prog 9 #[.slice a1 n1 c1, .slice a2 n2 c2] w fun e w' => e = .returned (.bool (decide (l = m))) ∧ ∃ n, w' = w.drewN n := by
  subst e1 e2
  exact sameI_any l m a1 a2 c1 c2 w hb1 hb2 hl hm
end Go.Proofs.Ytapbceeiehiikaa
