/- For every list of numbers and every text behind it, where they hold together at most 1048576 values: the list is read back, and a lower bound refuses it. -/
import Derived.Test.YtenekcnccmghhacHead02
import Derived.Test.YtenekcnccmghhacCopy
import Derived.Test.YtenekcnccmghhacSameN
import Derived.Test.YtenekcnccmghhacLmath
import Derived.Test.YtenekcnccmghhacBulk
import Derived.SizedLaws
import Derived.ChangeOld
import Derived.JoinedCond
import Derived.Deep.CondSized
import Derived.Laws.AppendOwnNone
import Derived.Deep.RegionWith
namespace Go.Proofs.Ytenekcnccmghhac.varintListBack
open Go.ChangeShapes Go.WideShapes Go.ChangeAt Go.RowKit
set_option linter.unusedVariables false
theorem below_next {w a b : World} (h : Below w.heap.size w a) (k : Below a.heap.size a b) : Below w.heap.size w b := h.trans (k.mono h.size)
theorem copy_at (l : List Nat) (n : Nat) (a : Option Addr) (cap : Nat) (w : World) (e1 : l.length = n) (hb : Bytes w a l) (hl : l.length ≤ 281474976710656) :
    Calls Try.prog 11 #[.slice a n cap] w fun e w' => ∃ v, e = .returned v ∧ Own w' w.heap.size v l ∧ Below w.heap.size w w' := by
  subst e1
  exact copy_any l a cap w hb hl
theorem lit0 (w : World) : Own64 (w.alloc (.cells #[] 36)) w.heap.size (.slice (some ⟨w.heap.size, 0, none⟩) 0 0) [] :=
  ⟨by simp, World.ownsRow_lit w #[] 0 (Nat.le_refl _) (by simp) rfl⟩
set_option maxRecDepth 20000 in
set_option maxHeartbeats 2000000 in
theorem walk (l : List Nat) (a : Option Addr) (cap : Nat) (m : List Nat) (a2 : Option Addr) (cap2 : Nat) (w : World) (hb : Nums w a l) (hc : Came w a l.length cap 8) (hm : Bytes w a2 m) (hc2 : Came w a2 m.length cap2 1) (hsum : cap + cap2 ≤ 1048576) :
    Calls Try.prog 4 #[.slice a l.length cap, .slice a2 m.length cap2] w fun e w' => e = .returned (.bool true) ∧ Below w.heap.size w w' := by
  obtain ⟨i0, hi, hz0, hz1, hz2⟩ := info_parts Try.info64
  obtain ⟨i5, hi5, hy0, hy1, hy2⟩ := info_parts Try.info5
  obtain ⟨hf, hr, hn⟩ := hc
  obtain ⟨hf2, hr2, hn2⟩ := hc2
  have hmem := nums_mem hb
  have HMEM : Hid (∀ x ∈ l, x ≤ 18446744073709551615) := hmem
  obtain ⟨hE1, hE2⟩ := encAll_length l (by omega) hmem
  have HBK : Hid (∀ r, decAll (encAll l ++ r) (l.length : Int) = (l, (encAll l).length, 0)) := fun r => decAll_back l r (by omega) hmem
  have HLW : Hid (0 < l.length → decAll (encAll l) ((l.length : Int) - 1) = ([], 0, 24)) := fun h => decAll_low l _ (by omega) (by omega)
  have HN : Hid (Nums w a l) := hb
  have HM : Hid (Bytes w a2 m) := hm
  obtain ⟨E, hEE⟩ : ∃ E, E = encAll l := ⟨_, rfl⟩
  rw [← hEE] at hE1 hE2 HBK HLW
  have HEE : Hid (E = encAll l) := hEE
  have HENE : Hid (E ≠ []) := hE2
  have HEB : Hid (∀ x ∈ E, x < 256) := by show ∀ x ∈ E, x < 256; rw [hEE]; exact encAll_lt l (by omega) hmem
  clear hb hm hmem hEE hE2
  have ha : (a = none ∧ cap = 0 ∧ l = []) ∨ ∃ x, a = some x := by
    cases a with
    | none => have h := hn rfl; exact .inl ⟨rfl, h, List.length_eq_zero_iff.1 (by omega)⟩
    | some x => exact .inr ⟨x, rfl⟩
  have ha2 : (a2 = none ∧ cap2 = 0 ∧ m = []) ∨ ∃ x, a2 = some x := by
    cases a2 with
    | none => have h := hn2 rfl; exact .inl ⟨rfl, h, List.length_eq_zero_iff.1 (by omega)⟩
    | some x => exact .inr ⟨x, rfl⟩
  have HLA : Hid ((E ++ m).length = E.length + m.length) := List.length_append
  have hl0 : l.length = 0 ∨ 0 < l.length := by omega
  have hlI : (l.length : Int) ≤ 1048576 := by omega
  have hEI : (E.length : Int) ≤ 10485770 := by omega
  clear hn hn2
  by_cases hl1 : l = []
  · subst hl1
    clear hl0 HLW hlI
    rcases ha with ⟨rfl, rfl, hnil⟩ | ⟨x, rfl⟩
    · clear hnil
      rcases ha2 with ⟨rfl, rfl, hnil2⟩ | ⟨x2, rfl⟩
      · subst hnil2
        have HBK2 : Hid (decAll E 0 = ([], E.length, 0)) := by
          have h := HBK.out []
          rw [List.append_nil] at h
          exact h
        clear HBK HLA hf2 hr2
        go_enter Try.func4, Try.ntmps4
        go_wp2_with (first
          | (go_at_call 6; refine (head02_any w).mono ?_; rintro e w1 ⟨rfl, hb1⟩)
          | (at_builtin; refine wpList_append_own_none rfl _ _ 22 rfl w1.heap.size 36 i0 1 Try.underlying22 hi _ _ _ rfl (lit0 w1).2 rfl ?_; have hb2 : Below w1.heap.size w1 (w1.alloc (.cells #[] 36)) := (Below.refl w1.heap.size w1).alloc (Nat.le_refl _) _; have hnm3 : Nums (w1.alloc (.cells #[] 36)) (some ⟨w1.heap.size, 0, none⟩) [] := ⟨by simp, .inl rfl⟩)
          | (go_at_call 9; refine (encAll_any [] _ _ _ _ rfl hnm3 (by omega)).mono ?_; rw [← HEE.out]; rintro e w4 ⟨v4, rfl, ho4, hb4'⟩; have hb4 : Below w1.heap.size w1 w4 := hb2.trans (hb4'.mono hb2.size); clear hb4'; obtain ⟨g4, cap4, rfl, hcap4, hby4⟩ := ho4.row HENE.out; clear ho4)
          | (go_at_call 11; refine (copy_at E _ _ _ _ rfl hby4 (by omega)).mono ?_; rintro e w6 ⟨v5, rfl, ho5, hb6⟩; obtain ⟨a6, cap6, rfl, hcap6, _, hby6, _⟩ := ho5.shape)
          | (at_builtin; refine wpList_append_own_none rfl _ _ 23 rfl w4.heap.size 5 i5 1 Try.underlying23 hi5 _ _ _ rfl ho5.2 rfl ?_)
          | (go_at_call_of 13 (cap6); refine (decAll_any E 0 _ _ _ _ rfl hby6 hcap6 (by omega) (by omega) (by omega)).mono ?_; rw [HBK2.out]; rintro e w7 ⟨v7, rfl, ho7, hb7⟩; obtain ⟨a7, cap7, rfl, hnm7⟩ := ho7.slice; clear ho7; have hbw6 : Below w.heap.size w w6 := below_next (below_next hb1 hb4) hb6; have hbw7 := below_next hbw6 hb7)
          | (go_at_call 10; refine (sameN_at [] [] _ _ _ _ _ _ _ rfl rfl hnm7 (HN.out.keep hbw7) (by unfold maxLen; simp; try omega) (by unfold maxLen; simp; try omega)).mono ?_; rw [decide_eq_true (rfl : [] = [])]; rintro e w8 ⟨rfl, nq, rfl⟩; have hbw8 := below_drewN hbw7 nq; have HE8 : Hid (Bytes (w7.drewN nq) (some ⟨g4, 0, none⟩) E) := ((hby4.keep hb6).keep hb7).drewN nq))
        go_ret
        exact ⟨rfl, hbw8⟩
      · have HBK2 : Hid (decAll (E ++ m) 0 = ([], E.length, 0)) := HBK.out m
        clear HBK
        go_enter Try.func4, Try.ntmps4
        go_wp2_with (first
          | (go_at_call 6; refine (head02_any w).mono ?_; rintro e w1 ⟨rfl, hb1⟩)
          | (at_builtin; refine wpList_append_own_none rfl _ _ 22 rfl w1.heap.size 36 i0 1 Try.underlying22 hi _ _ _ rfl (lit0 w1).2 rfl ?_; have hb2 : Below w1.heap.size w1 (w1.alloc (.cells #[] 36)) := (Below.refl w1.heap.size w1).alloc (Nat.le_refl _) _; have hnm3 : Nums (w1.alloc (.cells #[] 36)) (some ⟨w1.heap.size, 0, none⟩) [] := ⟨by simp, .inl rfl⟩)
          | (go_at_call 9; refine (encAll_any [] _ _ _ _ rfl hnm3 (by omega)).mono ?_; rw [← HEE.out]; rintro e w4 ⟨v4, rfl, ho4, hb4'⟩; have hb4 : Below w1.heap.size w1 w4 := hb2.trans (hb4'.mono hb2.size); clear hb4'; obtain ⟨g4, cap4, rfl, hcap4, hby4⟩ := ho4.row HENE.out; clear ho4)
          | (go_at_call 11; refine (copy_at E _ _ _ _ rfl hby4 (by omega)).mono ?_; rintro e w5 ⟨v5, rfl, ho5, hb5⟩; have HM5 : Hid (Bytes w5 (some x2) m) := ((HM.out.keep hb1).keep hb4).keep hb5)
          | (at_builtin; refine wpList_append_own _ rfl _ _ 23 rfl w4.heap.size 5 i5 (.int .u8 0) 1 1 Try.underlying23 hi5 hy0 hy1 hy2 rfl (by decide) _ _ _ rfl ho5.2 x2 m.length cap2 (B8 m) rfl (B8_length m) (bytes_cells HM5.out) (B8_one m) (by unfold maxLen; omega) (by omega) hb5.size ?_; intro v6 w6 ho6 hg6 _; have hb6' := grown_row (Below.refl w4.heap.size w5) ho5.2 hb5.size hg6; have hb6 : Below w4.heap.size w4 w6 := hb5.trans hb6'; clear hb6'; obtain ⟨a6, cap6, rfl, hcap6, _, hby6, _⟩ := (Own.append (getD_lt HEB.out) HM.out.1 ho6).shape; clear ho6 hg6 ho5)
          | (go_at_call_of 13 (cap6); refine (decAll_any (E ++ m) 0 _ _ _ _ HLA.out hby6 (by rw [← HLA.out]; exact hcap6) (by omega) (by omega) (by omega)).mono ?_; rw [HBK2.out]; rintro e w7 ⟨v7, rfl, ho7, hb7⟩; obtain ⟨a7, cap7, rfl, hnm7⟩ := ho7.slice; clear ho7; have hbw6 : Below w.heap.size w w6 := below_next (below_next hb1 hb4) hb6; have hbw7 := below_next hbw6 hb7)
          | (go_at_call 10; refine (sameN_at [] [] _ _ _ _ _ _ _ rfl rfl hnm7 (HN.out.keep hbw7) (by unfold maxLen; simp; try omega) (by unfold maxLen; simp; try omega)).mono ?_; rw [decide_eq_true (rfl : [] = [])]; rintro e w8 ⟨rfl, nq, rfl⟩; have hbw8 := below_drewN hbw7 nq; have HE8 : Hid (Bytes (w7.drewN nq) (some ⟨g4, 0, none⟩) E) := ((hby4.keep hb6).keep hb7).drewN nq))
        go_ret
        exact ⟨rfl, hbw8⟩
    · skip
      rcases ha2 with ⟨rfl, rfl, hnil2⟩ | ⟨x2, rfl⟩
      · subst hnil2
        have HBK2 : Hid (decAll E 0 = ([], E.length, 0)) := by
          have h := HBK.out []
          rw [List.append_nil] at h
          exact h
        clear HBK HLA hf2 hr2
        go_enter Try.func4, Try.ntmps4
        go_wp2_with (first
          | (go_at_call 6; refine (head02_any w).mono ?_; rintro e w1 ⟨rfl, hb1⟩; have hN1 : Nums (w1.alloc (.cells #[] 36)) (some x) [] := (HN.out.keep hb1).keep ((Below.refl _ _).alloc (Nat.le_refl _) _); have HN1 : Hid (Nums (w1.alloc (.cells #[] 36)) (some x) []) := hN1; clear hN1)
          | (at_builtin; refine wpList_append_own _ rfl _ _ 22 rfl w1.heap.size 36 i0 (.int .u64 0) 1 8 Try.underlying22 hi hz0 hz1 hz2 rfl (by decide) _ _ _ rfl (lit0 w1).2 x 0 cap (B64 []) rfl (B64_length []) (nums_cells HN1.out) (B64_one []) (by unfold maxLen; simp; try omega) (by simp; try omega) (by simp) ?_; intro v2 w2 ho2 hg2 _; have hb2 : Below w1.heap.size w1 w2 := ((Below.refl w1.heap.size w1).alloc (Nat.le_refl _) _).grown hg2 (by simp) (fun k hk => by cases hk; exact Nat.le_refl _); obtain ⟨a3, cap3, rfl, hnm3⟩ := (show Own64 w2 w1.heap.size v2 [] from ⟨HN.out.1, by simpa [B64] using ho2⟩).slice; clear ho2 hg2)
          | (go_at_call 9; refine (encAll_any [] _ _ _ _ rfl hnm3 (by omega)).mono ?_; rw [← HEE.out]; rintro e w4 ⟨v4, rfl, ho4, hb4'⟩; have hb4 : Below w1.heap.size w1 w4 := hb2.trans (hb4'.mono hb2.size); clear hb4'; obtain ⟨g4, cap4, rfl, hcap4, hby4⟩ := ho4.row HENE.out; clear ho4)
          | (go_at_call 11; refine (copy_at E _ _ _ _ rfl hby4 (by omega)).mono ?_; rintro e w6 ⟨v5, rfl, ho5, hb6⟩; obtain ⟨a6, cap6, rfl, hcap6, _, hby6, _⟩ := ho5.shape)
          | (at_builtin; refine wpList_append_own_none rfl _ _ 23 rfl w4.heap.size 5 i5 1 Try.underlying23 hi5 _ _ _ rfl ho5.2 rfl ?_)
          | (go_at_call_of 13 (cap6); refine (decAll_any E 0 _ _ _ _ rfl hby6 hcap6 (by omega) (by omega) (by omega)).mono ?_; rw [HBK2.out]; rintro e w7 ⟨v7, rfl, ho7, hb7⟩; obtain ⟨a7, cap7, rfl, hnm7⟩ := ho7.slice; clear ho7; have hbw6 : Below w.heap.size w w6 := below_next (below_next hb1 hb4) hb6; have hbw7 := below_next hbw6 hb7)
          | (go_at_call 10; refine (sameN_at [] [] _ _ _ _ _ _ _ rfl rfl hnm7 (HN.out.keep hbw7) (by unfold maxLen; simp; try omega) (by unfold maxLen; simp; try omega)).mono ?_; rw [decide_eq_true (rfl : [] = [])]; rintro e w8 ⟨rfl, nq, rfl⟩; have hbw8 := below_drewN hbw7 nq; have HE8 : Hid (Bytes (w7.drewN nq) (some ⟨g4, 0, none⟩) E) := ((hby4.keep hb6).keep hb7).drewN nq))
        go_ret
        exact ⟨rfl, hbw8⟩
      · have HBK2 : Hid (decAll (E ++ m) 0 = ([], E.length, 0)) := HBK.out m
        clear HBK
        go_enter Try.func4, Try.ntmps4
        go_wp2_with (first
          | (go_at_call 6; refine (head02_any w).mono ?_; rintro e w1 ⟨rfl, hb1⟩; have hN1 : Nums (w1.alloc (.cells #[] 36)) (some x) [] := (HN.out.keep hb1).keep ((Below.refl _ _).alloc (Nat.le_refl _) _); have HN1 : Hid (Nums (w1.alloc (.cells #[] 36)) (some x) []) := hN1; clear hN1)
          | (at_builtin; refine wpList_append_own _ rfl _ _ 22 rfl w1.heap.size 36 i0 (.int .u64 0) 1 8 Try.underlying22 hi hz0 hz1 hz2 rfl (by decide) _ _ _ rfl (lit0 w1).2 x 0 cap (B64 []) rfl (B64_length []) (nums_cells HN1.out) (B64_one []) (by unfold maxLen; simp; try omega) (by simp; try omega) (by simp) ?_; intro v2 w2 ho2 hg2 _; have hb2 : Below w1.heap.size w1 w2 := ((Below.refl w1.heap.size w1).alloc (Nat.le_refl _) _).grown hg2 (by simp) (fun k hk => by cases hk; exact Nat.le_refl _); obtain ⟨a3, cap3, rfl, hnm3⟩ := (show Own64 w2 w1.heap.size v2 [] from ⟨HN.out.1, by simpa [B64] using ho2⟩).slice; clear ho2 hg2)
          | (go_at_call 9; refine (encAll_any [] _ _ _ _ rfl hnm3 (by omega)).mono ?_; rw [← HEE.out]; rintro e w4 ⟨v4, rfl, ho4, hb4'⟩; have hb4 : Below w1.heap.size w1 w4 := hb2.trans (hb4'.mono hb2.size); clear hb4'; obtain ⟨g4, cap4, rfl, hcap4, hby4⟩ := ho4.row HENE.out; clear ho4)
          | (go_at_call 11; refine (copy_at E _ _ _ _ rfl hby4 (by omega)).mono ?_; rintro e w5 ⟨v5, rfl, ho5, hb5⟩; have HM5 : Hid (Bytes w5 (some x2) m) := ((HM.out.keep hb1).keep hb4).keep hb5)
          | (at_builtin; refine wpList_append_own _ rfl _ _ 23 rfl w4.heap.size 5 i5 (.int .u8 0) 1 1 Try.underlying23 hi5 hy0 hy1 hy2 rfl (by decide) _ _ _ rfl ho5.2 x2 m.length cap2 (B8 m) rfl (B8_length m) (bytes_cells HM5.out) (B8_one m) (by unfold maxLen; omega) (by omega) hb5.size ?_; intro v6 w6 ho6 hg6 _; have hb6' := grown_row (Below.refl w4.heap.size w5) ho5.2 hb5.size hg6; have hb6 : Below w4.heap.size w4 w6 := hb5.trans hb6'; clear hb6'; obtain ⟨a6, cap6, rfl, hcap6, _, hby6, _⟩ := (Own.append (getD_lt HEB.out) HM.out.1 ho6).shape; clear ho6 hg6 ho5)
          | (go_at_call_of 13 (cap6); refine (decAll_any (E ++ m) 0 _ _ _ _ HLA.out hby6 (by rw [← HLA.out]; exact hcap6) (by omega) (by omega) (by omega)).mono ?_; rw [HBK2.out]; rintro e w7 ⟨v7, rfl, ho7, hb7⟩; obtain ⟨a7, cap7, rfl, hnm7⟩ := ho7.slice; clear ho7; have hbw6 : Below w.heap.size w w6 := below_next (below_next hb1 hb4) hb6; have hbw7 := below_next hbw6 hb7)
          | (go_at_call 10; refine (sameN_at [] [] _ _ _ _ _ _ _ rfl rfl hnm7 (HN.out.keep hbw7) (by unfold maxLen; simp; try omega) (by unfold maxLen; simp; try omega)).mono ?_; rw [decide_eq_true (rfl : [] = [])]; rintro e w8 ⟨rfl, nq, rfl⟩; have hbw8 := below_drewN hbw7 nq; have HE8 : Hid (Bytes (w7.drewN nq) (some ⟨g4, 0, none⟩) E) := ((hby4.keep hb6).keep hb7).drewN nq))
        go_ret
        exact ⟨rfl, hbw8⟩
  · have hl2 : 0 < l.length := by rcases hl0 with h | h; exact absurd (List.length_eq_zero_iff.1 h) hl1; exact h
    have HLW2 : Hid (_ = _) := HLW.out hl2
    obtain ⟨x, rfl⟩ : ∃ x, a = some x := by
      rcases ha with ⟨_, _, h⟩ | h
      · exact absurd h hl1
      · exact h
    clear HLW hl0 hl1 ha
    rcases ha2 with ⟨rfl, rfl, hnil2⟩ | ⟨x2, rfl⟩
    · subst hnil2
      have HBK2 : Hid (decAll E (l.length : Int) = (l, E.length, 0)) := by
        have h := HBK.out []
        rw [List.append_nil] at h
        exact h
      clear HBK HLA hf2 hr2
      go_enter Try.func4, Try.ntmps4
      go_wp2_with (first
        | (go_at_call 6; refine (head02_any w).mono ?_; rintro e w1 ⟨rfl, hb1⟩; have hN1 : Nums (w1.alloc (.cells #[] 36)) (some x) l := (HN.out.keep hb1).keep ((Below.refl _ _).alloc (Nat.le_refl _) _); have HN1 : Hid (Nums (w1.alloc (.cells #[] 36)) (some x) l) := hN1; clear hN1)
        | (at_builtin; refine wpList_append_own _ rfl _ _ 22 rfl w1.heap.size 36 i0 (.int .u64 0) 1 8 Try.underlying22 hi hz0 hz1 hz2 rfl (by decide) _ _ _ rfl (lit0 w1).2 x l.length cap (B64 l) rfl (B64_length l) (nums_cells HN1.out) (B64_one l) (by unfold maxLen; simp; try omega) (by simp; try omega) (by simp) ?_; intro v2 w2 ho2 hg2 _; have hb2 : Below w1.heap.size w1 w2 := ((Below.refl w1.heap.size w1).alloc (Nat.le_refl _) _).grown hg2 (by simp) (fun k hk => by cases hk; exact Nat.le_refl _); obtain ⟨a3, cap3, rfl, hnm3⟩ := (show Own64 w2 w1.heap.size v2 l from ⟨HN.out.1, by simpa [B64] using ho2⟩).slice; clear ho2 hg2)
        | (go_at_call 9; refine (encAll_any l _ _ _ _ rfl hnm3 (by omega)).mono ?_; rw [← HEE.out]; rintro e w4 ⟨v4, rfl, ho4, hb4'⟩; have hb4 : Below w1.heap.size w1 w4 := hb2.trans (hb4'.mono hb2.size); clear hb4'; obtain ⟨g4, cap4, rfl, hcap4, hby4⟩ := ho4.row HENE.out; clear ho4)
        | (go_at_call 11; refine (copy_at E _ _ _ _ rfl hby4 (by omega)).mono ?_; rintro e w6 ⟨v5, rfl, ho5, hb6⟩; obtain ⟨a6, cap6, rfl, hcap6, _, hby6, _⟩ := ho5.shape)
        | (at_builtin; refine wpList_append_own_none rfl _ _ 23 rfl w4.heap.size 5 i5 1 Try.underlying23 hi5 _ _ _ rfl ho5.2 rfl ?_)
        | (go_at_call_of 13 (cap6); refine (decAll_any E (l.length : Int) _ _ _ _ rfl hby6 hcap6 (by omega) (by omega) (by omega)).mono ?_; rw [HBK2.out]; rintro e w7 ⟨v7, rfl, ho7, hb7⟩; obtain ⟨a7, cap7, rfl, hnm7⟩ := ho7.slice; clear ho7; have hbw6 : Below w.heap.size w w6 := below_next (below_next hb1 hb4) hb6; have hbw7 := below_next hbw6 hb7)
        | (go_at_call 10; refine (sameN_at l l _ _ _ _ _ _ _ rfl rfl hnm7 (HN.out.keep hbw7) (by unfold maxLen; simp; try omega) (by unfold maxLen; simp; try omega)).mono ?_; rw [decide_eq_true (rfl : l = l)]; rintro e w8 ⟨rfl, nq, rfl⟩; have hbw8 := below_drewN hbw7 nq; have HE8 : Hid (Bytes (w7.drewN nq) (some ⟨g4, 0, none⟩) E) := ((hby4.keep hb6).keep hb7).drewN nq)
        | (go_at_call 13; refine (decAll_any E ((l.length : Int) - 1) _ _ _ _ rfl HE8.out hcap4 (by omega) (by omega) (by omega)).mono ?_; rw [HLW2.out]; rintro e w9 ⟨v9, rfl, ho9, hb9⟩; obtain ⟨a9, cap9, rfl, hnm9⟩ := ho9.slice))
      go_ret
      exact ⟨rfl, below_next hbw8 hb9⟩
    · have HBK2 : Hid (decAll (E ++ m) (l.length : Int) = (l, E.length, 0)) := HBK.out m
      clear HBK
      go_enter Try.func4, Try.ntmps4
      go_wp2_with (first
        | (go_at_call 6; refine (head02_any w).mono ?_; rintro e w1 ⟨rfl, hb1⟩; have hN1 : Nums (w1.alloc (.cells #[] 36)) (some x) l := (HN.out.keep hb1).keep ((Below.refl _ _).alloc (Nat.le_refl _) _); have HN1 : Hid (Nums (w1.alloc (.cells #[] 36)) (some x) l) := hN1; clear hN1)
        | (at_builtin; refine wpList_append_own _ rfl _ _ 22 rfl w1.heap.size 36 i0 (.int .u64 0) 1 8 Try.underlying22 hi hz0 hz1 hz2 rfl (by decide) _ _ _ rfl (lit0 w1).2 x l.length cap (B64 l) rfl (B64_length l) (nums_cells HN1.out) (B64_one l) (by unfold maxLen; simp; try omega) (by simp; try omega) (by simp) ?_; intro v2 w2 ho2 hg2 _; have hb2 : Below w1.heap.size w1 w2 := ((Below.refl w1.heap.size w1).alloc (Nat.le_refl _) _).grown hg2 (by simp) (fun k hk => by cases hk; exact Nat.le_refl _); obtain ⟨a3, cap3, rfl, hnm3⟩ := (show Own64 w2 w1.heap.size v2 l from ⟨HN.out.1, by simpa [B64] using ho2⟩).slice; clear ho2 hg2)
        | (go_at_call 9; refine (encAll_any l _ _ _ _ rfl hnm3 (by omega)).mono ?_; rw [← HEE.out]; rintro e w4 ⟨v4, rfl, ho4, hb4'⟩; have hb4 : Below w1.heap.size w1 w4 := hb2.trans (hb4'.mono hb2.size); clear hb4'; obtain ⟨g4, cap4, rfl, hcap4, hby4⟩ := ho4.row HENE.out; clear ho4)
        | (go_at_call 11; refine (copy_at E _ _ _ _ rfl hby4 (by omega)).mono ?_; rintro e w5 ⟨v5, rfl, ho5, hb5⟩; have HM5 : Hid (Bytes w5 (some x2) m) := ((HM.out.keep hb1).keep hb4).keep hb5)
        | (at_builtin; refine wpList_append_own _ rfl _ _ 23 rfl w4.heap.size 5 i5 (.int .u8 0) 1 1 Try.underlying23 hi5 hy0 hy1 hy2 rfl (by decide) _ _ _ rfl ho5.2 x2 m.length cap2 (B8 m) rfl (B8_length m) (bytes_cells HM5.out) (B8_one m) (by unfold maxLen; omega) (by omega) hb5.size ?_; intro v6 w6 ho6 hg6 _; have hb6' := grown_row (Below.refl w4.heap.size w5) ho5.2 hb5.size hg6; have hb6 : Below w4.heap.size w4 w6 := hb5.trans hb6'; clear hb6'; obtain ⟨a6, cap6, rfl, hcap6, _, hby6, _⟩ := (Own.append (getD_lt HEB.out) HM.out.1 ho6).shape; clear ho6 hg6 ho5)
        | (go_at_call_of 13 (cap6); refine (decAll_any (E ++ m) (l.length : Int) _ _ _ _ HLA.out hby6 (by rw [← HLA.out]; exact hcap6) (by omega) (by omega) (by omega)).mono ?_; rw [HBK2.out]; rintro e w7 ⟨v7, rfl, ho7, hb7⟩; obtain ⟨a7, cap7, rfl, hnm7⟩ := ho7.slice; clear ho7; have hbw6 : Below w.heap.size w w6 := below_next (below_next hb1 hb4) hb6; have hbw7 := below_next hbw6 hb7)
        | (go_at_call 10; refine (sameN_at l l _ _ _ _ _ _ _ rfl rfl hnm7 (HN.out.keep hbw7) (by unfold maxLen; simp; try omega) (by unfold maxLen; simp; try omega)).mono ?_; rw [decide_eq_true (rfl : l = l)]; rintro e w8 ⟨rfl, nq, rfl⟩; have hbw8 := below_drewN hbw7 nq; have HE8 : Hid (Bytes (w7.drewN nq) (some ⟨g4, 0, none⟩) E) := ((hby4.keep hb6).keep hb7).drewN nq)
        | (go_at_call 13; refine (decAll_any E ((l.length : Int) - 1) _ _ _ _ rfl HE8.out hcap4 (by omega) (by omega) (by omega)).mono ?_; rw [HLW2.out]; rintro e w9 ⟨v9, rfl, ho9, hb9⟩; obtain ⟨a9, cap9, rfl, hnm9⟩ := ho9.slice))
      go_ret
      exact ⟨rfl, below_next hbw8 hb9⟩
theorem own : ownKnob Try.prog.godebug = none := by kernel_rfl
theorem laidOut : laidOutB Try.prog = true := by kernel_rfl
set_option maxRecDepth 100000 in
theorem contract (H : Type) (enc : TypeId × Value → H) (W : World) (base : Nat) (args : Array Value) (ds gs : List (DataW H)) (before : List MemPlace)
    (hval : ∀ (j : Nat) t v, Try.f4.params[j]? = some t → args[j]? = some v → Value.okWide Try.prog W .any base t v)
    (hW : DataW.Whole enc Try.prog Try.f4.params.toList Rows.varintListBackSpec.vars false W args.toList ds gs before)
    (hsz : (DataW.weightsEach Try.prog (Try.f4.params.toList ++ Rows.varintListBackSpec.plain.varTypes Try.prog) (ds ++ gs)).all (· ≤ reachBytes) = true) (hk : Rows.uptoSmall H (ds ++ gs) = true) :
    Calls Try.prog 4 args W fun e W' => ∃ v, e = .returned v ∧ Rows.varintListBackSpec.post enc Try.prog Try.f4 false true false false W args v W' := by
  have hW' := hW
  obtain ⟨p, q, hA0, hV, rfl, hfz, hnd⟩ := hW
  have hA : DataW.TrodAll enc Try.prog W 0 (fun _ => true) true Try.f4.params.toList args.toList ds p := hA0
  rw [Try.params4] at hA hval hsz
  obtain ⟨v0, vs0, d0, ds0, p0, q0, hargs, rfl, rfl, h0, r0⟩ := trodAll_cons hA
  obtain ⟨v1, vs1, d1, ds1, p1, q1, rfl, rfl, rfl, h1, r1⟩ := trodAll_cons r0
  obtain ⟨rfl, rfl, rfl⟩ := trodAll_nil r1
  obtain rfl : args = #[v0, v1] := by cases args; simp_all
  obtain ⟨rfl, rfl⟩ := trodVars_none hV
  obtain ⟨a0, len0, cap0, rfl⟩ := okWide_slice Try.underlying22 (hval 0 22 v0 rfl rfl)
  have k0 := h0
  have lt0 : ∀ x ∈ p0, x.block < W.heap.size := by obtain ⟨m, hm⟩ := k0; exact DataW.trod_lt m _ _ _ hm
  obtain ⟨l0, hlen0, w0, c0, u0⟩ : ∃ l : List Nat, l.length = len0 ∧ Nums W a0 l ∧ Came W a0 len0 cap0 8 ∧ cap0 + 1 ≤ Rows.uptoBulk d0 := by
    obtain ⟨fuel, hf⟩ := h0
    rcases open_ints Try.underlying22 Try.underlying36 (by kernel_rfl) hf with ⟨hcs, hx⟩ | ⟨x, l, c, zs, hcs, _, hl, hm, hz, hx, hcell, hwz⟩
    · simp [Value.cells] at hcs
      obtain ⟨rfl, rfl, rfl⟩ := hcs
      obtain ⟨rfl, rfl⟩ := Prod.mk.inj hx
      exact ⟨[], rfl, ⟨by simp, .inl rfl⟩, ⟨Nat.le_refl _, by simp, fun _ => rfl⟩, by simp [Rows.uptoBulk]⟩
    · simp [Value.cells] at hcs
      obtain ⟨rfl, rfl, rfl⟩ := hcs
      have hz2 : zs.length = cap0 := by simpa using hz
      obtain ⟨ll, e1, e2, e3⟩ := row_nats .u64 18446744073709551616 (by decide) wf_u64 W x zs len0 (by omega) hcell hwz
      have hd : d0 = .slice (lits .u64 (zs.take len0)) (lits .u64 (zs.drop len0)) := (Prod.mk.inj hx).1
      have hreach : cap0 * 8 ≤ 140737488351232 := by
        have := sized_slice hsz (j := 0) (t := 22) (e := 36) rfl (by rw [hd]; rfl) Try.underlying22
        rw [show Try.prog.bytesOf 36 = 8 from by kernel_rfl] at this
        simp only [lits, List.length_map, List.length_take, List.length_drop, reachBytes] at this
        have hmin : min len0 zs.length = len0 := Nat.min_eq_left (by omega)
        rw [hmin] at this
        have hcap : len0 + (zs.length - len0) = cap0 := by omega
        rw [hcap] at this
        exact this
      refine ⟨ll, e1, ⟨e2, e3⟩, ⟨hl, hreach, fun h => by cases h⟩, ?_⟩
      rw [hd]
      have := bulks.slice_le (lits (H := H) .u64 (zs.take len0)) (lits .u64 (zs.drop len0))
      simp only [lits, List.length_map, List.length_take, List.length_drop] at this ⊢
      omega
  subst hlen0
  obtain ⟨a1, len1, cap1, rfl⟩ := okWide_slice Try.underlying23 (hval 1 23 v1 rfl rfl)
  have k1 := h1
  have lt1 : ∀ x ∈ p1, x.block < W.heap.size := by obtain ⟨m, hm⟩ := k1; exact DataW.trod_lt m _ _ _ hm
  obtain ⟨l1, hlen1, w1, c1, u1⟩ : ∃ l : List Nat, l.length = len1 ∧ Bytes W a1 l ∧ Came W a1 len1 cap1 1 ∧ cap1 + 1 ≤ Rows.uptoBulk d1 := by
    obtain ⟨fuel, hf⟩ := h1
    rcases open_ints Try.underlying23 Try.underlying5 (by kernel_rfl) hf with ⟨hcs, hx⟩ | ⟨x, l, c, zs, hcs, _, hl, hm, hz, hx, hcell, hwz⟩
    · simp [Value.cells] at hcs
      obtain ⟨rfl, rfl, rfl⟩ := hcs
      obtain ⟨rfl, rfl⟩ := Prod.mk.inj hx
      exact ⟨[], rfl, ⟨by simp, .inl rfl⟩, ⟨Nat.le_refl _, by simp, fun _ => rfl⟩, by simp [Rows.uptoBulk]⟩
    · simp [Value.cells] at hcs
      obtain ⟨rfl, rfl, rfl⟩ := hcs
      have hz2 : zs.length = cap1 := by simpa using hz
      obtain ⟨ll, e1, e2, e3⟩ := row_nats .u8 256 (by decide) wf_u8 W x zs len1 (by omega) hcell hwz
      have hd : d1 = .slice (lits .u8 (zs.take len1)) (lits .u8 (zs.drop len1)) := (Prod.mk.inj hx).1
      have hreach : cap1 * 1 ≤ 140737488351232 := by
        have := sized_slice hsz (j := 1) (t := 23) (e := 5) rfl (by rw [hd]; rfl) Try.underlying23
        rw [show Try.prog.bytesOf 5 = 1 from by kernel_rfl] at this
        simp only [lits, List.length_map, List.length_take, List.length_drop, reachBytes] at this
        have hmin : min len1 zs.length = len1 := Nat.min_eq_left (by omega)
        rw [hmin] at this
        have hcap : len1 + (zs.length - len1) = cap1 := by omega
        rw [hcap] at this
        exact this
      refine ⟨ll, e1, ⟨e2, e3⟩, ⟨hl, hreach, fun h => by cases h⟩, ?_⟩
      rw [hd]
      have := bulks.slice_le (lits (H := H) .u8 (zs.take len1)) (lits .u8 (zs.drop len1))
      simp only [lits, List.length_map, List.length_take, List.length_drop] at this ⊢
      omega
  subst hlen1
  have hbk := bulks.bound hk
  simp only [List.append_nil, Rows.uptoBulkAll] at hbk
  have hsum : cap0 + cap1 ≤ 1048576 := by omega
  clear hA0
  refine (walk l0 a0 cap0 l1 a1 cap1 W w0 c0 w1 c1 hsum).mono fun e W' ⟨he, bel⟩ => ?_
  subst he
  exact ⟨_, rfl, _, _, _, [], _, [], hW', trodAll_mk1 (shut_bool Try.underlying4 _), (trodAll_cons_mk (Below.trod laidOut (by kernel_rfl) (of_decide_eq_true (by kernel_rfl)) k0 bel lt0) (trodAll_cons_mk (Below.trod laidOut (by kernel_rfl) (of_decide_eq_true (by kernel_rfl)) k1 bel lt1) trodAll_mk0)), rfl, bel.frame _, fun h => by cases h⟩
set_option maxRecDepth 100000 in
theorem lifted (os : Os) (started : os.Started) (H : Type) (enc : TypeId × Value → H) (F : Stop.Interp) :
    ReturnsInHanded {} Try.checked os 4 .any ((Rows.OpenSpec.upto Rows.varintListBackSpec).pre6 enc Try.prog Try.f4 Rows.varintListBackUptoRow.domain false) (((Rows.OpenSpec.upto Rows.varintListBackSpec).at F).post enc Try.prog Try.f4 false true false false) := by
  refine returnsInHanded_of_cond_sized (C := Try.checked) (s := Rows.OpenSpec.upto Rows.varintListBackSpec) (k := Rows.uptoSmall) rfl own started (by kernel_rfl) Try.func4
    (OpenSpec.witness (enc := enc) (C := Try.checked) (s := Rows.OpenSpec.upto Rows.varintListBackSpec) (k := Rows.uptoSmall) rfl false ⟨#[], #[.slice none 0 0, .slice none 0 0], []⟩ 8 (by kernel_rfl) (by kernel_rfl) (by kernel_rfl)
      (x := ([.nil, .nil], [], [])) (by kernel_rfl) rfl (by kernel_rfl)) ?_
  intro W base args ds gs before hval hW _ hk hsz _
  exact contract H enc W base args ds gs before hval hW hsz hk
theorem over : Rows.varintListBackUptoRow.holds Try.pinned (Rows.OpenSpec.upto Rows.varintListBackSpec) :=
  OpenClaim.holds_of_cond 4 Try.f4 rfl rfl rfl rfl rfl rfl rfl ⟨rfl, rfl, rfl, rfl, rfl⟩ rfl rfl rfl rfl rfl (by kernel_rfl) Try.func4 (by kernel_rfl)
    (of_decide_eq_true (by kernel_rfl)) (by unfold Func.isWrapper; first | (rw [if_pos (by decide +kernel)]; kernel_rfl) | (rw [if_neg (by decide +kernel)]; exact ⟨rfl, rfl⟩))
    (fun os started H enc _ F => lifted os started H enc F)
theorem proved : Rows.VarintListBackUptoSaid := over
end Go.Proofs.Ytenekcnccmghhac.varintListBack
