/- What the reference's Valid and Same, and the law's copyOf, answer. -/
import Derived.Test.YtifackbilmkjlaaMkV
import Derived.Test.YtifackbilmkjlaaSame
import Derived.Laws.AppendOwnNone
namespace Go.Proofs.Ytifackbilmkjlaa
open Go.ChangeShapes Go.WideShapes Go.ChangeAt Go.RowKit
set_option linter.unusedVariables false
theorem below_drewN {B : Nat} {w w' : World} (h : Below B w w') (n : Nat) : Below B w (w'.drewN n) := by
  induction n with
  | zero => exact h
  | succ n ih => exact ih.drew
set_option maxRecDepth 20000 in
set_option maxHeartbeats 2000000 in
theorem msame_any (L M : List Mk) (n m : Nat) (a a' : Option Addr) (cap cap' : Nat) (w : World) (hn : L.length = n) (hm : M.length = m) (h1 : Marks w a L) (h2 : Marks w a' M) (hl : n ≤ maxLen) (hl' : m ≤ maxLen) :
    Calls Try.prog 15 #[.slice a n cap, .slice a' m cap'] w fun e w' => e = .returned (.bool (decide (L = M))) ∧ Below w.heap.size w w' := by
  unfold maxLen at hl hl'
  by_cases hne : n = m
  · subst hne
    have HN : Hid (L.length = n ∧ M.length = n) := ⟨hn, hm⟩
    rcases h1 with rfl | ⟨b, off, rfl, hlt1, hc1⟩
    · obtain rfl : n = 0 := by simpa using hn.symm
      have h0 : M = [] := List.length_eq_zero_iff.1 hm
      subst h0
      clear hn hm
      go_enter Try.func15, Try.ntmps15
      go_wp2
      refine wp_loop_rounds 1 ?_
      rw [rounds_succ]
      go_wp2
      go_ret
      exact ⟨rfl, Below.refl _ _⟩
    · rcases h2 with rfl | ⟨b', off', rfl, hlt2, hc2⟩
      · obtain rfl : n = 0 := by simpa using hm.symm
        have h0 : L = [] := List.length_eq_zero_iff.1 hn
        subst h0
        clear hn hm
        go_enter Try.func15, Try.ntmps15
        go_wp2
        refine wp_loop_rounds 1 ?_
        rw [rounds_succ]
        go_wp2
        go_ret
        exact ⟨rfl, Below.refl _ _⟩
      · clear hn hm
        go_enter Try.func15, Try.ntmps15
        go_wp2
        go_loopw [13] (fun i wr => ∃ k n0 : Nat, k ≤ n ∧ i = .int .i64 k ∧ wr = w.drewN n0 ∧ L.take k = M.take k) (fun i _ => n - (intOf i).toNat)
        case atStart => exact ⟨0, 0, Nat.zero_le _, rfl, rfl, rfl⟩
        case round =>
          obtain ⟨k, n0, hk, rfl, rfl, hj⟩ := hrel
          have HJ : Hid (L.take k = M.take k) := hj
          clear hj
          by_cases hkn : k < n
          · obtain ⟨⟨x, z⟩, hp⟩ := get_of_lt (L := L) (k := k) (by rw [HN.out.1]; exact hkn)
            obtain ⟨⟨x', z'⟩, hp'⟩ := get_of_lt (L := M) (k := k) (by rw [HN.out.2]; exact hkn)
            obtain ⟨c0, c1⟩ := Marks.cells hc1 k (x, z) hp
            obtain ⟨d0, d1⟩ := Marks.cells hc2 k (x', z') hp'
            simp only at c0 c1 d0 d1
            have HP : Hid (L[k]? = some (x, z) ∧ M[k]? = some (x', z')) := ⟨hp, hp'⟩
            clear hp hp' hc1 hc2
            by_cases hx : x = x'
            · by_cases hz : z = z'
              · subst hx hz
                go_wp2
                go_quiet (fail)
                go_wp2
                go_roundw
                case rel =>
                  refine ⟨k + 1, n0 + nq, by omega, by go_num, by first | rfl | exact drewN_add _ _ _, ?_⟩
                  rw [take_get _ _ _ HP.out.1, take_get _ _ _ HP.out.2, HJ.out]
                case measure => simp [intOf]; omega
              · have HF : Hid (decide (L = M) = false) := by
                  show _ = _
                  rw [decide_eq_false_iff_not]
                  rintro rfl
                  have h := HP.out.1.symm.trans HP.out.2
                  simp at h
                  omega
                subst hx
                go_wp2
                go_quiet (fail)
                go_wp2
                go_ret
                exact ⟨ret_bool (by rw [HF.out]), below_drewN (below_drewN (Below.refl _ _) _) _⟩
            · have HF : Hid (decide (L = M) = false) := by
                show _ = _
                rw [decide_eq_false_iff_not]
                rintro rfl
                have h := HP.out.1.symm.trans HP.out.2
                simp at h
                omega
              go_wp2
              go_quiet (fail)
              go_wp2
              go_ret
              exact ⟨ret_bool (by rw [HF.out]), below_drewN (below_drewN (Below.refl _ _) _) _⟩
          · have HT : Hid (decide (L = M) = true) := by
              show _ = _
              rw [decide_eq_true_iff]
              have h := HJ.out
              rwa [List.take_of_length_le (by rw [HN.out.1]; omega), List.take_of_length_le (by rw [HN.out.2]; omega)] at h
            clear hc1 hc2
            go_wp2
            go_ret
            exact ⟨ret_bool (by rw [HT.out]), below_drewN (Below.refl _ _) _⟩
  · have hnb : ((n : Int) != (m : Int)) = true := by simp; omega
    have HF : Hid (decide (L = M) = false) := by
      show _ = _
      rw [decide_eq_false_iff_not]
      rintro rfl
      omega
    clear hn hm h1 h2 hne
    go_enter Try.func15, Try.ntmps15
    go_wp2
    go_ret
    exact ⟨ret_bool (by rw [HF.out]), Below.refl _ _⟩
set_option maxRecDepth 20000 in
set_option maxHeartbeats 2000000 in
theorem copyOf_any (L : List Mk) (n : Nat) (a : Option Addr) (cap : Nat) (w : World) (hn : L.length = n) (hm : Marks w a L) (h0 : a = none → L = []) (hl : n * 16 ≤ 140737488351232) :
    Calls Try.prog 17 #[.slice a n cap] w fun e w' => ∃ v, e = .returned v ∧ OwnM w' w.heap.size v L ∧ Below w.heap.size w w' := by
  obtain ⟨i0, hi, hz0, hz1, hz2⟩ := info_parts Try.infoMk
  have HN : Hid (L.length = n) := hn
  have ha : (a = none ∧ L = []) ∨ ∃ x, a = some x := by
    cases a with
    | none => exact .inl ⟨rfl, h0 rfl⟩
    | some x => exact .inr ⟨x, rfl⟩
  clear h0
  rcases ha with ⟨rfl, rfl⟩ | ⟨x, rfl⟩
  · obtain rfl : n = 0 := by simpa using hn.symm
    clear hn hl hm
    go_enter Try.func17, Try.ntmps17
    go_wp2_with (at_builtin; refine wpList_append_own_none rfl _ _ 27 rfl w.heap.size 34 i0 2 Try.underlying27 hi _ _ _ rfl (OwnM.lit w) rfl ?_)
    go_ret
    exact ⟨_, rfl, OwnM.lit w, (Below.refl _ _).alloc (Nat.le_refl _) _⟩
  · have HM : Hid (Marks (w.alloc (.cells #[] 34)) (some x) L) := hm.keep ((Below.refl _ _).alloc (Nat.le_refl _) _)
    have HLN : Hid ((mfl L).length = n * 2) := by show _ = _; rw [mfl_length, hn]
    clear hn hm
    go_enter Try.func17, Try.ntmps17
    go_wp2_with (at_builtin; refine wpList_append_own _ rfl _ _ 27 rfl w.heap.size 34 i0 (.agg #[.int .i64 0, .int .i64 0]) 2 16 Try.underlying27 hi hz0 hz1 hz2 rfl (by decide) _ _ _ rfl (OwnM.lit w) x n cap (mfl L) rfl HLN.out (Marks.all HM.out) (mfl_one L) (by unfold maxLen; simp; try omega) (by simp; try omega) (by simp) ?_; intro v2 w2 ho2 hg2 _; have hb2 : Below w.heap.size w w2 := ((Below.refl w.heap.size w).alloc (Nat.le_refl _) _).grown hg2 (by simp) (fun k hk => by cases hk; exact Nat.le_refl _); clear hg2)
    go_ret
    exact ⟨_, rfl, by unfold OwnM; rw [HN.out]; simpa [mfl] using ho2, hb2⟩
end Go.Proofs.Ytifackbilmkjlaa
