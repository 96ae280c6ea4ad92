/- Own texts, joined: Mf1. -/
import Derived.Test.YtnfkdgjgglnniaaDoorK06
namespace Go.Proofs.YtnfkdgjgglnniaaDoor
open Go.ChangeShapes Go.WideShapes Go.ChangeAt Go.RowKit
set_option linter.unusedVariables false
set_option maxRecDepth 20000 in
theorem mwithin_yes (a x b : Int) (w : World) (h1 : a ≤ x) (h2 : x ≤ b) : Calls Tryd.prog 41 #[.int .i64 a, .int .i64 x, .int .i64 b] w fun e w' => e = .returned (.bool true) ∧ w = w' := by
  go_enter Tryd.func41, Tryd.ntmps41
  go_wp2
  go_ret
  exact ⟨rfl, rfl⟩
set_option maxRecDepth 20000 in
theorem mwithin_no (a x b : Int) (w : World) (h : ¬ (a ≤ x ∧ x ≤ b)) : Calls Tryd.prog 41 #[.int .i64 a, .int .i64 x, .int .i64 b] w fun e w' => e = .returned (.bool false) ∧ w = w' := by
  by_cases h1 : a ≤ x
  · have h2 : ¬ x ≤ b := fun h2 => h ⟨h1, h2⟩
    clear h
    go_enter Tryd.func41, Tryd.ntmps41
    go_wp2
    go_ret
    exact ⟨rfl, rfl⟩
  · clear h
    go_enter Tryd.func41, Tryd.ntmps41
    go_wp2
    go_ret
    exact ⟨rfl, rfl⟩
theorem mwithin_any (a x b : Int) (w : World) : Calls Tryd.prog 41 #[.int .i64 a, .int .i64 x, .int .i64 b] w fun e w' => e = .returned (.bool (decide (a ≤ x ∧ x ≤ b))) ∧ w = w' := by
  by_cases h : a ≤ x ∧ x ≤ b
  · rw [decide_eq_true h]; exact mwithin_yes a x b w h.1 h.2
  · rw [decide_eq_false h]; exact mwithin_no a x b w h
set_option maxRecDepth 20000 in
set_option maxHeartbeats 1000000 in
theorem mrend_any (s : Sm) (act : Bool) (w : World) : Calls Tryd.prog 42 #[SmV s, .bool act] w fun e w' => e = .returned (.bool (endB s act)) ∧ Below w.heap.size w w' := by
  obtain ⟨x, y, c, f⟩ := s
  simp only [SmV]
  cases act with
  | true =>
    by_cases h1 : c = 0
    · subst h1
      by_cases h2 : f = 0
      · subst h2
        by_cases h3 : y ≤ 1099511627777
        · have HF : Hid (endB ⟨x, y, 0, 0⟩ true = true) := by show _ = _; simp [endB]; omega
          go_enter Tryd.func42, Tryd.ntmps42
          go_wp2
          go_ret
          exact ⟨by rw [HF.out]; rfl, (Below.refl _ _).alloc (Nat.le_refl _) _⟩
        · have HF : Hid (endB ⟨x, y, 0, 0⟩ true = false) := by show _ = _; simp [endB]; omega
          go_enter Tryd.func42, Tryd.ntmps42
          go_wp2
          go_ret
          exact ⟨by rw [HF.out]; rfl, (Below.refl _ _).alloc (Nat.le_refl _) _⟩
      · have HF : Hid (endB ⟨x, y, 0, f⟩ true = false) := by show _ = _; simp [endB]; omega
        have hb : (f == 0) = false := by simp; exact h2
        go_enter Tryd.func42, Tryd.ntmps42
        go_wp2
        go_ret
        exact ⟨by rw [HF.out]; rfl, (Below.refl _ _).alloc (Nat.le_refl _) _⟩
    · have HF : Hid (endB ⟨x, y, c, f⟩ true = false) := by show _ = _; simp [endB]; omega
      have hb : (c == 0) = false := by simp; exact h1
      go_enter Tryd.func42, Tryd.ntmps42
      go_wp2
      go_ret
      exact ⟨by rw [HF.out]; rfl, (Below.refl _ _).alloc (Nat.le_refl _) _⟩
  | false =>
    by_cases h1 : 1 ≤ c ∧ c ≤ 512
    · by_cases h2 : 1 ≤ f ∧ f ≤ 1099511627776
      · have HF : Hid (endB ⟨x, y, c, f⟩ false = true) := by show _ = _; simp [endB]; omega
        have H1 : Hid (1 ≤ c ∧ c ≤ 512) := h1
        have H2 : Hid (1 ≤ f ∧ f ≤ 1099511627776) := h2
        clear h1 h2
        go_enter Tryd.func42, Tryd.ntmps42
        go_wp2_with (first
          | (go_at_call_of 41 (Value.int .i64 c); refine (mwithin_yes 1 c 512 _ H1.out.1 H1.out.2).mono ?_; rintro _ _ ⟨rfl, rfl⟩)
          | (go_at_call_of 41 (Value.int .i64 f); refine (mwithin_yes 1 f 1099511627776 _ H2.out.1 H2.out.2).mono ?_; rintro _ _ ⟨rfl, rfl⟩))
        go_ret
        exact ⟨by rw [HF.out]; rfl, (Below.refl _ _).alloc (Nat.le_refl _) _⟩
      · have HF : Hid (endB ⟨x, y, c, f⟩ false = false) := by show _ = _; simp [endB]; omega
        have H1 : Hid (1 ≤ c ∧ c ≤ 512) := h1
        have H2 : Hid (¬ (1 ≤ f ∧ f ≤ 1099511627776)) := h2
        clear h1 h2
        go_enter Tryd.func42, Tryd.ntmps42
        go_wp2_with (first
          | (go_at_call_of 41 (Value.int .i64 c); refine (mwithin_yes 1 c 512 _ H1.out.1 H1.out.2).mono ?_; rintro _ _ ⟨rfl, rfl⟩)
          | (go_at_call_of 41 (Value.int .i64 f); refine (mwithin_no 1 f 1099511627776 _ H2.out).mono ?_; rintro _ _ ⟨rfl, rfl⟩))
        go_ret
        exact ⟨by rw [HF.out]; rfl, (Below.refl _ _).alloc (Nat.le_refl _) _⟩
    · have HF : Hid (endB ⟨x, y, c, f⟩ false = false) := by show _ = _; simp [endB]; omega
      have H1 : Hid (¬ (1 ≤ c ∧ c ≤ 512)) := h1
      clear h1
      go_enter Tryd.func42, Tryd.ntmps42
      go_wp2_with (go_at_call 41; refine (mwithin_no 1 c 512 _ H1.out).mono ?_; rintro _ _ ⟨rfl, rfl⟩)
      go_ret
      exact ⟨by rw [HF.out]; rfl, (Below.refl _ _).alloc (Nat.le_refl _) _⟩
/- HEAD -/
set_option maxRecDepth 20000 in
set_option maxHeartbeats 2000000 in
theorem mrhead_no1 (g nx fl sn sq : Int) (v : Value) (hv : v.oneCell' = true) (w : World) (h0 : ¬ (1 ≤ g ∧ g ≤ 1099511627776)) : Calls Tryd.prog 25 #[.agg #[.int .i64 g, .int .i64 nx, .int .i64 fl, .int .i64 sn, .int .i64 sq, v]] w fun e w' => e = .returned (.bool false) ∧ Below w.heap.size w w' := by
  have T0 : Hid True := trivial
  have H0 : Hid (_) := h0
  clear h0
  go_enter Tryd.func25, Tryd.ntmps25
  go_wp2_with (first
    | (go_at_call 41; clear T0; refine (mwithin_no 1 g (1099511627776) _ H0.out).mono ?_; rintro _ _ ⟨rfl, rfl⟩))
  go_ret
  exact ⟨rfl, (Below.refl _ _).alloc (Nat.le_refl _) _⟩
set_option maxRecDepth 20000 in
set_option maxHeartbeats 2000000 in
theorem mrhead_no2 (g nx fl sn sq : Int) (v : Value) (hv : v.oneCell' = true) (w : World) (h0 : (1 ≤ g ∧ g ≤ 1099511627776)) (h1 : ¬ (2 ≤ nx ∧ nx ≤ 1000000)) : Calls Tryd.prog 25 #[.agg #[.int .i64 g, .int .i64 nx, .int .i64 fl, .int .i64 sn, .int .i64 sq, v]] w fun e w' => e = .returned (.bool false) ∧ Below w.heap.size w w' := by
  have T0 : Hid True := trivial
  have T1 : Hid True := trivial
  have H0 : Hid (_) := h0
  have H1 : Hid (_) := h1
  clear h0 h1
  go_enter Tryd.func25, Tryd.ntmps25
  go_wp2_with (first
    | (go_at_call 41; clear T0; refine (mwithin_yes 1 g (1099511627776) _ H0.out.1 H0.out.2).mono ?_; rintro _ _ ⟨rfl, rfl⟩)
    | (go_at_call 41; clear T1; refine (mwithin_no 2 nx (1000000) _ H1.out).mono ?_; rintro _ _ ⟨rfl, rfl⟩))
  go_ret
  exact ⟨rfl, (Below.refl _ _).alloc (Nat.le_refl _) _⟩
set_option maxRecDepth 20000 in
set_option maxHeartbeats 2000000 in
theorem mrhead_no3 (g nx fl sn sq : Int) (v : Value) (hv : v.oneCell' = true) (w : World) (h0 : (1 ≤ g ∧ g ≤ 1099511627776)) (h1 : (2 ≤ nx ∧ nx ≤ 1000000)) (h2 : ¬ (0 ≤ sq ∧ sq ≤ 1099511627776)) : Calls Tryd.prog 25 #[.agg #[.int .i64 g, .int .i64 nx, .int .i64 fl, .int .i64 sn, .int .i64 sq, v]] w fun e w' => e = .returned (.bool false) ∧ Below w.heap.size w w' := by
  have T0 : Hid True := trivial
  have T1 : Hid True := trivial
  have T2 : Hid True := trivial
  have H0 : Hid (_) := h0
  have H1 : Hid (_) := h1
  have H2 : Hid (_) := h2
  have hw1 : wrap64 (nx - 1) = nx - 1 := by unfold wrap64; omega
  clear h0 h1 h2
  go_enter Tryd.func25, Tryd.ntmps25
  go_wp2_with (first
    | (go_at_call 41; clear T0; refine (mwithin_yes 1 g (1099511627776) _ H0.out.1 H0.out.2).mono ?_; rintro _ _ ⟨rfl, rfl⟩)
    | (go_at_call 41; clear T1; refine (mwithin_yes 2 nx (1000000) _ H1.out.1 H1.out.2).mono ?_; rintro _ _ ⟨rfl, rfl⟩)
    | (go_at_call 41; clear T2; refine (mwithin_no 0 sq (1099511627776) _ H2.out).mono ?_; rintro _ _ ⟨rfl, rfl⟩))
  go_ret
  exact ⟨rfl, (Below.refl _ _).alloc (Nat.le_refl _) _⟩
set_option maxRecDepth 20000 in
set_option maxHeartbeats 2000000 in
theorem mrhead_no4 (g nx fl sn sq : Int) (v : Value) (hv : v.oneCell' = true) (w : World) (h0 : (1 ≤ g ∧ g ≤ 1099511627776)) (h1 : (2 ≤ nx ∧ nx ≤ 1000000)) (h2 : (0 ≤ sq ∧ sq ≤ 1099511627776)) (h3 : ¬ (0 ≤ fl ∧ fl ≤ sq)) : Calls Tryd.prog 25 #[.agg #[.int .i64 g, .int .i64 nx, .int .i64 fl, .int .i64 sn, .int .i64 sq, v]] w fun e w' => e = .returned (.bool false) ∧ Below w.heap.size w w' := by
  have T0 : Hid True := trivial
  have T1 : Hid True := trivial
  have T2 : Hid True := trivial
  have T3 : Hid True := trivial
  have H0 : Hid (_) := h0
  have H1 : Hid (_) := h1
  have H2 : Hid (_) := h2
  have H3 : Hid (_) := h3
  have hw1 : wrap64 (nx - 1) = nx - 1 := by unfold wrap64; omega
  clear h0 h1 h2 h3
  go_enter Tryd.func25, Tryd.ntmps25
  go_wp2_with (first
    | (go_at_call 41; clear T0; refine (mwithin_yes 1 g (1099511627776) _ H0.out.1 H0.out.2).mono ?_; rintro _ _ ⟨rfl, rfl⟩)
    | (go_at_call 41; clear T1; refine (mwithin_yes 2 nx (1000000) _ H1.out.1 H1.out.2).mono ?_; rintro _ _ ⟨rfl, rfl⟩)
    | (go_at_call 41; clear T2; refine (mwithin_yes 0 sq (1099511627776) _ H2.out.1 H2.out.2).mono ?_; rintro _ _ ⟨rfl, rfl⟩)
    | (go_at_call 41; clear T3; refine (mwithin_no 0 fl (sq) _ H3.out).mono ?_; rintro _ _ ⟨rfl, rfl⟩))
  go_ret
  exact ⟨rfl, (Below.refl _ _).alloc (Nat.le_refl _) _⟩
set_option maxRecDepth 20000 in
set_option maxHeartbeats 2000000 in
theorem mrhead_no5 (g nx fl sn sq : Int) (v : Value) (hv : v.oneCell' = true) (w : World) (h0 : (1 ≤ g ∧ g ≤ 1099511627776)) (h1 : (2 ≤ nx ∧ nx ≤ 1000000)) (h2 : (0 ≤ sq ∧ sq ≤ 1099511627776)) (h3 : (0 ≤ fl ∧ fl ≤ sq)) (h4 : ¬ (0 ≤ sn ∧ sn ≤ nx - 1)) : Calls Tryd.prog 25 #[.agg #[.int .i64 g, .int .i64 nx, .int .i64 fl, .int .i64 sn, .int .i64 sq, v]] w fun e w' => e = .returned (.bool false) ∧ Below w.heap.size w w' := by
  have T0 : Hid True := trivial
  have T1 : Hid True := trivial
  have T2 : Hid True := trivial
  have T3 : Hid True := trivial
  have T4 : Hid True := trivial
  have H0 : Hid (_) := h0
  have H1 : Hid (_) := h1
  have H2 : Hid (_) := h2
  have H3 : Hid (_) := h3
  have H4 : Hid (_) := h4
  have hw1 : wrap64 (nx - 1) = nx - 1 := by unfold wrap64; omega
  clear h0 h1 h2 h3 h4
  go_enter Tryd.func25, Tryd.ntmps25
  go_wp2_with (first
    | (go_at_call 41; clear T0; refine (mwithin_yes 1 g (1099511627776) _ H0.out.1 H0.out.2).mono ?_; rintro _ _ ⟨rfl, rfl⟩)
    | (go_at_call 41; clear T1; refine (mwithin_yes 2 nx (1000000) _ H1.out.1 H1.out.2).mono ?_; rintro _ _ ⟨rfl, rfl⟩)
    | (go_at_call 41; clear T2; refine (mwithin_yes 0 sq (1099511627776) _ H2.out.1 H2.out.2).mono ?_; rintro _ _ ⟨rfl, rfl⟩)
    | (go_at_call 41; clear T3; refine (mwithin_yes 0 fl (sq) _ H3.out.1 H3.out.2).mono ?_; rintro _ _ ⟨rfl, rfl⟩)
    | (go_at_call 41; clear T4; refine (mwithin_no 0 sn (nx - 1) _ H4.out).mono ?_; rintro _ _ ⟨rfl, rfl⟩))
  go_ret
  exact ⟨rfl, (Below.refl _ _).alloc (Nat.le_refl _) _⟩
set_option maxRecDepth 20000 in
set_option maxHeartbeats 2000000 in
theorem mrhead_00 (g nx fl sn sq : Int) (v : Value) (hv : v.oneCell' = true) (w : World) (h0 : (1 ≤ g ∧ g ≤ 1099511627776)) (h1 : (2 ≤ nx ∧ nx ≤ 1000000)) (h2 : (0 ≤ sq ∧ sq ≤ 1099511627776)) (h3 : (0 ≤ fl ∧ fl ≤ sq)) (h4 : (0 ≤ sn ∧ sn ≤ nx - 1)) (b5 : (sn == 0) = false) (b6 : (sq == 0) = false) : Calls Tryd.prog 25 #[.agg #[.int .i64 g, .int .i64 nx, .int .i64 fl, .int .i64 sn, .int .i64 sq, v]] w fun e w' => e = .returned (.bool true) ∧ Below w.heap.size w w' := by
  have T0 : Hid True := trivial
  have T1 : Hid True := trivial
  have T2 : Hid True := trivial
  have T3 : Hid True := trivial
  have T4 : Hid True := trivial
  have H0 : Hid (_) := h0
  have H1 : Hid (_) := h1
  have H2 : Hid (_) := h2
  have H3 : Hid (_) := h3
  have H4 : Hid (_) := h4
  have hw1 : wrap64 (nx - 1) = nx - 1 := by unfold wrap64; omega
  clear h0 h1 h2 h3 h4
  go_enter Tryd.func25, Tryd.ntmps25
  go_wp2_with (first
    | (go_at_call 41; clear T0; refine (mwithin_yes 1 g (1099511627776) _ H0.out.1 H0.out.2).mono ?_; rintro _ _ ⟨rfl, rfl⟩)
    | (go_at_call 41; clear T1; refine (mwithin_yes 2 nx (1000000) _ H1.out.1 H1.out.2).mono ?_; rintro _ _ ⟨rfl, rfl⟩)
    | (go_at_call 41; clear T2; refine (mwithin_yes 0 sq (1099511627776) _ H2.out.1 H2.out.2).mono ?_; rintro _ _ ⟨rfl, rfl⟩)
    | (go_at_call 41; clear T3; refine (mwithin_yes 0 fl (sq) _ H3.out.1 H3.out.2).mono ?_; rintro _ _ ⟨rfl, rfl⟩)
    | (go_at_call 41; clear T4; refine (mwithin_yes 0 sn (nx - 1) _ H4.out.1 H4.out.2).mono ?_; rintro _ _ ⟨rfl, rfl⟩))
  go_ret
  exact ⟨rfl, (Below.refl _ _).alloc (Nat.le_refl _) _⟩
set_option maxRecDepth 20000 in
set_option maxHeartbeats 2000000 in
theorem mrhead_01 (g nx fl sn sq : Int) (v : Value) (hv : v.oneCell' = true) (w : World) (h0 : (1 ≤ g ∧ g ≤ 1099511627776)) (h1 : (2 ≤ nx ∧ nx ≤ 1000000)) (h2 : (0 ≤ sq ∧ sq ≤ 1099511627776)) (h3 : (0 ≤ fl ∧ fl ≤ sq)) (h4 : (0 ≤ sn ∧ sn ≤ nx - 1)) (b5 : (sn == 0) = false) (b6 : (sq == 0) = true) : Calls Tryd.prog 25 #[.agg #[.int .i64 g, .int .i64 nx, .int .i64 fl, .int .i64 sn, .int .i64 sq, v]] w fun e w' => e = .returned (.bool false) ∧ Below w.heap.size w w' := by
  have T0 : Hid True := trivial
  have T1 : Hid True := trivial
  have T2 : Hid True := trivial
  have T3 : Hid True := trivial
  have T4 : Hid True := trivial
  have H0 : Hid (_) := h0
  have H1 : Hid (_) := h1
  have H2 : Hid (_) := h2
  have H3 : Hid (_) := h3
  have H4 : Hid (_) := h4
  have hw1 : wrap64 (nx - 1) = nx - 1 := by unfold wrap64; omega
  clear h0 h1 h2 h3 h4
  go_enter Tryd.func25, Tryd.ntmps25
  go_wp2_with (first
    | (go_at_call 41; clear T0; refine (mwithin_yes 1 g (1099511627776) _ H0.out.1 H0.out.2).mono ?_; rintro _ _ ⟨rfl, rfl⟩)
    | (go_at_call 41; clear T1; refine (mwithin_yes 2 nx (1000000) _ H1.out.1 H1.out.2).mono ?_; rintro _ _ ⟨rfl, rfl⟩)
    | (go_at_call 41; clear T2; refine (mwithin_yes 0 sq (1099511627776) _ H2.out.1 H2.out.2).mono ?_; rintro _ _ ⟨rfl, rfl⟩)
    | (go_at_call 41; clear T3; refine (mwithin_yes 0 fl (sq) _ H3.out.1 H3.out.2).mono ?_; rintro _ _ ⟨rfl, rfl⟩)
    | (go_at_call 41; clear T4; refine (mwithin_yes 0 sn (nx - 1) _ H4.out.1 H4.out.2).mono ?_; rintro _ _ ⟨rfl, rfl⟩))
  go_ret
  exact ⟨rfl, (Below.refl _ _).alloc (Nat.le_refl _) _⟩
set_option maxRecDepth 20000 in
set_option maxHeartbeats 2000000 in
theorem mrhead_10 (g nx fl sn sq : Int) (v : Value) (hv : v.oneCell' = true) (w : World) (h0 : (1 ≤ g ∧ g ≤ 1099511627776)) (h1 : (2 ≤ nx ∧ nx ≤ 1000000)) (h2 : (0 ≤ sq ∧ sq ≤ 1099511627776)) (h3 : (0 ≤ fl ∧ fl ≤ sq)) (h4 : (0 ≤ sn ∧ sn ≤ nx - 1)) (b5 : (sn == 0) = true) (b6 : (sq == 0) = false) : Calls Tryd.prog 25 #[.agg #[.int .i64 g, .int .i64 nx, .int .i64 fl, .int .i64 sn, .int .i64 sq, v]] w fun e w' => e = .returned (.bool false) ∧ Below w.heap.size w w' := by
  have T0 : Hid True := trivial
  have T1 : Hid True := trivial
  have T2 : Hid True := trivial
  have T3 : Hid True := trivial
  have T4 : Hid True := trivial
  have H0 : Hid (_) := h0
  have H1 : Hid (_) := h1
  have H2 : Hid (_) := h2
  have H3 : Hid (_) := h3
  have H4 : Hid (_) := h4
  have hw1 : wrap64 (nx - 1) = nx - 1 := by unfold wrap64; omega
  clear h0 h1 h2 h3 h4
  go_enter Tryd.func25, Tryd.ntmps25
  go_wp2_with (first
    | (go_at_call 41; clear T0; refine (mwithin_yes 1 g (1099511627776) _ H0.out.1 H0.out.2).mono ?_; rintro _ _ ⟨rfl, rfl⟩)
    | (go_at_call 41; clear T1; refine (mwithin_yes 2 nx (1000000) _ H1.out.1 H1.out.2).mono ?_; rintro _ _ ⟨rfl, rfl⟩)
    | (go_at_call 41; clear T2; refine (mwithin_yes 0 sq (1099511627776) _ H2.out.1 H2.out.2).mono ?_; rintro _ _ ⟨rfl, rfl⟩)
    | (go_at_call 41; clear T3; refine (mwithin_yes 0 fl (sq) _ H3.out.1 H3.out.2).mono ?_; rintro _ _ ⟨rfl, rfl⟩)
    | (go_at_call 41; clear T4; refine (mwithin_yes 0 sn (nx - 1) _ H4.out.1 H4.out.2).mono ?_; rintro _ _ ⟨rfl, rfl⟩))
  go_ret
  exact ⟨rfl, (Below.refl _ _).alloc (Nat.le_refl _) _⟩
set_option maxRecDepth 20000 in
set_option maxHeartbeats 2000000 in
theorem mrhead_11 (g nx fl sn sq : Int) (v : Value) (hv : v.oneCell' = true) (w : World) (h0 : (1 ≤ g ∧ g ≤ 1099511627776)) (h1 : (2 ≤ nx ∧ nx ≤ 1000000)) (h2 : (0 ≤ sq ∧ sq ≤ 1099511627776)) (h3 : (0 ≤ fl ∧ fl ≤ sq)) (h4 : (0 ≤ sn ∧ sn ≤ nx - 1)) (b5 : (sn == 0) = true) (b6 : (sq == 0) = true) : Calls Tryd.prog 25 #[.agg #[.int .i64 g, .int .i64 nx, .int .i64 fl, .int .i64 sn, .int .i64 sq, v]] w fun e w' => e = .returned (.bool true) ∧ Below w.heap.size w w' := by
  have T0 : Hid True := trivial
  have T1 : Hid True := trivial
  have T2 : Hid True := trivial
  have T3 : Hid True := trivial
  have T4 : Hid True := trivial
  have H0 : Hid (_) := h0
  have H1 : Hid (_) := h1
  have H2 : Hid (_) := h2
  have H3 : Hid (_) := h3
  have H4 : Hid (_) := h4
  have hw1 : wrap64 (nx - 1) = nx - 1 := by unfold wrap64; omega
  clear h0 h1 h2 h3 h4
  go_enter Tryd.func25, Tryd.ntmps25
  go_wp2_with (first
    | (go_at_call 41; clear T0; refine (mwithin_yes 1 g (1099511627776) _ H0.out.1 H0.out.2).mono ?_; rintro _ _ ⟨rfl, rfl⟩)
    | (go_at_call 41; clear T1; refine (mwithin_yes 2 nx (1000000) _ H1.out.1 H1.out.2).mono ?_; rintro _ _ ⟨rfl, rfl⟩)
    | (go_at_call 41; clear T2; refine (mwithin_yes 0 sq (1099511627776) _ H2.out.1 H2.out.2).mono ?_; rintro _ _ ⟨rfl, rfl⟩)
    | (go_at_call 41; clear T3; refine (mwithin_yes 0 fl (sq) _ H3.out.1 H3.out.2).mono ?_; rintro _ _ ⟨rfl, rfl⟩)
    | (go_at_call 41; clear T4; refine (mwithin_yes 0 sn (nx - 1) _ H4.out.1 H4.out.2).mono ?_; rintro _ _ ⟨rfl, rfl⟩))
  go_ret
  exact ⟨rfl, (Below.refl _ _).alloc (Nat.le_refl _) _⟩
theorem mrhead_any (m : Mf) (v : Value) (hv : v.oneCell' = true) (w : World) : Calls Tryd.prog 25 #[MfV m v] w fun e w' => e = .returned (.bool (headB m)) ∧ Below w.heap.size w w' := by
  obtain ⟨g, nx, fl, sn, sq, L⟩ := m
  by_cases h0 : 1 ≤ g ∧ g ≤ 1099511627776
  rotate_left
  · rw [show headB ⟨g, nx, fl, sn, sq, L⟩ = false from by simp [headB]; omega]
    exact mrhead_no1 g nx fl sn sq v hv w h0
  by_cases h1 : 2 ≤ nx ∧ nx ≤ 1000000
  rotate_left
  · rw [show headB ⟨g, nx, fl, sn, sq, L⟩ = false from by simp [headB]; omega]
    exact mrhead_no2 g nx fl sn sq v hv w h0 h1
  by_cases h2 : 0 ≤ sq ∧ sq ≤ 1099511627776
  rotate_left
  · rw [show headB ⟨g, nx, fl, sn, sq, L⟩ = false from by simp [headB]; omega]
    exact mrhead_no3 g nx fl sn sq v hv w h0 h1 h2
  by_cases h3 : 0 ≤ fl ∧ fl ≤ sq
  rotate_left
  · rw [show headB ⟨g, nx, fl, sn, sq, L⟩ = false from by simp [headB]; omega]
    exact mrhead_no4 g nx fl sn sq v hv w h0 h1 h2 h3
  by_cases h4 : 0 ≤ sn ∧ sn ≤ nx - 1
  rotate_left
  · rw [show headB ⟨g, nx, fl, sn, sq, L⟩ = false from by simp [headB]; omega]
    exact mrhead_no5 g nx fl sn sq v hv w h0 h1 h2 h3 h4
  by_cases h5 : sn = 0
  · by_cases h6 : sq = 0
    · rw [show headB ⟨g, nx, fl, sn, sq, L⟩ = true from by simp [headB]; omega]
      exact mrhead_11 g nx fl sn sq v hv w h0 h1 h2 h3 h4 (by simp [h5]) (by simp [h6])
    · rw [show headB ⟨g, nx, fl, sn, sq, L⟩ = false from by simp [headB]; omega]
      exact mrhead_10 g nx fl sn sq v hv w h0 h1 h2 h3 h4 (by simp [h5]) (by simp [h6])
  · by_cases h6 : sq = 0
    · rw [show headB ⟨g, nx, fl, sn, sq, L⟩ = false from by simp [headB]; omega]
      exact mrhead_01 g nx fl sn sq v hv w h0 h1 h2 h3 h4 (by simp [h5]) (by simp [h6])
    · rw [show headB ⟨g, nx, fl, sn, sq, L⟩ = true from by simp [headB]; omega]
      exact mrhead_00 g nx fl sn sq v hv w h0 h1 h2 h3 h4 (by simp [h5]) (by simp [h6])
end Go.Proofs.YtnfkdgjgglnniaaDoor
