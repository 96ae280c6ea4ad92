/- What is added is taken away again; a product divided by a factor is the other factor: for every two numbers. -/
import Derived.Test.YtfkcnegcigggpaaNum
import Derived.SizedLaws
import Derived.ChangeOld
namespace Go.Proofs.Ytfkcnegcigggpaa.numBack
open Go.ChangeShapes Go.WideShapes Go.ChangeAt Go.RowKit
set_option maxRecDepth 20000 in
set_option maxHeartbeats 1000000 in
theorem walk_ok (a b : Int) (w : World) (h0 : Hid (-9223372036854775808 ≤ a ∧ a ≤ 9223372036854775807)) (h2 : Hid (-9223372036854775808 ≤ b ∧ b ≤ 9223372036854775807)) (hs : Hid (inI (a + b))) (hb : ¬ b = 0) :
    Calls Try.prog 6 #[.int .i64 a, .int .i64 b] w fun e w' => e = .returned (.bool true) ∧ Below w.heap.size w w' := by
  obtain ⟨s, es⟩ : ∃ s, a + b = s := ⟨_, rfl⟩
  have HS : Hid (inI s ∧ a + b = s) := ⟨by rw [← es]; exact hs.out, es⟩
  have E1 : Hid (fitV (a + b) = s ∧ fitB (a + b) = true) := by show _ ∧ _; rw [es]; exact fit_in s HS.out.1
  have E2 : Hid (fitV (s - b) = a ∧ fitB (s - b) = true) := by show _ ∧ _; rw [show s - b = a from by omega]; exact fit_in a h0.out
  have E3 : Hid (mdV a b b = a ∧ mdB a b b = true) := by show _ ∧ _; unfold mdV mdB; rw [if_neg hb, if_neg hb, md_self a b hb]; exact fit_in a h0.out
  have E4 : Hid (mdV a b 1 = fitV (a * b) ∧ mdB a b 1 = fitB (a * b)) := by show _ ∧ _; unfold mdV mdB; rw [if_neg (by decide), if_neg (by decide), md_one]; exact ⟨rfl, rfl⟩
  obtain ⟨p, Ep⟩ : ∃ p, Hid (fitV (a * b) = p) := ⟨_, rfl⟩
  obtain ⟨pb, Epb⟩ : ∃ p, Hid (fitB (a * b) = p) := ⟨_, rfl⟩
  have hb0 : (b == 0) = false := by simpa using hb
  clear hs es hb
  cases pb
  all_goals
    go_enter Try.func6, Try.ntmps6
    go_wp2_with (first
      | (go_at_call 9; refine (head04_any w).mono ?_; rintro e w1 ⟨rfl, hb1⟩)
      | (go_at_call 13; refine (add_any a b w1 h0.out.1 h0.out.2 h2.out.1 h2.out.2).mono ?_; rw [E1.out.1, E1.out.2]; rintro e w2 ⟨rfl, hb2⟩)
      | (go_at_call 14; refine (sub_any s b w2 HS.out.1.1 HS.out.1.2 h2.out.1 h2.out.2).mono ?_; rw [E2.out.1, E2.out.2]; rintro e w3 ⟨rfl, hb3⟩)
      | (go_at_call_of 18 (Value.int .i64 1); refine (muldiv_any a b 1 w5 h0.out.1 h0.out.2 h2.out.1 h2.out.2 (by omega) (by omega)).mono ?_; rw [E4.out.1, E4.out.2, Ep.out, Epb.out]; rintro e w6 ⟨rfl, hb6⟩)
      | (go_at_call 18; refine (muldiv_any a b b w3 h0.out.1 h0.out.2 h2.out.1 h2.out.2 h2.out.1 h2.out.2).mono ?_; rw [E3.out.1, E3.out.2]; rintro e w4 ⟨rfl, hb4⟩)
      | (go_at_call 16; refine (mul_any a b w4 h0.out.1 h0.out.2 h2.out.1 h2.out.2).mono ?_; rw [Ep.out, Epb.out]; rintro e w5 ⟨rfl, hb5⟩))
    go_ret
    exact ⟨rfl, bnx (bnx (bnx (bnx (bnx hb1 hb2) hb3) hb4) hb5) hb6⟩
set_option maxRecDepth 20000 in
set_option maxHeartbeats 1000000 in
theorem walk_big (a b : Int) (w : World) (h0 : Hid (-9223372036854775808 ≤ a ∧ a ≤ 9223372036854775807)) (h2 : Hid (-9223372036854775808 ≤ b ∧ b ≤ 9223372036854775807)) (hs : ¬ inI (a + b)) (hb : ¬ b = 0) :
    Calls Try.prog 6 #[.int .i64 a, .int .i64 b] w fun e w' => e = .returned (.bool true) ∧ Below w.heap.size w w' := by
  have E1 : Hid (fitV (a + b) = 0 ∧ fitB (a + b) = false) := by show _ ∧ _; unfold fitV fitB; rw [if_neg hs, decide_eq_false hs]; exact ⟨rfl, rfl⟩
  have E3 : Hid (mdV a b b = a ∧ mdB a b b = true) := by show _ ∧ _; unfold mdV mdB; rw [if_neg hb, if_neg hb, md_self a b hb]; exact fit_in a h0.out
  have E4 : Hid (mdV a b 1 = fitV (a * b) ∧ mdB a b 1 = fitB (a * b)) := by show _ ∧ _; unfold mdV mdB; rw [if_neg (by decide), if_neg (by decide), md_one]; exact ⟨rfl, rfl⟩
  obtain ⟨p, Ep⟩ : ∃ p, Hid (fitV (a * b) = p) := ⟨_, rfl⟩
  obtain ⟨pb, Epb⟩ : ∃ p, Hid (fitB (a * b) = p) := ⟨_, rfl⟩
  have hb0 : (b == 0) = false := by simpa using hb
  clear hs hb
  cases pb
  all_goals
    go_enter Try.func6, Try.ntmps6
    go_wp2_with (first
      | (go_at_call 9; refine (head04_any w).mono ?_; rintro e w1 ⟨rfl, hb1⟩)
      | (go_at_call 13; refine (add_any a b w1 h0.out.1 h0.out.2 h2.out.1 h2.out.2).mono ?_; rw [E1.out.1, E1.out.2]; rintro e w2 ⟨rfl, hb2⟩)
      | (go_at_call_of 18 (Value.int .i64 1); refine (muldiv_any a b 1 w5 h0.out.1 h0.out.2 h2.out.1 h2.out.2 (by omega) (by omega)).mono ?_; rw [E4.out.1, E4.out.2, Ep.out, Epb.out]; rintro e w6 ⟨rfl, hb6⟩)
      | (go_at_call 18; refine (muldiv_any a b b w2 h0.out.1 h0.out.2 h2.out.1 h2.out.2 h2.out.1 h2.out.2).mono ?_; rw [E3.out.1, E3.out.2]; rintro e w4 ⟨rfl, hb4⟩)
      | (go_at_call 16; refine (mul_any a b w4 h0.out.1 h0.out.2 h2.out.1 h2.out.2).mono ?_; rw [Ep.out, Epb.out]; rintro e w5 ⟨rfl, hb5⟩))
    go_ret
    exact ⟨rfl, bnx (bnx (bnx (bnx hb1 hb2) hb4) hb5) hb6⟩
set_option maxRecDepth 20000 in
set_option maxHeartbeats 1000000 in
theorem walk_zero (a : Int) (w : World) (h0 : Hid (-9223372036854775808 ≤ a ∧ a ≤ 9223372036854775807)) :
    Calls Try.prog 6 #[.int .i64 a, .int .i64 0] w fun e w' => e = .returned (.bool true) ∧ Below w.heap.size w w' := by
  have E1 : Hid (fitV (a + 0) = a ∧ fitB (a + 0) = true) := by show _ ∧ _; rw [Int.add_zero]; exact fit_in a h0.out
  have E2 : Hid (fitV (a - 0) = a ∧ fitB (a - 0) = true) := by show _ ∧ _; rw [Int.sub_zero]; exact fit_in a h0.out
  have E3 : Hid (mdV a a 0 = 0 ∧ mdB a a 0 = false) := ⟨rfl, rfl⟩
  go_enter Try.func6, Try.ntmps6
  go_wp2_with (first
    | (go_at_call 9; refine (head04_any w).mono ?_; rintro e w1 ⟨rfl, hb1⟩)
    | (go_at_call 13; refine (add_any a 0 w1 h0.out.1 h0.out.2 (by omega) (by omega)).mono ?_; rw [E1.out.1, E1.out.2]; rintro e w2 ⟨rfl, hb2⟩)
    | (go_at_call 14; refine (sub_any a 0 w2 h0.out.1 h0.out.2 (by omega) (by omega)).mono ?_; rw [E2.out.1, E2.out.2]; rintro e w3 ⟨rfl, hb3⟩)
    | (go_at_call 18; refine (muldiv_any a a 0 w3 h0.out.1 h0.out.2 h0.out.1 h0.out.2 (by omega) (by omega)).mono ?_; rw [E3.out.1, E3.out.2]; rintro e w4 ⟨rfl, hb4⟩))
  go_ret
  exact ⟨rfl, bnx (bnx (bnx hb1 hb2) hb3) hb4⟩
theorem walk (a b : Int) (w : World) (w0 : (Lit.int .i64 a).wf = true) (w1 : (Lit.int .i64 b).wf = true) :
    Calls Try.prog 6 #[.int .i64 a, .int .i64 b] w fun e w' => e = .returned (.bool true) ∧ Below w.heap.size w w' := by
  have h0 := wf_i64 _ w0
  have h2 := wf_i64 _ w1
  by_cases hb : b = 0
  · subst hb; exact walk_zero a w h0
  · by_cases hs : inI (a + b)
    · exact walk_ok a b w h0 h2 hs hb
    · exact walk_big a b w h0 h2 hs hb
theorem own : ownKnob Try.prog.godebug = none := by kernel_rfl
theorem laidOut : laidOutB Try.prog = true := by kernel_rfl
set_option maxRecDepth 100000 in
theorem contract (H : Type) (enc : TypeId × Value → H) (W : World) (base : Nat) (args : Array Value) (ds gs : List (DataW H)) (before : List MemPlace)
    (hval : ∀ (j : Nat) t v, Try.f6.params[j]? = some t → args[j]? = some v → Value.okWide Try.prog W .any base t v)
    (hW : DataW.Whole enc Try.prog Try.f6.params.toList Rows.numBackSpec.vars false W args.toList ds gs before)
    (hsz : (DataW.weightsEach Try.prog (Try.f6.params.toList ++ Rows.numBackSpec.plain.varTypes Try.prog) (ds ++ gs)).all (· ≤ reachBytes) = true) :
    Calls Try.prog 6 args W fun e W' => ∃ v, e = .returned v ∧ Rows.numBackSpec.post enc Try.prog Try.f6 false true false false W args v W' := by
  have hW' := hW
  obtain ⟨p, q, hA0, hV, rfl, hfz, hnd⟩ := hW
  have hA : DataW.TrodAll enc Try.prog W 0 (fun _ => true) true Try.f6.params.toList args.toList ds p := hA0
  rw [Try.params6] at hA hval hsz
  obtain ⟨v0, vs0, d0, ds0, p0, q0, hargs, rfl, rfl, h0, r0⟩ := trodAll_cons hA
  obtain ⟨v1, vs1, d1, ds1, p1, q1, rfl, rfl, rfl, h1, r1⟩ := trodAll_cons r0
  obtain ⟨rfl, rfl, rfl⟩ := trodAll_nil r1
  obtain rfl : args = #[v0, v1] := by cases args; simp_all
  obtain ⟨rfl, rfl⟩ := trodVars_none hV
  obtain ⟨a0, rfl, rfl, rfl, w0⟩ := open_int Try.underlying2 (hval 0 2 v0 rfl rfl) h0
  obtain ⟨a1, rfl, rfl, rfl, w1⟩ := open_int Try.underlying2 (hval 1 2 v1 rfl rfl) h1
  clear hA0
  refine (walk a0 a1 W w0 w1).mono fun e W' ⟨he, bel⟩ => ?_
  subst he
  exact ⟨_, rfl, _, _, _, [], _, [], hW', trodAll_mk1 (shut_bool Try.underlying4 _), (trodAll_cons_mk (shut_int Try.underlying2 w0) (trodAll_cons_mk (shut_int Try.underlying2 w1) trodAll_mk0)), rfl, bel.frame _, fun h => by cases h⟩
set_option maxRecDepth 100000 in
theorem lifted (os : Os) (started : os.Started) (H : Type) (enc : TypeId × Value → H) :
    ReturnsInHanded {} Try.checked os 6 .any (Rows.numBackSpec.pre6 enc Try.prog Try.f6 Rows.numBackRow.domain false) (Rows.numBackSpec.post enc Try.prog Try.f6 false true false false) := by
  refine returnsInHanded_of_change_sized (C := Try.checked) own started (by kernel_rfl) Try.func6
    (ChangeSpec.witness6 (enc := enc) (C := Try.checked) false ⟨#[], #[.int .i64 0, .int .i64 0], []⟩ 8 (by kernel_rfl) (by kernel_rfl) (by kernel_rfl) (by kernel_rfl)) ?_
  intro W base args ds gs before hval hW _ hsz _
  exact contract H enc W base args ds gs before hval hW hsz
theorem over : Rows.numBackRow.holds Try.pinned (OpenSpec.ofChange Rows.numBackSpec) :=
  OpenClaim.holds_of_wide 6 Try.f6 rfl rfl rfl rfl rfl rfl rfl ⟨rfl, rfl, rfl, rfl, rfl⟩ rfl rfl rfl rfl rfl (by kernel_rfl) Try.func6 (by kernel_rfl)
    (of_decide_eq_true (by kernel_rfl)) (by unfold Func.isWrapper; first | (rw [if_pos (by decide +kernel)]; kernel_rfl) | (rw [if_neg (by decide +kernel)]; exact ⟨rfl, rfl⟩))
    (fun os started H enc _ => lifted os started H enc)
theorem proved : Rows.NumBackSaid := over
end Go.Proofs.Ytfkcnegcigggpaa.numBack
