/- Going up in two stretches is as going in one; Step is the shortest of them: for every versions and event. -/
import Derived.Test.YtbgdkpkeghnmmaaDoorEvs
import Derived.Test.YtbgdkpkeghnmmaaDoorTaxTie
import Derived.SizedLaws
import Derived.ChangeOld
namespace Go.Proofs.YtbgdkpkeghnmmaaDoor.upcastTwo
open Go.ChangeShapes Go.WideShapes Go.ChangeAt Go.RowKit
set_option linter.unusedVariables false
set_option maxRecDepth 20000 in
set_option maxHeartbeats 2000000 in
theorem walk_no (v via to : Int) (e : Ev) (w : World) (ht : Tax w) (h : (toC v to e != 0) = true ∨ ((toC v to e != 0) = false ∧ (via < v ∨ (v ≤ via ∧ to < via)))) :
    Calls Tryd.prog 6 #[.int .i64 v, .int .i64 via, .int .i64 to, .agg (evA e)] w fun x w' => x = .returned (.bool true) ∧ Below w.heap.size w w' := by
  have FR := Evs.start w e ht
  obtain ⟨r, HC⟩ : ∃ r, Hid (toC v to e = r) := ⟨_, rfl⟩
  rw [HC.out] at h
  clear ht
  rcases h with h | ⟨h, h2 | ⟨h2, h3⟩⟩
  all_goals
    try have d1 : decide (via < v) = false := by simp; omega
    go_enter Tryd.func6, Tryd.ntmps6
    go_wp2_with (first
      | ((with_reducible refine guard_load 24 ?_); first | refine wpList_load_ev rfl _ rfl (FR.out.at 0 _ _ rfl) rfl ?_)
      | (go_at_call 9; refine (head07_any _ FR.out.2.1).mono ?_; rintro _ w8 ⟨rfl, hb7⟩; have FQ := FR.out.keep hb7; clear FR hb7; have FR := FQ; clear FQ)
      | (go_at_call 10; refine (to_any v to e _ FR.out.2.1).mono ?_; rw [HC.out]; rintro _ w7 ⟨rfl, hb7⟩; have FQ := FR.out.keep hb7; clear FR hb7; have FR := FQ; clear FQ)
      | ((with_reducible refine guard_store 24 ?_); refine wpList_store_ev (e := zeroE) (e2 := toR v to e) rfl _ _ rfl (evAt_new w7 zeroE) rfl rfl ?_; intro w9 z1 z2 z3 z4; have FQ := FR.out.more z1 z2; clear FR z1 z2 z3 z4; have FR := FQ; clear FQ))
    go_ret
    exact ⟨rfl, FR.out.1⟩
set_option maxRecDepth 20000 in
set_option maxHeartbeats 4000000 in
theorem walk_yes (v via to : Int) (e : Ev) (w : World) (ht : Tax w) (hc : chk v e = 0) (h1 : 1 ≤ v) (h2 : v ≤ via) (h3 : via ≤ to) (h5 : to ≤ 5) :
    Calls Tryd.prog 6 #[.int .i64 v, .int .i64 via, .int .i64 to, .agg (evA e)] w fun x w' => x = .returned (.bool true) ∧ Below w.heap.size w w' := by
  have FR := Evs.start w e ht
  have R0 := right_of hc
  have R1 : Right via (toE v via e) := right_to R0 h2 (by omega)
  have A1 : Hid (toR v to e = toE v to e ∧ toC v to e = 0) := by
    have hb : ¬ toBad v to := by unfold toBad; omega
    exact ⟨by unfold toR; rw [if_neg hb, if_pos hc], by unfold toC; rw [if_neg hb]; exact hc⟩
  have A2 : Hid (toR v via e = toE v via e ∧ toC v via e = 0) := by
    have hb : ¬ toBad v via := by unfold toBad; omega
    exact ⟨by unfold toR; rw [if_neg hb, if_pos hc], by unfold toC; rw [if_neg hb]; exact hc⟩
  have A3 : Hid (toR via to (toE v via e) = toE v to e ∧ toC via to (toE v via e) = 0) := by
    have hb : ¬ toBad via to := by unfold toBad; omega
    exact ⟨by unfold toR; rw [if_neg hb, if_pos (chk_of R1)]; exact to_two e v via to h1 h2 h3 h5, by unfold toC; rw [if_neg hb]; exact chk_of R1⟩
  clear ht
  obtain ⟨whole, HW⟩ : ∃ x, Hid (toE v to e = x) := ⟨_, rfl⟩
  obtain ⟨half, HH⟩ : ∃ x, Hid (toE v via e = x) := ⟨_, rfl⟩
  rw [HW.out] at A1 A3
  rw [HH.out] at A2 A3 R1
  have d1 : decide (via < v) = false := by simp; omega
  have d2 : decide (to < via) = false := by simp; omega
  have hself := fun w' => ev_neq whole w'
  have hself2 := fun w' => ev_eql whole w'
  by_cases hlt : via < to
  · have A4 : Hid (toR via (via + 1) half = upE via half ∧ toC via (via + 1) half = 0) := by
      have hb : ¬ toBad via (via + 1) := by unfold toBad; omega
      exact ⟨by unfold toR; rw [if_neg hb, if_pos (chk_of R1)]; exact to_one half via (by omega) (by omega), by unfold toC; rw [if_neg hb]; exact chk_of R1⟩
    have R2 := right_up R1 (by omega)
    have A5 : Hid (toR (via + 1) to (upE via half) = whole ∧ toC (via + 1) to (upE via half) = 0) := by
      have hb : ¬ toBad (via + 1) to := by unfold toBad; omega
      refine ⟨?_, by unfold toC; rw [if_neg hb]; exact chk_of R2⟩
      unfold toR
      rw [if_neg hb, if_pos (chk_of R2), ← to_one half via (by omega) (by omega), to_two half via (via + 1) to (by omega) (by omega) (by omega) h5, ← HH.out, ← HW.out]
      exact to_two e v via to h1 h2 h3 h5
    obtain ⟨one, HO⟩ : ∃ x, Hid (upE via half = x) := ⟨_, rfl⟩
    rw [HO.out] at A4 A5
    clear R0 R1 R2 hc
    go_enter Tryd.func6, Tryd.ntmps6
    go_wp2_with (first
      | ((with_reducible refine guard_load 24 ?_); first | refine wpList_load_ev rfl _ rfl (FR.out.at 0 _ _ rfl) rfl ?_ | refine wpList_load_ev rfl _ rfl (FR.out.at 1 _ _ rfl) rfl ?_ | refine wpList_load_ev rfl _ rfl (FR.out.at 2 _ _ rfl) rfl ?_ | refine wpList_load_ev rfl _ rfl (FR.out.at 3 _ _ rfl) rfl ?_ | refine wpList_load_ev rfl _ rfl (FR.out.at 4 _ _ rfl) rfl ?_)
      | ((with_reducible refine guard_loadg 24 ?_); first | refine wpList_load_evg (by rfl) _ rfl (FR.out.at 0 _ _ rfl) rfl ?_ | refine wpList_load_evg (by rfl) _ rfl (FR.out.at 1 _ _ rfl) rfl ?_ | refine wpList_load_evg (by rfl) _ rfl (FR.out.at 2 _ _ rfl) rfl ?_ | refine wpList_load_evg (by rfl) _ rfl (FR.out.at 3 _ _ rfl) rfl ?_ | refine wpList_load_evg (by rfl) _ rfl (FR.out.at 4 _ _ rfl) rfl ?_ | refine wpList_load_evg (by rfl) _ rfl (FR.out.at 5 _ _ rfl) rfl ?_)
      | (go_at_call 9; refine (head07_any _ FR.out.2.1).mono ?_; rintro _ w8 ⟨rfl, hb7⟩; have FQ := FR.out.keep hb7; clear FR hb7; have FR := FQ; clear FQ)
      | (go_at_call_of 10 (one); refine (to_any (via + 1) to one _ FR.out.2.1).mono ?_; rw [A5.out.1, A5.out.2]; rintro _ wd ⟨rfl, hb7⟩; have FQ := FR.out.keep hb7; clear FR hb7; have FR := FQ; clear FQ)
      | (go_at_call_of 10 (half); refine (to_any via to half _ FR.out.2.1).mono ?_; rw [A3.out.1, A3.out.2]; rintro _ wc ⟨rfl, hb7⟩; have FQ := FR.out.keep hb7; clear FR hb7; have FR := FQ; clear FQ)
      | (go_at_call_of 10 (via); refine (to_any v via e _ FR.out.2.1).mono ?_; rw [A2.out.1, A2.out.2]; rintro _ wb ⟨rfl, hb7⟩; have FQ := FR.out.keep hb7; clear FR hb7; have FR := FQ; clear FQ)
      | (go_at_call 10; refine (to_any v to e _ FR.out.2.1).mono ?_; rw [A1.out.1, A1.out.2]; rintro _ wa ⟨rfl, hb7⟩; have FQ := FR.out.keep hb7; clear FR hb7; have FR := FQ; clear FQ)
      | (go_at_call 7; refine (step_any via half _ FR.out.2.1 (by omega) (by omega)).mono ?_; rw [A4.out.1, A4.out.2]; rintro _ we ⟨rfl, hb7⟩; have FQ := FR.out.keep hb7; clear FR hb7; have FR := FQ; clear FQ)
      | ((with_reducible refine guard_store 24 ?_); first | (refine wpList_store_ev (e := zeroE) (e2 := whole) rfl _ _ rfl (evAt_new wa zeroE) rfl rfl ?_; intro w9 z1 z2 z3 z4; have FQ := FR.out.more z1 z2; clear FR z1 z2 z3 z4; have FR := FQ; clear FQ) | (refine wpList_store_ev (e := zeroE) (e2 := half) rfl _ _ rfl (evAt_new wb zeroE) rfl rfl ?_; intro w9 z1 z2 z3 z4; have FQ := FR.out.more z1 z2; clear FR z1 z2 z3 z4; have FR := FQ; clear FQ) | (refine wpList_store_ev (e := zeroE) (e2 := whole) rfl _ _ rfl (evAt_new wc zeroE) rfl rfl ?_; intro w9 z1 z2 z3 z4; have FQ := FR.out.more z1 z2; clear FR z1 z2 z3 z4; have FR := FQ; clear FQ) | (refine wpList_store_ev (e := zeroE) (e2 := one) rfl _ _ rfl (evAt_new we zeroE) rfl rfl ?_; intro w9 z1 z2 z3 z4; have FQ := FR.out.more z1 z2; clear FR z1 z2 z3 z4; have FR := FQ; clear FQ) | (refine wpList_store_ev (e := zeroE) (e2 := whole) rfl _ _ rfl (evAt_new wd zeroE) rfl rfl ?_; intro w9 z1 z2 z3 z4; have FQ := FR.out.more z1 z2; clear FR z1 z2 z3 z4; have FR := FQ; clear FQ)))
    go_ret
    exact ⟨ret_bool (by first | rfl | (simp; done)), FR.out.1⟩
  · clear R0 R1 hc
    go_enter Tryd.func6, Tryd.ntmps6
    go_wp2_with (first
      | ((with_reducible refine guard_load 24 ?_); first | refine wpList_load_ev rfl _ rfl (FR.out.at 0 _ _ rfl) rfl ?_ | refine wpList_load_ev rfl _ rfl (FR.out.at 1 _ _ rfl) rfl ?_ | refine wpList_load_ev rfl _ rfl (FR.out.at 2 _ _ rfl) rfl ?_)
      | ((with_reducible refine guard_loadg 24 ?_); first | refine wpList_load_evg (by rfl) _ rfl (FR.out.at 0 _ _ rfl) rfl ?_ | refine wpList_load_evg (by rfl) _ rfl (FR.out.at 1 _ _ rfl) rfl ?_ | refine wpList_load_evg (by rfl) _ rfl (FR.out.at 2 _ _ rfl) rfl ?_ | refine wpList_load_evg (by rfl) _ rfl (FR.out.at 3 _ _ rfl) rfl ?_)
      | (go_at_call 9; refine (head07_any _ FR.out.2.1).mono ?_; rintro _ w8 ⟨rfl, hb7⟩; have FQ := FR.out.keep hb7; clear FR hb7; have FR := FQ; clear FQ)
      | (go_at_call_of 10 (half); refine (to_any via to half _ FR.out.2.1).mono ?_; rw [A3.out.1, A3.out.2]; rintro _ wc ⟨rfl, hb7⟩; have FQ := FR.out.keep hb7; clear FR hb7; have FR := FQ; clear FQ)
      | (go_at_call_of 10 (via); refine (to_any v via e _ FR.out.2.1).mono ?_; rw [A2.out.1, A2.out.2]; rintro _ wb ⟨rfl, hb7⟩; have FQ := FR.out.keep hb7; clear FR hb7; have FR := FQ; clear FQ)
      | (go_at_call 10; refine (to_any v to e _ FR.out.2.1).mono ?_; rw [A1.out.1, A1.out.2]; rintro _ wa ⟨rfl, hb7⟩; have FQ := FR.out.keep hb7; clear FR hb7; have FR := FQ; clear FQ)
      | ((with_reducible refine guard_store 24 ?_); first | (refine wpList_store_ev (e := zeroE) (e2 := whole) rfl _ _ rfl (evAt_new wa zeroE) rfl rfl ?_; intro w9 z1 z2 z3 z4; have FQ := FR.out.more z1 z2; clear FR z1 z2 z3 z4; have FR := FQ; clear FQ) | (refine wpList_store_ev (e := zeroE) (e2 := half) rfl _ _ rfl (evAt_new wb zeroE) rfl rfl ?_; intro w9 z1 z2 z3 z4; have FQ := FR.out.more z1 z2; clear FR z1 z2 z3 z4; have FR := FQ; clear FQ) | (refine wpList_store_ev (e := zeroE) (e2 := whole) rfl _ _ rfl (evAt_new wc zeroE) rfl rfl ?_; intro w9 z1 z2 z3 z4; have FQ := FR.out.more z1 z2; clear FR z1 z2 z3 z4; have FR := FQ; clear FQ)))
    go_ret
    exact ⟨ret_bool (by first | rfl | (simp; done)), FR.out.1⟩
theorem walk (v via to : Int) (e : Ev) (w : World) (w0 : (Lit.int .i64 v).wf = true) (w1 : (Lit.int .i64 via).wf = true) (w2 : (Lit.int .i64 to).wf = true) (w3 : e.Fit) (ht : Tax w) :
    Calls Tryd.prog 6 #[.int .i64 v, .int .i64 via, .int .i64 to, .agg (evA e)] w fun x w' => x = .returned (.bool true) ∧ Below w.heap.size w w' := by
  by_cases h : toC v to e = 0
  · by_cases h2 : via < v ∨ (v ≤ via ∧ to < via)
    · exact walk_no v via to e w ht (.inr ⟨by simpa using h, h2⟩)
    · have hb : ¬ toBad v to := by intro hb; unfold toC at h; rw [if_pos hb] at h; cases h
      have hc : chk v e = 0 := by unfold toC at h; rwa [if_neg hb] at h
      unfold toBad at hb
      exact walk_yes v via to e w ht hc (by omega) (by omega) (by omega) (by omega)
  · exact walk_no v via to e w ht (.inl (by simpa using h))
theorem own : ownKnob Tryd.prog.godebug = none := by kernel_rfl
theorem laidOut : laidOutB Tryd.prog = true := by kernel_rfl
set_option maxRecDepth 100000 in
theorem contract (H : Type) (enc : TypeId × Value → H) (W : World) (base : Nat) (args : Array Value) (ds gs : List (DataW H)) (before : List MemPlace)
    (hval : ∀ (j : Nat) t v, Tryd.f6.params[j]? = some t → args[j]? = some v → Value.okWide Tryd.prog W .any base t v)
    (hW : DataW.Whole enc Tryd.prog Tryd.f6.params.toList Rows.upcastTwoSpec.vars false W args.toList ds gs before)
    (hsz : (DataW.weightsEach Tryd.prog (Tryd.f6.params.toList ++ Rows.upcastTwoSpec.plain.varTypes Tryd.prog) (ds ++ gs)).all (· ≤ reachBytes) = true) (hL : laidMetH Tryd.prog [("daybook/upcast.taxes", Rows.laid_daybook_upcast_taxes)] W) :
    Calls Tryd.prog 6 args W fun e W' => ∃ v, e = .returned v ∧ Rows.upcastTwoSpec.post enc Tryd.prog Tryd.f6 false true false false W args v W' := by
  have hW' := hW
  obtain ⟨p, q, hA0, hV, rfl, hfz, hnd⟩ := hW
  have hA : DataW.TrodAll enc Tryd.prog W 0 (fun _ => true) true Tryd.f6.params.toList args.toList ds p := hA0
  rw [Tryd.params6] at hA hval hsz
  obtain ⟨v0, vs0, d0, ds0, p0, q0, hargs, rfl, rfl, h0, r0⟩ := trodAll_cons hA
  obtain ⟨v1, vs1, d1, ds1, p1, q1, rfl, rfl, rfl, h1, r1⟩ := trodAll_cons r0
  obtain ⟨v2, vs2, d2, ds2, p2, q2, rfl, rfl, rfl, h2, r2⟩ := trodAll_cons r1
  obtain ⟨v3, vs3, d3, ds3, p3, q3, rfl, rfl, rfl, h3, r3⟩ := trodAll_cons r2
  obtain ⟨rfl, rfl, rfl⟩ := trodAll_nil r3
  obtain rfl : args = #[v0, v1, v2, v3] := by cases args; simp_all
  obtain ⟨rfl, rfl⟩ := trodVars_none hV
  obtain ⟨a0, rfl, rfl, rfl, w0⟩ := open_int Tryd.underlying3 (hval 0 3 v0 rfl rfl) h0
  obtain ⟨a1, rfl, rfl, rfl, w1⟩ := open_int Tryd.underlying3 (hval 1 3 v1 rfl rfl) h1
  obtain ⟨a2, rfl, rfl, rfl, w2⟩ := open_int Tryd.underlying3 (hval 2 3 v2 rfl rfl) h2
  have k3 := h3
  have lt3 : ∀ x ∈ p3, x.block < W.heap.size := by obtain ⟨m, hm⟩ := k3; exact DataW.trod_lt m _ _ _ hm
  obtain ⟨a3, rfl, _, w3⟩ := open_event Tryd.underlying24 (by kernel_rfl) (by kernel_rfl) (by kernel_rfl) (by kernel_rfl) (by kernel_rfl) (by kernel_rfl) (by kernel_rfl) (by kernel_rfl) (by kernel_rfl) (by kernel_rfl) (by kernel_rfl) (by kernel_rfl) (hval 3 24 v3 rfl rfl) h3
  clear hA0
  refine (walk a0 a1 a2 a3 W w0 w1 w2 w3 (tax_of hL)).mono fun e W' ⟨he, bel⟩ => ?_
  subst he
  exact ⟨_, rfl, _, _, _, [], _, [], hW', trodAll_mk1 (shut_bool Tryd.underlying4 _), (trodAll_cons_mk (shut_int Tryd.underlying3 w0) (trodAll_cons_mk (shut_int Tryd.underlying3 w1) (trodAll_cons_mk (shut_int Tryd.underlying3 w2) (trodAll_cons_mk (Below.trod laidOut (by kernel_rfl) (of_decide_eq_true (by kernel_rfl)) k3 bel lt3) trodAll_mk0)))), rfl, bel.frame _, fun h => by cases h⟩
set_option maxRecDepth 100000 in
theorem start (os : Os) : ∃ w0 : World, w0.os = os ∧ (w0.forCall (fun _ _ => 0) ⟨#[], #[.int .i64 0, .int .i64 0, .int .i64 0, .agg #[.int .i64 0, .int .i64 0, .int .i64 0, .int .i64 0, .int .i64 0, .int .i64 0, .int .i64 0, .string ⟨#[]⟩, .int .i64 0, .string ⟨#[]⟩]], []⟩).variablesB Tryd.prog = true ∧
    ((w0.forCall (fun _ _ => 0) ⟨#[], #[.int .i64 0, .int .i64 0, .int .i64 0, .agg #[.int .i64 0, .int .i64 0, .int .i64 0, .int .i64 0, .int .i64 0, .int .i64 0, .int .i64 0, .string ⟨#[]⟩, .int .i64 0, .string ⟨#[]⟩]], []⟩).heap.toList.drop Tryd.prog.globals.size).take ((begin Tryd.prog (fun _ _ => 0) default).world.heap.size - Tryd.prog.globals.size) = (begin Tryd.prog (fun _ _ => 0) default).world.heap.toList.drop Tryd.prog.globals.size ∧
    Input.okWideB Tryd.prog (w0.forCall (fun _ _ => 0) ⟨#[], #[.int .i64 0, .int .i64 0, .int .i64 0, .agg #[.int .i64 0, .int .i64 0, .int .i64 0, .int .i64 0, .int .i64 0, .int .i64 0, .int .i64 0, .string ⟨#[]⟩, .int .i64 0, .string ⟨#[]⟩]], []⟩) 6 ⟨#[], #[.int .i64 0, .int .i64 0, .int .i64 0, .agg #[.int .i64 0, .int .i64 0, .int .i64 0, .int .i64 0, .int .i64 0, .int .i64 0, .int .i64 0, .string ⟨#[]⟩, .int .i64 0, .string ⟨#[]⟩]], []⟩ = true ∧
    laidMet Tryd.prog Rows.upcastTwoRow.laid (w0.forCall (fun _ _ => 0) ⟨#[], #[.int .i64 0, .int .i64 0, .int .i64 0, .agg #[.int .i64 0, .int .i64 0, .int .i64 0, .int .i64 0, .int .i64 0, .int .i64 0, .int .i64 0, .string ⟨#[]⟩, .int .i64 0, .string ⟨#[]⟩]], []⟩).memory ∧
    ∀ (H : Type) (enc : TypeId × Value → H), DataW.whole enc Tryd.prog (w0.forCall (fun _ _ => 0) ⟨#[], #[.int .i64 0, .int .i64 0, .int .i64 0, .agg #[.int .i64 0, .int .i64 0, .int .i64 0, .int .i64 0, .int .i64 0, .int .i64 0, .int .i64 0, .string ⟨#[]⟩, .int .i64 0, .string ⟨#[]⟩]], []⟩).memory Tryd.f6.params.toList Rows.upcastTwoSpec.vars false (#[.int .i64 0, .int .i64 0, .int .i64 0, .agg #[.int .i64 0, .int .i64 0, .int .i64 0, .int .i64 0, .int .i64 0, .int .i64 0, .int .i64 0, .string ⟨#[]⟩, .int .i64 0, .string ⟨#[]⟩]] : Array Value).toList 8 = some ([.lit (.int .i64 0), .lit (.int .i64 0), .lit (.int .i64 0), .agg [.lit (.int .i64 0), .lit (.int .i64 0), .lit (.int .i64 0), .lit (.int .i64 0), .lit (.int .i64 0), .lit (.int .i64 0), .lit (.int .i64 0), .lit (.string []), .lit (.int .i64 0), .lit (.string [])]], [], []) :=
  ⟨{ World.holding Tryd.prog os ⟨#[], #[], []⟩ with heap := (World.holding Tryd.prog os ⟨#[], #[], []⟩).heap.modify 0 fun
      | .cells _ t frozen => .cells #[.int .i64 0, .int .i64 1900, .int .i64 2000, .int .i64 700] t frozen
      | o => o }, rfl, by kernel_rfl, by kernel_rfl, by kernel_rfl, laidMet_of_run' 8 (by kernel_rfl) (by kernel_rfl), fun _ _ => by kernel_rfl⟩
set_option maxRecDepth 100000 in
theorem lifted (os : Os) (started : os.Started) (H : Type) (enc : TypeId × Value → H) (F : Stop.Interp) :
    ReturnsInHanded {} Tryd.checked os 6 .any ((OpenSpec.ofChange Rows.upcastTwoSpec).preRow enc Tryd.prog Tryd.f6 Rows.upcastTwoRow.domain false Rows.upcastTwoRow.laid) (((OpenSpec.ofChange Rows.upcastTwoSpec).at F).post enc Tryd.prog Tryd.f6 false true false false) := by
  obtain ⟨w0, h1, h2, h3, h4, h5, h6⟩ := start os
  refine returnsInHanded_of_row (C := Tryd.checked) (s := OpenSpec.ofChange Rows.upcastTwoSpec) own started (by kernel_rfl) Tryd.func6
    (witness_row_at (enc := enc) (C := Tryd.checked) false w0 #[.int .i64 0, .int .i64 0, .int .i64 0, .agg #[.int .i64 0, .int .i64 0, .int .i64 0, .int .i64 0, .int .i64 0, .int .i64 0, .int .i64 0, .string ⟨#[]⟩, .int .i64 0, .string ⟨#[]⟩]] h1 h2 h3 h4
      (OpenSpec.preRow_of_cond 8 (h6 H enc) (by kernel_rfl) (fun k hk => by cases hk) (by kernel_rfl) h5)) ?_
  intro W base args ds gs before hval hW _ hcond hsz hL _ _
  exact contract H enc W base args ds gs before hval hW hsz hL
theorem said : Rows.UpcastTwoSaid :=
  OpenClaim.holds_of_cond 6 Tryd.f6 rfl rfl rfl rfl rfl rfl rfl ⟨rfl, rfl, rfl, rfl, rfl⟩ rfl rfl rfl rfl rfl (by kernel_rfl) Tryd.func6 (by kernel_rfl)
    (of_decide_eq_true (by kernel_rfl)) (by unfold Func.isWrapper; first | (rw [if_pos (by decide +kernel)]; kernel_rfl) | (rw [if_neg (by decide +kernel)]; exact ⟨rfl, rfl⟩))
    (fun os started H enc _ F => by rw [OpenClaim.pre_eq_preRow]; exact lifted os started H enc F)
theorem plain (f : FuncId) (fn : Func) (hf : Tryd.pinned.checked.prog.funcNamed "daybook/daybooklaw07.UpcastTwo" = some f) (hfn : Tryd.pinned.checked.prog.funcs[f]? = some fn) :
    false = Tryd.pinned.checked.prog.looks [] ∧ ∀ (j : Nat) t, fn.params[j]? = some t → Tryd.pinned.checked.prog.wantsStandIn t = false := by
  obtain rfl : f = 6 := Option.some.inj ((show Tryd.prog.funcNamed "daybook/daybooklaw07.UpcastTwo" = some 6 by kernel_rfl).symm.trans hf) |>.symm
  obtain rfl : fn = Tryd.f6 := (Option.some.inj (Tryd.func6.symm.trans hfn)).symm
  refine ⟨by kernel_rfl, fun j t ht => ?_⟩
  rw [Tryd.params6] at ht
  have hm := Array.mem_of_getElem? ht
  have hall : ∀ t ∈ (#[3, 3, 3, 24] : Array TypeId), Tryd.prog.wantsStandIn t = false := by
    intro t ht
    simp only [List.mem_toArray, List.mem_cons, List.not_mem_nil, or_false] at ht
    rcases ht with rfl | rfl | rfl | rfl <;> kernel_rfl
  exact hall t hm
theorem card : Rows.UpcastTwoCardSaid :=
  Claim7.holds_tied_plain_at .later [] _ _ _ _ said (fun _ h => by cases h) (by kernel_rfl) (fun _ h => by cases h) upcastTwo_row_tie rfl ⟨rfl, rfl⟩ (by kernel_rfl) rfl plain (by kernel_rfl)
end Go.Proofs.YtbgdkpkeghnmmaaDoor.upcastTwo
