/- Step answers as the reference does: for every number and event. -/
import Derived.Test.YtbgdkpkeghnmmaaDoorRTo
import Derived.Test.YtbgdkpkeghnmmaaDoorTaxTie
import Derived.SizedLaws
import Derived.ChangeOld
namespace Go.Proofs.YtbgdkpkeghnmmaaDoor.upcastSteps
open Go.ChangeShapes Go.WideShapes Go.ChangeAt Go.RowKit
set_option linter.unusedVariables false
def payE : Ev := ⟨3, 1, 0, 0, 3, 0, 0, ⟨#[]⟩, 0, ⟨#[]⟩⟩
theorem pay_ok : chk 1 payE = 0 := chk_of ⟨by decide, by decide, by decide, by decide, by decide, by decide, by decide, by decide, by decide, by decide, by decide, by decide, by decide, by decide, by decide, by decide, by decide, by decide, by decide, by decide, by decide, .inr rfl, .inr rfl, .inr nilB_nil, .inr ⟨rfl, nilB_nil⟩⟩
theorem pay_r : toR 1 (1 + 1) payE = upE 1 payE := by
  unfold toR
  rw [if_neg (by unfold toBad; omega), if_pos pay_ok]
  rfl
theorem pay_c : toC 1 (1 + 1) payE = 0 := by
  unfold toC
  rw [if_neg (by unfold toBad; omega)]
  exact pay_ok

set_option maxRecDepth 20000 in
set_option maxHeartbeats 4000000 in
theorem walk_in (v : Int) (e : Ev) (w : World) (ht : Tax w) (h1 : 1 ≤ v) (h4 : v ≤ 4) :
    Calls Tryd.prog 3 #[.int .i64 v, .agg (evA e)] w fun x w' => x = .returned (.bool true) ∧ Below w.heap.size w w' := by
  have FR := Evs.start w e ht
  have HT0 := ht.1
  obtain ⟨X, HX⟩ : ∃ x, Hid (toR v (v + 1) e = x) := ⟨_, rfl⟩
  obtain ⟨C, HC⟩ : ∃ x, Hid (toC v (v + 1) e = x) := ⟨_, rfl⟩
  have hself := fun w' => ev_eql X w'
  have d1 : decide (v < 1) = false := by simp; omega
  have d2 : decide (4 < v) = false := by simp; omega
  clear ht
  go_enter Tryd.func3, Tryd.ntmps3
  go_wp2_with (first
    | ((with_reducible refine guard_load 24 ?_); first | refine wpList_load_ev rfl _ rfl (FR.out.at 0 _ _ rfl) rfl ?_ | refine wpList_load_ev rfl _ rfl (FR.out.at 1 _ _ rfl) rfl ?_ | refine wpList_load_ev rfl _ rfl (FR.out.at 2 _ _ rfl) rfl ?_ | refine wpList_load_ev rfl _ rfl (FR.out.at 3 _ _ rfl) rfl ?_)
    | ((with_reducible refine guard_loadg 24 ?_); first | refine wpList_load_evg (by rfl) _ rfl (FR.out.at 0 _ _ rfl) rfl ?_ | refine wpList_load_evg (by rfl) _ rfl (FR.out.at 1 _ _ rfl) rfl ?_ | refine wpList_load_evg (by rfl) _ rfl (FR.out.at 2 _ _ rfl) rfl ?_ | refine wpList_load_evg (by rfl) _ rfl (FR.out.at 3 _ _ rfl) rfl ?_)
    | (go_at_call_of 7 (e); refine (step_any v e _ FR.out.2.1 h1 h4).mono ?_; rw [HX.out, HC.out]; rintro _ wb ⟨rfl, hb7⟩; have FQ := FR.out.keep hb7; clear FR hb7; have FR := FQ; clear FQ)
    | (go_at_call 7; refine (step_any 1 payE _ FR.out.2.1 (by omega) (by omega)).mono ?_; rw [pay_r, pay_c]; rintro _ wz ⟨rfl, hb7⟩; have FQ := FR.out.keep hb7; clear FR hb7; have FR := FQ; clear FQ)
    | (go_at_call 8; refine (rto_any v (v + 1) e _ FR.out.2.1).mono ?_; rw [HX.out, HC.out]; rintro _ wa ⟨rfl, hb7⟩; have FQ := FR.out.keep hb7; clear FR hb7; have FR := FQ; clear FQ; have hwa : w.heap.size < wa.heap.size := (FR.out.at 1 _ _ rfl).lt; have hwz : wz.heap.size < wa.heap.size := (FR.out.at 0 _ _ rfl).lt; clear k4)
    | ((with_reducible refine guard_store 24 ?_); first | ((refine wpList_store_ev (e := zeroE) (e2 := upE 1 payE) rfl _ _ rfl (evAt_new wz zeroE) rfl rfl ?_; intro w9 z1 z2 z3 z4; have FQ := FR.out.more z1 z2; clear FR z1 z2 z3 z4; have FR := FQ; clear FQ); have k4 := (FR.out.at 0 _ _ rfl).cell 4 (.int .i64 300) rfl) | (refine wpList_store_ev (e := zeroE) (e2 := X) rfl _ _ rfl (evAt_new wa zeroE) rfl rfl ?_; intro w9 z1 z2 z3 z4; have FQ := FR.out.more z1 z2; clear FR z1 z2 z3 z4; have FR := FQ; clear FQ) | (refine wpList_store_ev (e := zeroE) (e2 := X) rfl _ _ rfl (evAt_new wb zeroE) rfl rfl ?_; intro w9 z1 z2 z3 z4; have FQ := FR.out.more z1 z2; clear FR z1 z2 z3 z4; have FR := FQ; clear FQ)))
  all_goals
    go_ret
    exact ⟨ret_bool (by first | rfl | (simp; done)), FR.out.1⟩
theorem bad_of (v : Int) (hw : (Lit.int .i64 v).wf = true) (h : v < 1 ∨ 4 < v) : toBad v (wrap64 (v + 1)) := by
  have hv := inW_of hw
  unfold inW at hv
  unfold toBad wrap64
  omega
set_option maxRecDepth 20000 in
set_option maxHeartbeats 2000000 in
theorem step_out (v : Int) (e : Ev) (w : World) (ht : Tax w) (hb : Hid (toBad v (wrap64 (v + 1)))) :
    Calls Tryd.prog 7 #[.int .i64 v, .agg (evA e)] w fun x w' => x = .returned (.tuple #[.agg (evA zeroE), .int .i64 30]) ∧ Below w.heap.size w w' := by
  have HT0 := ht.1
  have FR := Fr.start w e ht
  have HZ : Hid (toR v (wrap64 (v + 1)) e = zeroE ∧ toC v (wrap64 (v + 1)) e = 30) := ⟨if_pos hb.out, if_pos hb.out⟩
  clear ht
  go_enter Tryd.func7, Tryd.ntmps7
  go_wp2_with (first
    | ((with_reducible refine guard_load 24 ?_); refine wpList_load_ev rfl _ rfl FR.out.1 rfl ?_)
    | (go_at_call 10; refine (to_any v (wrap64 (v + 1)) e _ FR.out.2.2.2).mono ?_; rw [HZ.out.1, HZ.out.2]; rintro _ w8 ⟨rfl, hb8⟩; have FQ := FR.out.keep hb8; clear FR hb8; have FR := FQ; clear FQ)
    | ((with_reducible refine guard_store 24 ?_); refine wpList_store_ev rfl _ _ rfl FR.out.2.1 rfl rfl ?_; intro w9 z1 z2 z3 z4; have FQ := FR.out.put2 (by omega) (by omega) HT0 z1 z2 z3 z4; clear FR z1 z2 z3 z4; have FR := FQ; clear FQ))
  exact bodyPost_ret (v := .tuple #[.agg (evA zeroE), .int .i64 30]) (results_ev Tryd.results7 _ _ _ _ _ rfl rfl FR.out.2.1) rfl ⟨rfl, FR.out.2.2.1⟩
set_option maxRecDepth 20000 in
set_option maxHeartbeats 4000000 in
theorem walk_low (v : Int) (e : Ev) (w : World) (ht : Tax w) (hb : Hid (toBad v (wrap64 (v + 1)))) (h : v < 1) :
    Calls Tryd.prog 3 #[.int .i64 v, .agg (evA e)] w fun x w' => x = .returned (.bool true) ∧ Below w.heap.size w w' := by
  have FR := Evs.start w e ht
  have HT0 := ht.1
  have HZ : Hid (toR v (wrap64 (v + 1)) e = zeroE ∧ toC v (wrap64 (v + 1)) e = 30) := ⟨if_pos hb.out, if_pos hb.out⟩
  have hself := fun w' => ev_eql zeroE w'
  have d0 : decide (v < 1) = true := by simpa using h
  clear ht
  go_enter Tryd.func3, Tryd.ntmps3
  go_wp2_with (first
    | ((with_reducible refine guard_load 24 ?_); first | refine wpList_load_ev rfl _ rfl (FR.out.at 0 _ _ rfl) rfl ?_ | refine wpList_load_ev rfl _ rfl (FR.out.at 1 _ _ rfl) rfl ?_ | refine wpList_load_ev rfl _ rfl (FR.out.at 2 _ _ rfl) rfl ?_ | refine wpList_load_ev rfl _ rfl (FR.out.at 3 _ _ rfl) rfl ?_)
    | ((with_reducible refine guard_loadg 24 ?_); first | refine wpList_load_evg (by rfl) _ rfl (FR.out.at 0 _ _ rfl) rfl ?_ | refine wpList_load_evg (by rfl) _ rfl (FR.out.at 1 _ _ rfl) rfl ?_ | refine wpList_load_evg (by rfl) _ rfl (FR.out.at 2 _ _ rfl) rfl ?_ | refine wpList_load_evg (by rfl) _ rfl (FR.out.at 3 _ _ rfl) rfl ?_)
    | (go_at_call_of 7 (e); refine (step_out v e _ FR.out.2.1 hb).mono ?_; rintro _ wb ⟨rfl, hb7⟩; have FQ := FR.out.keep hb7; clear FR hb7; have FR := FQ; clear FQ)
    | (go_at_call 7; refine (step_any 1 payE _ FR.out.2.1 (by omega) (by omega)).mono ?_; rw [pay_r, pay_c]; rintro _ wz ⟨rfl, hb7⟩; have FQ := FR.out.keep hb7; clear FR hb7; have FR := FQ; clear FQ)
    | (go_at_call 8; refine (rto_any v (wrap64 (v + 1)) e _ FR.out.2.1).mono ?_; rw [HZ.out.1, HZ.out.2]; rintro _ wa ⟨rfl, hb7⟩; have FQ := FR.out.keep hb7; clear FR hb7; have FR := FQ; clear FQ; have hwa : w.heap.size < wa.heap.size := (FR.out.at 1 _ _ rfl).lt; have hwz : wz.heap.size < wa.heap.size := (FR.out.at 0 _ _ rfl).lt; clear k4)
    | ((with_reducible refine guard_store 24 ?_); first | ((refine wpList_store_ev (e := zeroE) (e2 := upE 1 payE) rfl _ _ rfl (evAt_new wz zeroE) rfl rfl ?_; intro w9 z1 z2 z3 z4; have FQ := FR.out.more z1 z2; clear FR z1 z2 z3 z4; have FR := FQ; clear FQ); have k4 := (FR.out.at 0 _ _ rfl).cell 4 (.int .i64 300) rfl) | (refine wpList_store_ev (e := zeroE) (e2 := zeroE) rfl _ _ rfl (evAt_new wa zeroE) rfl rfl ?_; intro w9 z1 z2 z3 z4; have FQ := FR.out.more z1 z2; clear FR z1 z2 z3 z4; have FR := FQ; clear FQ) | (refine wpList_store_ev (e2 := zeroE) rfl _ _ rfl (FR.out.at 0 _ _ rfl) rfl rfl ?_; intro w9 z1 z2 z3 z4; have FQ := FR.out.put (m := [(wz.heap.size, upE 1 payE), (w.heap.size, e)]) HT0 (by omega) (by simp; omega) z1 z2 z3 z4; clear FR z1 z2 z3 z4; have FR := FQ; clear FQ) | (refine wpList_store_ev (e := zeroE) (e2 := zeroE) rfl _ _ rfl (evAt_new wb zeroE) rfl rfl ?_; intro w9 z1 z2 z3 z4; have FQ := FR.out.more z1 z2; clear FR z1 z2 z3 z4; have FR := FQ; clear FQ)))
  all_goals
    go_ret
    exact ⟨ret_bool (by first | rfl | (simp; done)), FR.out.1⟩
set_option maxRecDepth 20000 in
set_option maxHeartbeats 4000000 in
theorem walk_high (v : Int) (e : Ev) (w : World) (ht : Tax w) (hb : Hid (toBad v (wrap64 (v + 1)))) (h : 4 < v) :
    Calls Tryd.prog 3 #[.int .i64 v, .agg (evA e)] w fun x w' => x = .returned (.bool true) ∧ Below w.heap.size w w' := by
  have FR := Evs.start w e ht
  have HT0 := ht.1
  have HZ : Hid (toR v (wrap64 (v + 1)) e = zeroE ∧ toC v (wrap64 (v + 1)) e = 30) := ⟨if_pos hb.out, if_pos hb.out⟩
  have hself := fun w' => ev_eql zeroE w'
  have d0 : decide (v < 1) = false := by simp; omega
  have d1 : decide (4 < v) = true := by simpa using h
  clear ht
  go_enter Tryd.func3, Tryd.ntmps3
  go_wp2_with (first
    | ((with_reducible refine guard_load 24 ?_); first | refine wpList_load_ev rfl _ rfl (FR.out.at 0 _ _ rfl) rfl ?_ | refine wpList_load_ev rfl _ rfl (FR.out.at 1 _ _ rfl) rfl ?_ | refine wpList_load_ev rfl _ rfl (FR.out.at 2 _ _ rfl) rfl ?_ | refine wpList_load_ev rfl _ rfl (FR.out.at 3 _ _ rfl) rfl ?_)
    | ((with_reducible refine guard_loadg 24 ?_); first | refine wpList_load_evg (by rfl) _ rfl (FR.out.at 0 _ _ rfl) rfl ?_ | refine wpList_load_evg (by rfl) _ rfl (FR.out.at 1 _ _ rfl) rfl ?_ | refine wpList_load_evg (by rfl) _ rfl (FR.out.at 2 _ _ rfl) rfl ?_ | refine wpList_load_evg (by rfl) _ rfl (FR.out.at 3 _ _ rfl) rfl ?_)
    | (go_at_call_of 7 (e); refine (step_out v e _ FR.out.2.1 hb).mono ?_; rintro _ wb ⟨rfl, hb7⟩; have FQ := FR.out.keep hb7; clear FR hb7; have FR := FQ; clear FQ)
    | (go_at_call 7; refine (step_any 1 payE _ FR.out.2.1 (by omega) (by omega)).mono ?_; rw [pay_r, pay_c]; rintro _ wz ⟨rfl, hb7⟩; have FQ := FR.out.keep hb7; clear FR hb7; have FR := FQ; clear FQ)
    | (go_at_call 8; refine (rto_any v (wrap64 (v + 1)) e _ FR.out.2.1).mono ?_; rw [HZ.out.1, HZ.out.2]; rintro _ wa ⟨rfl, hb7⟩; have FQ := FR.out.keep hb7; clear FR hb7; have FR := FQ; clear FQ; have hwa : w.heap.size < wa.heap.size := (FR.out.at 1 _ _ rfl).lt; have hwz : wz.heap.size < wa.heap.size := (FR.out.at 0 _ _ rfl).lt; clear k4)
    | ((with_reducible refine guard_store 24 ?_); first | ((refine wpList_store_ev (e := zeroE) (e2 := upE 1 payE) rfl _ _ rfl (evAt_new wz zeroE) rfl rfl ?_; intro w9 z1 z2 z3 z4; have FQ := FR.out.more z1 z2; clear FR z1 z2 z3 z4; have FR := FQ; clear FQ); have k4 := (FR.out.at 0 _ _ rfl).cell 4 (.int .i64 300) rfl) | (refine wpList_store_ev (e := zeroE) (e2 := zeroE) rfl _ _ rfl (evAt_new wa zeroE) rfl rfl ?_; intro w9 z1 z2 z3 z4; have FQ := FR.out.more z1 z2; clear FR z1 z2 z3 z4; have FR := FQ; clear FQ) | (refine wpList_store_ev (e2 := zeroE) rfl _ _ rfl (FR.out.at 0 _ _ rfl) rfl rfl ?_; intro w9 z1 z2 z3 z4; have FQ := FR.out.put (m := [(wz.heap.size, upE 1 payE), (w.heap.size, e)]) HT0 (by omega) (by simp; omega) z1 z2 z3 z4; clear FR z1 z2 z3 z4; have FR := FQ; clear FQ) | (refine wpList_store_ev (e := zeroE) (e2 := zeroE) rfl _ _ rfl (evAt_new wb zeroE) rfl rfl ?_; intro w9 z1 z2 z3 z4; have FQ := FR.out.more z1 z2; clear FR z1 z2 z3 z4; have FR := FQ; clear FQ)))
  all_goals
    go_ret
    exact ⟨ret_bool (by first | rfl | (simp; done)), FR.out.1⟩
theorem walk (v : Int) (e : Ev) (w : World) (w0 : (Lit.int .i64 v).wf = true) (w1 : e.Fit) (ht : Tax w) :
    Calls Tryd.prog 3 #[.int .i64 v, .agg (evA e)] w fun x w' => x = .returned (.bool true) ∧ Below w.heap.size w w' := by
  by_cases h1 : v < 1
  · exact walk_low v e w ht (bad_of v w0 (.inl h1)) h1
  · by_cases h4 : 4 < v
    · exact walk_high v e w ht (bad_of v w0 (.inr h4)) h4
    · exact walk_in v e w ht (by omega) (by omega)
theorem own : ownKnob Tryd.prog.godebug = none := by kernel_rfl
theorem laidOut : laidOutB Tryd.prog = true := by kernel_rfl
set_option maxRecDepth 100000 in
theorem contract (H : Type) (enc : TypeId × Value → H) (W : World) (base : Nat) (args : Array Value) (ds gs : List (DataW H)) (before : List MemPlace)
    (hval : ∀ (j : Nat) t v, Tryd.f3.params[j]? = some t → args[j]? = some v → Value.okWide Tryd.prog W .any base t v)
    (hW : DataW.Whole enc Tryd.prog Tryd.f3.params.toList Rows.upcastStepsSpec.vars false W args.toList ds gs before)
    (hsz : (DataW.weightsEach Tryd.prog (Tryd.f3.params.toList ++ Rows.upcastStepsSpec.plain.varTypes Tryd.prog) (ds ++ gs)).all (· ≤ reachBytes) = true) (hL : laidMetH Tryd.prog [("daybook/upcast.taxes", Rows.laid_daybook_upcast_taxes)] W) :
    Calls Tryd.prog 3 args W fun e W' => ∃ v, e = .returned v ∧ Rows.upcastStepsSpec.post enc Tryd.prog Tryd.f3 false true false false W args v W' := by
  have hW' := hW
  obtain ⟨p, q, hA0, hV, rfl, hfz, hnd⟩ := hW
  have hA : DataW.TrodAll enc Tryd.prog W 0 (fun _ => true) true Tryd.f3.params.toList args.toList ds p := hA0
  rw [Tryd.params3] at hA hval hsz
  obtain ⟨v0, vs0, d0, ds0, p0, q0, hargs, rfl, rfl, h0, r0⟩ := trodAll_cons hA
  obtain ⟨v1, vs1, d1, ds1, p1, q1, rfl, rfl, rfl, h1, r1⟩ := trodAll_cons r0
  obtain ⟨rfl, rfl, rfl⟩ := trodAll_nil r1
  obtain rfl : args = #[v0, v1] := by cases args; simp_all
  obtain ⟨rfl, rfl⟩ := trodVars_none hV
  obtain ⟨a0, rfl, rfl, rfl, w0⟩ := open_int Tryd.underlying3 (hval 0 3 v0 rfl rfl) h0
  have k1 := h1
  have lt1 : ∀ x ∈ p1, x.block < W.heap.size := by obtain ⟨m, hm⟩ := k1; exact DataW.trod_lt m _ _ _ hm
  obtain ⟨a1, rfl, _, w1⟩ := open_event Tryd.underlying24 (by kernel_rfl) (by kernel_rfl) (by kernel_rfl) (by kernel_rfl) (by kernel_rfl) (by kernel_rfl) (by kernel_rfl) (by kernel_rfl) (by kernel_rfl) (by kernel_rfl) (by kernel_rfl) (by kernel_rfl) (hval 1 24 v1 rfl rfl) h1
  clear hA0
  refine (walk a0 a1 W w0 w1 (tax_of hL)).mono fun e W' ⟨he, bel⟩ => ?_
  subst he
  exact ⟨_, rfl, _, _, _, [], _, [], hW', trodAll_mk1 (shut_bool Tryd.underlying4 _), (trodAll_cons_mk (shut_int Tryd.underlying3 w0) (trodAll_cons_mk (Below.trod laidOut (by kernel_rfl) (of_decide_eq_true (by kernel_rfl)) k1 bel lt1) trodAll_mk0)), rfl, bel.frame _, fun h => by cases h⟩
set_option maxRecDepth 100000 in
theorem start (os : Os) : ∃ w0 : World, w0.os = os ∧ (w0.forCall (fun _ _ => 0) ⟨#[], #[.int .i64 0, .agg #[.int .i64 0, .int .i64 0, .int .i64 0, .int .i64 0, .int .i64 0, .int .i64 0, .int .i64 0, .string ⟨#[]⟩, .int .i64 0, .string ⟨#[]⟩]], []⟩).variablesB Tryd.prog = true ∧
    ((w0.forCall (fun _ _ => 0) ⟨#[], #[.int .i64 0, .agg #[.int .i64 0, .int .i64 0, .int .i64 0, .int .i64 0, .int .i64 0, .int .i64 0, .int .i64 0, .string ⟨#[]⟩, .int .i64 0, .string ⟨#[]⟩]], []⟩).heap.toList.drop Tryd.prog.globals.size).take ((begin Tryd.prog (fun _ _ => 0) default).world.heap.size - Tryd.prog.globals.size) = (begin Tryd.prog (fun _ _ => 0) default).world.heap.toList.drop Tryd.prog.globals.size ∧
    Input.okWideB Tryd.prog (w0.forCall (fun _ _ => 0) ⟨#[], #[.int .i64 0, .agg #[.int .i64 0, .int .i64 0, .int .i64 0, .int .i64 0, .int .i64 0, .int .i64 0, .int .i64 0, .string ⟨#[]⟩, .int .i64 0, .string ⟨#[]⟩]], []⟩) 3 ⟨#[], #[.int .i64 0, .agg #[.int .i64 0, .int .i64 0, .int .i64 0, .int .i64 0, .int .i64 0, .int .i64 0, .int .i64 0, .string ⟨#[]⟩, .int .i64 0, .string ⟨#[]⟩]], []⟩ = true ∧
    laidMet Tryd.prog Rows.upcastStepsRow.laid (w0.forCall (fun _ _ => 0) ⟨#[], #[.int .i64 0, .agg #[.int .i64 0, .int .i64 0, .int .i64 0, .int .i64 0, .int .i64 0, .int .i64 0, .int .i64 0, .string ⟨#[]⟩, .int .i64 0, .string ⟨#[]⟩]], []⟩).memory ∧
    ∀ (H : Type) (enc : TypeId × Value → H), DataW.whole enc Tryd.prog (w0.forCall (fun _ _ => 0) ⟨#[], #[.int .i64 0, .agg #[.int .i64 0, .int .i64 0, .int .i64 0, .int .i64 0, .int .i64 0, .int .i64 0, .int .i64 0, .string ⟨#[]⟩, .int .i64 0, .string ⟨#[]⟩]], []⟩).memory Tryd.f3.params.toList Rows.upcastStepsSpec.vars false (#[.int .i64 0, .agg #[.int .i64 0, .int .i64 0, .int .i64 0, .int .i64 0, .int .i64 0, .int .i64 0, .int .i64 0, .string ⟨#[]⟩, .int .i64 0, .string ⟨#[]⟩]] : Array Value).toList 8 = some ([.lit (.int .i64 0), .agg [.lit (.int .i64 0), .lit (.int .i64 0), .lit (.int .i64 0), .lit (.int .i64 0), .lit (.int .i64 0), .lit (.int .i64 0), .lit (.int .i64 0), .lit (.string []), .lit (.int .i64 0), .lit (.string [])]], [], []) :=
  ⟨{ World.holding Tryd.prog os ⟨#[], #[], []⟩ with heap := (World.holding Tryd.prog os ⟨#[], #[], []⟩).heap.modify 0 fun
      | .cells _ t frozen => .cells #[.int .i64 0, .int .i64 1900, .int .i64 2000, .int .i64 700] t frozen
      | o => o }, rfl, by kernel_rfl, by kernel_rfl, by kernel_rfl, laidMet_of_run' 8 (by kernel_rfl) (by kernel_rfl), fun _ _ => by kernel_rfl⟩
set_option maxRecDepth 100000 in
theorem lifted (os : Os) (started : os.Started) (H : Type) (enc : TypeId × Value → H) (F : Stop.Interp) :
    ReturnsInHanded {} Tryd.checked os 3 .any ((OpenSpec.ofChange Rows.upcastStepsSpec).preRow enc Tryd.prog Tryd.f3 Rows.upcastStepsRow.domain false Rows.upcastStepsRow.laid) (((OpenSpec.ofChange Rows.upcastStepsSpec).at F).post enc Tryd.prog Tryd.f3 false true false false) := by
  obtain ⟨w0, h1, h2, h3, h4, h5, h6⟩ := start os
  refine returnsInHanded_of_row (C := Tryd.checked) (s := OpenSpec.ofChange Rows.upcastStepsSpec) own started (by kernel_rfl) Tryd.func3
    (witness_row_at (enc := enc) (C := Tryd.checked) false w0 #[.int .i64 0, .agg #[.int .i64 0, .int .i64 0, .int .i64 0, .int .i64 0, .int .i64 0, .int .i64 0, .int .i64 0, .string ⟨#[]⟩, .int .i64 0, .string ⟨#[]⟩]] h1 h2 h3 h4
      (OpenSpec.preRow_of_cond 8 (h6 H enc) (by kernel_rfl) (fun k hk => by cases hk) (by kernel_rfl) h5)) ?_
  intro W base args ds gs before hval hW _ hcond hsz hL _ _
  exact contract H enc W base args ds gs before hval hW hsz hL
theorem said : Rows.UpcastStepsSaid :=
  OpenClaim.holds_of_cond 3 Tryd.f3 rfl rfl rfl rfl rfl rfl rfl ⟨rfl, rfl, rfl, rfl, rfl⟩ rfl rfl rfl rfl rfl (by kernel_rfl) Tryd.func3 (by kernel_rfl)
    (of_decide_eq_true (by kernel_rfl)) (by unfold Func.isWrapper; first | (rw [if_pos (by decide +kernel)]; kernel_rfl) | (rw [if_neg (by decide +kernel)]; exact ⟨rfl, rfl⟩))
    (fun os started H enc _ F => by rw [OpenClaim.pre_eq_preRow]; exact lifted os started H enc F)
theorem plain (f : FuncId) (fn : Func) (hf : Tryd.pinned.checked.prog.funcNamed "daybook/daybooklaw07.UpcastSteps" = some f) (hfn : Tryd.pinned.checked.prog.funcs[f]? = some fn) :
    false = Tryd.pinned.checked.prog.looks [] ∧ ∀ (j : Nat) t, fn.params[j]? = some t → Tryd.pinned.checked.prog.wantsStandIn t = false := by
  obtain rfl : f = 3 := Option.some.inj ((show Tryd.prog.funcNamed "daybook/daybooklaw07.UpcastSteps" = some 3 by kernel_rfl).symm.trans hf) |>.symm
  obtain rfl : fn = Tryd.f3 := (Option.some.inj (Tryd.func3.symm.trans hfn)).symm
  refine ⟨by kernel_rfl, fun j t ht => ?_⟩
  rw [Tryd.params3] at ht
  have hm := Array.mem_of_getElem? ht
  have hall : ∀ t ∈ (#[3, 24] : Array TypeId), Tryd.prog.wantsStandIn t = false := by
    intro t ht
    simp only [List.mem_toArray, List.mem_cons, List.not_mem_nil, or_false] at ht
    rcases ht with rfl | rfl <;> kernel_rfl
  exact hall t hm
theorem card : Rows.UpcastStepsCardSaid :=
  Claim7.holds_tied_plain_at .later [] _ _ _ _ said (fun _ h => by cases h) (by kernel_rfl) (fun _ h => by cases h) upcastSteps_row_tie rfl ⟨rfl, rfl⟩ (by kernel_rfl) rfl plain (by kernel_rfl)
end Go.Proofs.YtbgdkpkeghnmmaaDoor.upcastSteps
