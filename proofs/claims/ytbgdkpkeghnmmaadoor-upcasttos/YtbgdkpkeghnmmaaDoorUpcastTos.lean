/- To and Chain answer as the reference does: for every versions and event. -/
import Derived.Test.YtbgdkpkeghnmmaaDoorRTo
import Derived.Test.YtbgdkpkeghnmmaaDoorTaxTie
import Derived.SizedLaws
import Derived.ChangeOld
namespace Go.Proofs.YtbgdkpkeghnmmaaDoor.upcastTos
open Go.ChangeShapes Go.WideShapes Go.ChangeAt Go.RowKit
set_option linter.unusedVariables false
theorem chain_to (f : Int) (e : Ev) : (if chk f e = 0 then chainE f e else zeroE) = toR f 5 e ∧ chk f e = toC f 5 e := by
  unfold toR toC
  by_cases hb : toBad f 5
  · have h30 : chk f e = 30 := if_pos (by unfold toBad at hb; omega)
    rw [if_pos hb, if_pos hb, h30]
    exact ⟨if_neg (by decide), rfl⟩
  · rw [if_neg hb, if_neg hb]
    unfold toBad at hb
    refine ⟨?_, rfl⟩
    split
    · exact (to_five e f (by omega) (by omega)).symm
    · rfl
set_option maxRecDepth 20000 in
set_option maxHeartbeats 4000000 in
theorem walk (f t : Int) (e : Ev) (w : World) (w0 : (Lit.int .i64 f).wf = true) (w1 : (Lit.int .i64 t).wf = true) (w2 : e.Fit) (ht : Tax w) :
    Calls Tryd.prog 4 #[.int .i64 f, .int .i64 t, .agg (evA e)] w fun x w' => x = .returned (.bool true) ∧ Below w.heap.size w w' := by
  have FR := Evs.start w e ht
  have HT0 := ht.1
  obtain ⟨c1, c2⟩ := chain_to f e
  obtain ⟨X1, HX1⟩ : ∃ x, Hid (toR f t e = x) := ⟨_, rfl⟩
  obtain ⟨C1, HC1⟩ : ∃ x, Hid (toC f t e = x) := ⟨_, rfl⟩
  obtain ⟨X2, HX2⟩ : ∃ x, Hid (toR f 5 e = x) := ⟨_, rfl⟩
  obtain ⟨C2, HC2⟩ : ∃ x, Hid (toC f 5 e = x) := ⟨_, rfl⟩
  rw [HX2.out] at c1
  rw [HC2.out] at c2
  have HA : Hid (_ ∧ _) := ⟨c1, c2⟩
  have hself := fun w' => ev_neq X1 w'
  have hself2 := fun w' => ev_eql X2 w'
  clear ht w0 w1 w2 c1 c2
  go_enter Tryd.func4, Tryd.ntmps4
  go_wp2_with (first
    | ((with_reducible refine guard_load 24 ?_); first | refine wpList_load_ev rfl _ rfl (FR.out.at 0 _ _ rfl) rfl ?_ | refine wpList_load_ev rfl _ rfl (FR.out.at 1 _ _ rfl) rfl ?_ | refine wpList_load_ev rfl _ rfl (FR.out.at 2 _ _ rfl) rfl ?_)
    | ((with_reducible refine guard_loadg 24 ?_); first | refine wpList_load_evg (by rfl) _ rfl (FR.out.at 0 _ _ rfl) rfl ?_ | refine wpList_load_evg (by rfl) _ rfl (FR.out.at 1 _ _ rfl) rfl ?_ | refine wpList_load_evg (by rfl) _ rfl (FR.out.at 2 _ _ rfl) rfl ?_)
    | (go_at_call 9; refine (head07_any _ FR.out.2.1).mono ?_; rintro _ w8 ⟨rfl, hb7⟩; have FQ := FR.out.keep hb7; clear FR hb7; have FR := FQ; clear FQ)
    | (go_at_call_of 8 (t); refine (rto_any f t e _ FR.out.2.1).mono ?_; rw [HX1.out, HC1.out]; rintro _ wa ⟨rfl, hb7⟩; have FQ := FR.out.keep hb7; clear FR hb7; have FR := FQ; clear FQ; have hwa : w.heap.size < wa.heap.size := (FR.out.at 0 _ _ rfl).lt)
    | (go_at_call 10; refine (to_any f t e _ FR.out.2.1).mono ?_; rw [HX1.out, HC1.out]; rintro _ wb ⟨rfl, hb7⟩; have FQ := FR.out.keep hb7; clear FR hb7; have FR := FQ; clear FQ; have hwb : wa.heap.size < wb.heap.size := (FR.out.at 0 _ _ rfl).lt)
    | (go_at_call 8; refine (rto_any f 5 e _ FR.out.2.1).mono ?_; rw [HX2.out, HC2.out]; rintro _ wc ⟨rfl, hb7⟩; have FQ := FR.out.keep hb7; clear FR hb7; have FR := FQ; clear FQ)
    | (go_at_call 11; refine (chain_any f e _ FR.out.2.1).mono ?_; rw [HA.out.1, HA.out.2]; rintro _ wd ⟨rfl, hb7⟩; have FQ := FR.out.keep hb7; clear FR hb7; have FR := FQ; clear FQ)
    | ((with_reducible refine guard_store 24 ?_); first | (refine wpList_store_ev (e := zeroE) (e2 := X1) rfl _ _ rfl (evAt_new wa zeroE) rfl rfl ?_; intro w9 z1 z2 z3 z4; have FQ := FR.out.more z1 z2; clear FR z1 z2 z3 z4; have FR := FQ; clear FQ) | (refine wpList_store_ev (e := zeroE) (e2 := X1) rfl _ _ rfl (evAt_new wb zeroE) rfl rfl ?_; intro w9 z1 z2 z3 z4; have FQ := FR.out.more z1 z2; clear FR z1 z2 z3 z4; have FR := FQ; clear FQ) | (refine wpList_store_ev (e2 := X2) rfl _ _ rfl (FR.out.at 1 _ _ rfl) rfl rfl ?_; intro w9 z1 z2 z3 z4; have FQ := FR.out.put (m := [(wb.heap.size, X1), (w.heap.size, e)]) HT0 (by omega) (by simp; omega) z1 z2 z3 z4; clear FR z1 z2 z3 z4; have FR := FQ; clear FQ) | (refine wpList_store_ev (e2 := X2) rfl _ _ rfl (FR.out.at 1 _ _ rfl) rfl rfl ?_; intro w9 z1 z2 z3 z4; have FQ := FR.out.put (m := [(wa.heap.size, X2), (w.heap.size, e)]) HT0 (by omega) (by simp; omega) z1 z2 z3 z4; clear FR z1 z2 z3 z4; have FR := FQ; clear FQ)))
  go_ret
  exact ⟨ret_bool (by first | rfl | (simp; done)), FR.out.1⟩
theorem own : ownKnob Tryd.prog.godebug = none := by kernel_rfl
theorem laidOut : laidOutB Tryd.prog = true := by kernel_rfl
set_option maxRecDepth 100000 in
theorem contract (H : Type) (enc : TypeId × Value → H) (W : World) (base : Nat) (args : Array Value) (ds gs : List (DataW H)) (before : List MemPlace)
    (hval : ∀ (j : Nat) t v, Tryd.f4.params[j]? = some t → args[j]? = some v → Value.okWide Tryd.prog W .any base t v)
    (hW : DataW.Whole enc Tryd.prog Tryd.f4.params.toList Rows.upcastTosSpec.vars false W args.toList ds gs before)
    (hsz : (DataW.weightsEach Tryd.prog (Tryd.f4.params.toList ++ Rows.upcastTosSpec.plain.varTypes Tryd.prog) (ds ++ gs)).all (· ≤ reachBytes) = true) (hL : laidMetH Tryd.prog [("daybook/upcast.taxes", Rows.laid_daybook_upcast_taxes)] W) :
    Calls Tryd.prog 4 args W fun e W' => ∃ v, e = .returned v ∧ Rows.upcastTosSpec.post enc Tryd.prog Tryd.f4 false true false false W args v W' := by
  have hW' := hW
  obtain ⟨p, q, hA0, hV, rfl, hfz, hnd⟩ := hW
  have hA : DataW.TrodAll enc Tryd.prog W 0 (fun _ => true) true Tryd.f4.params.toList args.toList ds p := hA0
  rw [Tryd.params4] at hA hval hsz
  obtain ⟨v0, vs0, d0, ds0, p0, q0, hargs, rfl, rfl, h0, r0⟩ := trodAll_cons hA
  obtain ⟨v1, vs1, d1, ds1, p1, q1, rfl, rfl, rfl, h1, r1⟩ := trodAll_cons r0
  obtain ⟨v2, vs2, d2, ds2, p2, q2, rfl, rfl, rfl, h2, r2⟩ := trodAll_cons r1
  obtain ⟨rfl, rfl, rfl⟩ := trodAll_nil r2
  obtain rfl : args = #[v0, v1, v2] := by cases args; simp_all
  obtain ⟨rfl, rfl⟩ := trodVars_none hV
  obtain ⟨a0, rfl, rfl, rfl, w0⟩ := open_int Tryd.underlying3 (hval 0 3 v0 rfl rfl) h0
  obtain ⟨a1, rfl, rfl, rfl, w1⟩ := open_int Tryd.underlying3 (hval 1 3 v1 rfl rfl) h1
  have k2 := h2
  have lt2 : ∀ x ∈ p2, x.block < W.heap.size := by obtain ⟨m, hm⟩ := k2; exact DataW.trod_lt m _ _ _ hm
  obtain ⟨a2, rfl, _, w2⟩ := open_event Tryd.underlying24 (by kernel_rfl) (by kernel_rfl) (by kernel_rfl) (by kernel_rfl) (by kernel_rfl) (by kernel_rfl) (by kernel_rfl) (by kernel_rfl) (by kernel_rfl) (by kernel_rfl) (by kernel_rfl) (by kernel_rfl) (hval 2 24 v2 rfl rfl) h2
  clear hA0
  refine (walk a0 a1 a2 W w0 w1 w2 (tax_of hL)).mono fun e W' ⟨he, bel⟩ => ?_
  subst he
  exact ⟨_, rfl, _, _, _, [], _, [], hW', trodAll_mk1 (shut_bool Tryd.underlying4 _), (trodAll_cons_mk (shut_int Tryd.underlying3 w0) (trodAll_cons_mk (shut_int Tryd.underlying3 w1) (trodAll_cons_mk (Below.trod laidOut (by kernel_rfl) (of_decide_eq_true (by kernel_rfl)) k2 bel lt2) trodAll_mk0))), rfl, bel.frame _, fun h => by cases h⟩
set_option maxRecDepth 100000 in
theorem start (os : Os) : ∃ w0 : World, w0.os = os ∧ (w0.forCall (fun _ _ => 0) ⟨#[], #[.int .i64 0, .int .i64 0, .agg #[.int .i64 0, .int .i64 0, .int .i64 0, .int .i64 0, .int .i64 0, .int .i64 0, .int .i64 0, .string ⟨#[]⟩, .int .i64 0, .string ⟨#[]⟩]], []⟩).variablesB Tryd.prog = true ∧
    ((w0.forCall (fun _ _ => 0) ⟨#[], #[.int .i64 0, .int .i64 0, .agg #[.int .i64 0, .int .i64 0, .int .i64 0, .int .i64 0, .int .i64 0, .int .i64 0, .int .i64 0, .string ⟨#[]⟩, .int .i64 0, .string ⟨#[]⟩]], []⟩).heap.toList.drop Tryd.prog.globals.size).take ((begin Tryd.prog (fun _ _ => 0) default).world.heap.size - Tryd.prog.globals.size) = (begin Tryd.prog (fun _ _ => 0) default).world.heap.toList.drop Tryd.prog.globals.size ∧
    Input.okWideB Tryd.prog (w0.forCall (fun _ _ => 0) ⟨#[], #[.int .i64 0, .int .i64 0, .agg #[.int .i64 0, .int .i64 0, .int .i64 0, .int .i64 0, .int .i64 0, .int .i64 0, .int .i64 0, .string ⟨#[]⟩, .int .i64 0, .string ⟨#[]⟩]], []⟩) 4 ⟨#[], #[.int .i64 0, .int .i64 0, .agg #[.int .i64 0, .int .i64 0, .int .i64 0, .int .i64 0, .int .i64 0, .int .i64 0, .int .i64 0, .string ⟨#[]⟩, .int .i64 0, .string ⟨#[]⟩]], []⟩ = true ∧
    laidMet Tryd.prog Rows.upcastTosRow.laid (w0.forCall (fun _ _ => 0) ⟨#[], #[.int .i64 0, .int .i64 0, .agg #[.int .i64 0, .int .i64 0, .int .i64 0, .int .i64 0, .int .i64 0, .int .i64 0, .int .i64 0, .string ⟨#[]⟩, .int .i64 0, .string ⟨#[]⟩]], []⟩).memory ∧
    ∀ (H : Type) (enc : TypeId × Value → H), DataW.whole enc Tryd.prog (w0.forCall (fun _ _ => 0) ⟨#[], #[.int .i64 0, .int .i64 0, .agg #[.int .i64 0, .int .i64 0, .int .i64 0, .int .i64 0, .int .i64 0, .int .i64 0, .int .i64 0, .string ⟨#[]⟩, .int .i64 0, .string ⟨#[]⟩]], []⟩).memory Tryd.f4.params.toList Rows.upcastTosSpec.vars false (#[.int .i64 0, .int .i64 0, .agg #[.int .i64 0, .int .i64 0, .int .i64 0, .int .i64 0, .int .i64 0, .int .i64 0, .int .i64 0, .string ⟨#[]⟩, .int .i64 0, .string ⟨#[]⟩]] : Array Value).toList 8 = some ([.lit (.int .i64 0), .lit (.int .i64 0), .agg [.lit (.int .i64 0), .lit (.int .i64 0), .lit (.int .i64 0), .lit (.int .i64 0), .lit (.int .i64 0), .lit (.int .i64 0), .lit (.int .i64 0), .lit (.string []), .lit (.int .i64 0), .lit (.string [])]], [], []) :=
  ⟨{ World.holding Tryd.prog os ⟨#[], #[], []⟩ with heap := (World.holding Tryd.prog os ⟨#[], #[], []⟩).heap.modify 0 fun
      | .cells _ t frozen => .cells #[.int .i64 0, .int .i64 1900, .int .i64 2000, .int .i64 700] t frozen
      | o => o }, rfl, by kernel_rfl, by kernel_rfl, by kernel_rfl, laidMet_of_run' 8 (by kernel_rfl) (by kernel_rfl), fun _ _ => by kernel_rfl⟩
set_option maxRecDepth 100000 in
theorem lifted (os : Os) (started : os.Started) (H : Type) (enc : TypeId × Value → H) (F : Stop.Interp) :
    ReturnsInHanded {} Tryd.checked os 4 .any ((OpenSpec.ofChange Rows.upcastTosSpec).preRow enc Tryd.prog Tryd.f4 Rows.upcastTosRow.domain false Rows.upcastTosRow.laid) (((OpenSpec.ofChange Rows.upcastTosSpec).at F).post enc Tryd.prog Tryd.f4 false true false false) := by
  obtain ⟨w0, h1, h2, h3, h4, h5, h6⟩ := start os
  refine returnsInHanded_of_row (C := Tryd.checked) (s := OpenSpec.ofChange Rows.upcastTosSpec) own started (by kernel_rfl) Tryd.func4
    (witness_row_at (enc := enc) (C := Tryd.checked) false w0 #[.int .i64 0, .int .i64 0, .agg #[.int .i64 0, .int .i64 0, .int .i64 0, .int .i64 0, .int .i64 0, .int .i64 0, .int .i64 0, .string ⟨#[]⟩, .int .i64 0, .string ⟨#[]⟩]] h1 h2 h3 h4
      (OpenSpec.preRow_of_cond 8 (h6 H enc) (by kernel_rfl) (fun k hk => by cases hk) (by kernel_rfl) h5)) ?_
  intro W base args ds gs before hval hW _ hcond hsz hL _ _
  exact contract H enc W base args ds gs before hval hW hsz hL
theorem said : Rows.UpcastTosSaid :=
  OpenClaim.holds_of_cond 4 Tryd.f4 rfl rfl rfl rfl rfl rfl rfl ⟨rfl, rfl, rfl, rfl, rfl⟩ rfl rfl rfl rfl rfl (by kernel_rfl) Tryd.func4 (by kernel_rfl)
    (of_decide_eq_true (by kernel_rfl)) (by unfold Func.isWrapper; first | (rw [if_pos (by decide +kernel)]; kernel_rfl) | (rw [if_neg (by decide +kernel)]; exact ⟨rfl, rfl⟩))
    (fun os started H enc _ F => by rw [OpenClaim.pre_eq_preRow]; exact lifted os started H enc F)
theorem plain (f : FuncId) (fn : Func) (hf : Tryd.pinned.checked.prog.funcNamed "daybook/daybooklaw07.UpcastTos" = some f) (hfn : Tryd.pinned.checked.prog.funcs[f]? = some fn) :
    false = Tryd.pinned.checked.prog.looks [] ∧ ∀ (j : Nat) t, fn.params[j]? = some t → Tryd.pinned.checked.prog.wantsStandIn t = false := by
  obtain rfl : f = 4 := Option.some.inj ((show Tryd.prog.funcNamed "daybook/daybooklaw07.UpcastTos" = some 4 by kernel_rfl).symm.trans hf) |>.symm
  obtain rfl : fn = Tryd.f4 := (Option.some.inj (Tryd.func4.symm.trans hfn)).symm
  refine ⟨by kernel_rfl, fun j t ht => ?_⟩
  rw [Tryd.params4] at ht
  have hm := Array.mem_of_getElem? ht
  have hall : ∀ t ∈ (#[3, 3, 24] : Array TypeId), Tryd.prog.wantsStandIn t = false := by
    intro t ht
    simp only [List.mem_toArray, List.mem_cons, List.not_mem_nil, or_false] at ht
    rcases ht with rfl | rfl | rfl <;> kernel_rfl
  exact hall t hm
theorem card : Rows.UpcastTosCardSaid :=
  Claim7.holds_tied_plain_at .later [] _ _ _ _ said (fun _ h => by cases h) (by kernel_rfl) (fun _ h => by cases h) upcastTos_row_tie rfl ⟨rfl, rfl⟩ (by kernel_rfl) rfl plain (by kernel_rfl)
end Go.Proofs.YtbgdkpkeghnmmaaDoor.upcastTos
