/- What comes out of going up is a right event of its version, of the same order: for every version and event. -/
import Derived.Test.YtbgdkpkeghnmmaaDoorEvs
import Derived.Test.YtbgdkpkeghnmmaaDoorTaxTie
import Derived.SizedLaws
import Derived.ChangeOld
namespace Go.Proofs.YtbgdkpkeghnmmaaDoor.upcastValid
open Go.ChangeShapes Go.WideShapes Go.ChangeAt Go.RowKit
set_option linter.unusedVariables false
set_option maxRecDepth 20000 in
set_option maxHeartbeats 2000000 in
theorem walk_no (v : Int) (e : Ev) (w : World) (ht : Tax w) (h : (chk v e != 0) = true) :
    Calls Tryd.prog 5 #[.int .i64 v, .agg (evA e)] w fun x w' => x = .returned (.bool true) ∧ Below w.heap.size w w' := by
  have FR := Evs.start w e ht
  have HN : Hid ((chk v e != 0) = true) := h
  obtain ⟨r, HC⟩ : ∃ r, Hid (chk v e = r) := ⟨_, rfl⟩
  rw [HC.out] at h
  have hz : ∀ w', (binOp .eql 24 (.agg (evA zeroE)) (.agg #[.int .i64 0, .int .i64 0, .int .i64 0, .int .i64 0, .int .i64 0, .int .i64 0, .int .i64 0, .string ⟨#[]⟩, .int .i64 0, .string ⟨#[]⟩])).run Tryd.prog w' = .ok (.bool true) w' := fun w' => ev_eql zeroE w'
  clear ht
  go_enter Tryd.func5, Tryd.ntmps5
  go_wp2_with (first
    | ((with_reducible refine guard_load 24 ?_); first | refine wpList_load_ev rfl _ rfl (FR.out.at 0 _ _ rfl) rfl ?_ | refine wpList_load_ev rfl _ rfl (FR.out.at 1 _ _ rfl) rfl ?_)
    | ((with_reducible refine guard_loadg 24 ?_); first | refine wpList_load_evg (by rfl) _ rfl (FR.out.at 0 _ _ rfl) rfl ?_ | refine wpList_load_evg (by rfl) _ rfl (FR.out.at 1 _ _ rfl) rfl ?_)
    | (go_at_call 9; refine (head07_any _ FR.out.2.1).mono ?_; rintro _ w8 ⟨rfl, hb7⟩; have FQ := FR.out.keep hb7; clear FR hb7; have FR := FQ; clear FQ)
    | (go_at_call 12; refine (check_ev v e _).mono ?_; rw [HC.out]; rintro _ w7 ⟨rfl, hb7⟩; have FQ := FR.out.keep hb7; clear FR hb7; have FR := FQ; clear FQ)
    | (go_at_call 11; refine (chain_no v e _ FR.out.2.1 HN.out).mono ?_; rw [HC.out]; rintro _ wa ⟨rfl, hb7⟩; have FQ := FR.out.keep hb7; clear FR hb7; have FR := FQ; clear FQ)
    | ((with_reducible refine guard_store 24 ?_); refine wpList_store_ev (e := zeroE) (e2 := zeroE) rfl _ _ rfl (evAt_new wa zeroE) rfl rfl ?_; intro w9 z1 z2 z3 z4; have FQ := FR.out.more z1 z2; clear FR z1 z2 z3 z4; have FR := FQ; clear FQ))
  go_ret
  exact ⟨ret_bool (by first | rfl | (simp; done)), FR.out.1⟩
set_option maxRecDepth 20000 in
set_option maxHeartbeats 4000000 in
theorem walk_yes (v : Int) (e : Ev) (w : World) (ht : Tax w) (hc : chk v e = 0) :
    Calls Tryd.prog 5 #[.int .i64 v, .agg (evA e)] w fun x w' => x = .returned (.bool true) ∧ Below w.heap.size w w' := by
  have FR := Evs.start w e ht
  have HC : Hid (chk v e = 0) := hc
  have HR : Hid (Right v e) := right_of hc
  have h1 : 1 ≤ v := HR.out.v1
  have h5 : v ≤ 5 := HR.out.v5
  clear ht hc
  go_enter Tryd.func5, Tryd.ntmps5
  go_wp2_with (first
    | ((with_reducible refine guard_load 24 ?_); first | refine wpList_load_ev rfl _ rfl (FR.out.at 0 _ _ rfl) rfl ?_)
    | (go_at_call 9; refine (head07_any _ FR.out.2.1).mono ?_; rintro _ w8 ⟨rfl, hb7⟩; have FQ := FR.out.keep hb7; clear FR hb7; have FR := FQ; clear FQ)
    | (go_at_call 12; refine (check_ev v e _).mono ?_; rw [HC.out]; rintro _ w7 ⟨rfl, hb7⟩; have FQ := FR.out.keep hb7; clear FR hb7; have FR := FQ; clear FQ))
  go_loopw [7] (fun i wr => ∃ t : Int, v ≤ t ∧ t ≤ 6 ∧ i = .int .i64 t ∧ Hid (Evs w wr [(w.heap.size, e)])) (fun i _ => (6 - intOf i).toNat)
  case atStart => exact ⟨v, by omega, by omega, rfl, FR⟩
  case round =>
    clear FR
    obtain ⟨t, t1, t2, rfl, FR⟩ := hrel
    by_cases hlt : t ≤ 5
    · have A1 : Hid (toR v t e = toE v t e ∧ toC v t e = 0) := by
        have hb : ¬ toBad v t := by unfold toBad; omega
        exact ⟨by unfold toR; rw [if_neg hb, if_pos HC.out], by unfold toC; rw [if_neg hb]; exact HC.out⟩
      have R1 : Right t (toE v t e) := right_to HR.out t1 hlt
      have O1 := order_to v t e
      obtain ⟨f, HF⟩ : ∃ x, Hid (toE v t e = x) := ⟨_, rfl⟩
      rw [HF.out] at A1 R1 O1
      have HO : Hid (f.order = e.order) := O1
      have HK : Hid (chk t f = 0) := chk_of R1
      clear O1 R1
      go_wp2_with (first
        | ((with_reducible refine guard_load 24 ?_); first | refine wpList_load_ev rfl _ rfl (FR.out.at 0 _ _ rfl) rfl ?_)
        | ((with_reducible refine guard_loadg 24 ?_); first | refine wpList_load_evg (by rfl) _ rfl (FR.out.at 0 _ _ rfl) rfl ?_ | refine wpList_load_evg (by rfl) _ rfl (FR.out.at 1 _ _ rfl) rfl ?_)
        | (go_at_call 10; refine (to_any v t e _ FR.out.2.1).mono ?_; rw [A1.out.1, A1.out.2]; rintro _ wa ⟨rfl, hb7⟩; have FQ := FR.out.keep hb7; clear FR hb7; have FR := FQ; clear FQ)
        | ((with_reducible refine guard_store 24 ?_); refine wpList_store_ev (e := zeroE) (e2 := f) rfl _ _ rfl (evAt_new wa zeroE) rfl rfl ?_; intro w9 z1 z2 z3 z4; have FQ := FR.out.more z1 z2; clear FR z1 z2 z3 z4; have FR := FQ; clear FQ)
        | (go_at_call 12; refine (check_ev t f _).mono ?_; rw [HK.out]; rintro _ wb ⟨rfl, hb7⟩; have FQ := FR.out.keep hb7; clear FR hb7; have FR := FQ; clear FQ; have k1 := (FR.out.at 0 _ _ rfl).cell 1 (.int .i64 f.order) rfl; have k2 := (FR.out.at 1 _ _ rfl).cell 1 (.int .i64 e.order) rfl; rw [HO.out] at k1))
      go_roundw
      case rel => exact ⟨t + 1, by omega, by omega, by go_num, ⟨FR.out.1, FR.out.2.1, fun p hp => FR.out.2.2 p (List.mem_cons_of_mem _ hp)⟩⟩
      case measure => simp [intOf]; omega
    · go_wp2
      go_ret
      exact ⟨rfl, FR.out.1⟩
theorem walk (v : Int) (e : Ev) (w : World) (w0 : (Lit.int .i64 v).wf = true) (w1 : e.Fit) (ht : Tax w) :
    Calls Tryd.prog 5 #[.int .i64 v, .agg (evA e)] w fun x w' => x = .returned (.bool true) ∧ Below w.heap.size w w' := by
  by_cases h : chk v e = 0
  · exact walk_yes v e w ht h
  · exact walk_no v e w ht (by simpa using h)
theorem own : ownKnob Tryd.prog.godebug = none := by kernel_rfl
theorem laidOut : laidOutB Tryd.prog = true := by kernel_rfl
set_option maxRecDepth 100000 in
theorem contract (H : Type) (enc : TypeId × Value → H) (W : World) (base : Nat) (args : Array Value) (ds gs : List (DataW H)) (before : List MemPlace)
    (hval : ∀ (j : Nat) t v, Tryd.f5.params[j]? = some t → args[j]? = some v → Value.okWide Tryd.prog W .any base t v)
    (hW : DataW.Whole enc Tryd.prog Tryd.f5.params.toList Rows.upcastValidSpec.vars false W args.toList ds gs before)
    (hsz : (DataW.weightsEach Tryd.prog (Tryd.f5.params.toList ++ Rows.upcastValidSpec.plain.varTypes Tryd.prog) (ds ++ gs)).all (· ≤ reachBytes) = true) (hL : laidMetH Tryd.prog [("daybook/upcast.taxes", Rows.laid_daybook_upcast_taxes)] W) :
    Calls Tryd.prog 5 args W fun e W' => ∃ v, e = .returned v ∧ Rows.upcastValidSpec.post enc Tryd.prog Tryd.f5 false true false false W args v W' := by
  have hW' := hW
  obtain ⟨p, q, hA0, hV, rfl, hfz, hnd⟩ := hW
  have hA : DataW.TrodAll enc Tryd.prog W 0 (fun _ => true) true Tryd.f5.params.toList args.toList ds p := hA0
  rw [Tryd.params5] at hA hval hsz
  obtain ⟨v0, vs0, d0, ds0, p0, q0, hargs, rfl, rfl, h0, r0⟩ := trodAll_cons hA
  obtain ⟨v1, vs1, d1, ds1, p1, q1, rfl, rfl, rfl, h1, r1⟩ := trodAll_cons r0
  obtain ⟨rfl, rfl, rfl⟩ := trodAll_nil r1
  obtain rfl : args = #[v0, v1] := by cases args; simp_all
  obtain ⟨rfl, rfl⟩ := trodVars_none hV
  obtain ⟨a0, rfl, rfl, rfl, w0⟩ := open_int Tryd.underlying3 (hval 0 3 v0 rfl rfl) h0
  have k1 := h1
  have lt1 : ∀ x ∈ p1, x.block < W.heap.size := by obtain ⟨m, hm⟩ := k1; exact DataW.trod_lt m _ _ _ hm
  obtain ⟨a1, rfl, _, w1⟩ := open_event Tryd.underlying24 (by kernel_rfl) (by kernel_rfl) (by kernel_rfl) (by kernel_rfl) (by kernel_rfl) (by kernel_rfl) (by kernel_rfl) (by kernel_rfl) (by kernel_rfl) (by kernel_rfl) (by kernel_rfl) (by kernel_rfl) (hval 1 24 v1 rfl rfl) h1
  clear hA0
  refine (walk a0 a1 W w0 w1 (tax_of hL)).mono fun e W' ⟨he, bel⟩ => ?_
  subst he
  exact ⟨_, rfl, _, _, _, [], _, [], hW', trodAll_mk1 (shut_bool Tryd.underlying4 _), (trodAll_cons_mk (shut_int Tryd.underlying3 w0) (trodAll_cons_mk (Below.trod laidOut (by kernel_rfl) (of_decide_eq_true (by kernel_rfl)) k1 bel lt1) trodAll_mk0)), rfl, bel.frame _, fun h => by cases h⟩
set_option maxRecDepth 100000 in
theorem start (os : Os) : ∃ w0 : World, w0.os = os ∧ (w0.forCall (fun _ _ => 0) ⟨#[], #[.int .i64 0, .agg #[.int .i64 0, .int .i64 0, .int .i64 0, .int .i64 0, .int .i64 0, .int .i64 0, .int .i64 0, .string ⟨#[]⟩, .int .i64 0, .string ⟨#[]⟩]], []⟩).variablesB Tryd.prog = true ∧
    ((w0.forCall (fun _ _ => 0) ⟨#[], #[.int .i64 0, .agg #[.int .i64 0, .int .i64 0, .int .i64 0, .int .i64 0, .int .i64 0, .int .i64 0, .int .i64 0, .string ⟨#[]⟩, .int .i64 0, .string ⟨#[]⟩]], []⟩).heap.toList.drop Tryd.prog.globals.size).take ((begin Tryd.prog (fun _ _ => 0) default).world.heap.size - Tryd.prog.globals.size) = (begin Tryd.prog (fun _ _ => 0) default).world.heap.toList.drop Tryd.prog.globals.size ∧
    Input.okWideB Tryd.prog (w0.forCall (fun _ _ => 0) ⟨#[], #[.int .i64 0, .agg #[.int .i64 0, .int .i64 0, .int .i64 0, .int .i64 0, .int .i64 0, .int .i64 0, .int .i64 0, .string ⟨#[]⟩, .int .i64 0, .string ⟨#[]⟩]], []⟩) 5 ⟨#[], #[.int .i64 0, .agg #[.int .i64 0, .int .i64 0, .int .i64 0, .int .i64 0, .int .i64 0, .int .i64 0, .int .i64 0, .string ⟨#[]⟩, .int .i64 0, .string ⟨#[]⟩]], []⟩ = true ∧
    laidMet Tryd.prog Rows.upcastValidRow.laid (w0.forCall (fun _ _ => 0) ⟨#[], #[.int .i64 0, .agg #[.int .i64 0, .int .i64 0, .int .i64 0, .int .i64 0, .int .i64 0, .int .i64 0, .int .i64 0, .string ⟨#[]⟩, .int .i64 0, .string ⟨#[]⟩]], []⟩).memory ∧
    ∀ (H : Type) (enc : TypeId × Value → H), DataW.whole enc Tryd.prog (w0.forCall (fun _ _ => 0) ⟨#[], #[.int .i64 0, .agg #[.int .i64 0, .int .i64 0, .int .i64 0, .int .i64 0, .int .i64 0, .int .i64 0, .int .i64 0, .string ⟨#[]⟩, .int .i64 0, .string ⟨#[]⟩]], []⟩).memory Tryd.f5.params.toList Rows.upcastValidSpec.vars false (#[.int .i64 0, .agg #[.int .i64 0, .int .i64 0, .int .i64 0, .int .i64 0, .int .i64 0, .int .i64 0, .int .i64 0, .string ⟨#[]⟩, .int .i64 0, .string ⟨#[]⟩]] : Array Value).toList 8 = some ([.lit (.int .i64 0), .agg [.lit (.int .i64 0), .lit (.int .i64 0), .lit (.int .i64 0), .lit (.int .i64 0), .lit (.int .i64 0), .lit (.int .i64 0), .lit (.int .i64 0), .lit (.string []), .lit (.int .i64 0), .lit (.string [])]], [], []) :=
  ⟨{ World.holding Tryd.prog os ⟨#[], #[], []⟩ with heap := (World.holding Tryd.prog os ⟨#[], #[], []⟩).heap.modify 0 fun
      | .cells _ t frozen => .cells #[.int .i64 0, .int .i64 1900, .int .i64 2000, .int .i64 700] t frozen
      | o => o }, rfl, by kernel_rfl, by kernel_rfl, by kernel_rfl, laidMet_of_run' 8 (by kernel_rfl) (by kernel_rfl), fun _ _ => by kernel_rfl⟩
set_option maxRecDepth 100000 in
theorem lifted (os : Os) (started : os.Started) (H : Type) (enc : TypeId × Value → H) (F : Stop.Interp) :
    ReturnsInHanded {} Tryd.checked os 5 .any ((OpenSpec.ofChange Rows.upcastValidSpec).preRow enc Tryd.prog Tryd.f5 Rows.upcastValidRow.domain false Rows.upcastValidRow.laid) (((OpenSpec.ofChange Rows.upcastValidSpec).at F).post enc Tryd.prog Tryd.f5 false true false false) := by
  obtain ⟨w0, h1, h2, h3, h4, h5, h6⟩ := start os
  refine returnsInHanded_of_row (C := Tryd.checked) (s := OpenSpec.ofChange Rows.upcastValidSpec) own started (by kernel_rfl) Tryd.func5
    (witness_row_at (enc := enc) (C := Tryd.checked) false w0 #[.int .i64 0, .agg #[.int .i64 0, .int .i64 0, .int .i64 0, .int .i64 0, .int .i64 0, .int .i64 0, .int .i64 0, .string ⟨#[]⟩, .int .i64 0, .string ⟨#[]⟩]] h1 h2 h3 h4
      (OpenSpec.preRow_of_cond 8 (h6 H enc) (by kernel_rfl) (fun k hk => by cases hk) (by kernel_rfl) h5)) ?_
  intro W base args ds gs before hval hW _ hcond hsz hL _ _
  exact contract H enc W base args ds gs before hval hW hsz hL
theorem said : Rows.UpcastValidSaid :=
  OpenClaim.holds_of_cond 5 Tryd.f5 rfl rfl rfl rfl rfl rfl rfl ⟨rfl, rfl, rfl, rfl, rfl⟩ rfl rfl rfl rfl rfl (by kernel_rfl) Tryd.func5 (by kernel_rfl)
    (of_decide_eq_true (by kernel_rfl)) (by unfold Func.isWrapper; first | (rw [if_pos (by decide +kernel)]; kernel_rfl) | (rw [if_neg (by decide +kernel)]; exact ⟨rfl, rfl⟩))
    (fun os started H enc _ F => by rw [OpenClaim.pre_eq_preRow]; exact lifted os started H enc F)
theorem plain (f : FuncId) (fn : Func) (hf : Tryd.pinned.checked.prog.funcNamed "daybook/daybooklaw07.UpcastValid" = some f) (hfn : Tryd.pinned.checked.prog.funcs[f]? = some fn) :
    false = Tryd.pinned.checked.prog.looks [] ∧ ∀ (j : Nat) t, fn.params[j]? = some t → Tryd.pinned.checked.prog.wantsStandIn t = false := by
  obtain rfl : f = 5 := Option.some.inj ((show Tryd.prog.funcNamed "daybook/daybooklaw07.UpcastValid" = some 5 by kernel_rfl).symm.trans hf) |>.symm
  obtain rfl : fn = Tryd.f5 := (Option.some.inj (Tryd.func5.symm.trans hfn)).symm
  refine ⟨by kernel_rfl, fun j t ht => ?_⟩
  rw [Tryd.params5] at ht
  have hm := Array.mem_of_getElem? ht
  have hall : ∀ t ∈ (#[3, 24] : Array TypeId), Tryd.prog.wantsStandIn t = false := by
    intro t ht
    simp only [List.mem_toArray, List.mem_cons, List.not_mem_nil, or_false] at ht
    rcases ht with rfl | rfl <;> kernel_rfl
  exact hall t hm
theorem card : Rows.UpcastValidCardSaid :=
  Claim7.holds_tied_plain_at .later [] _ _ _ _ said (fun _ h => by cases h) (by kernel_rfl) (fun _ h => by cases h) upcastValid_row_tie rfl ⟨rfl, rfl⟩ (by kernel_rfl) rfl plain (by kernel_rfl)
end Go.Proofs.YtbgdkpkeghnmmaaDoor.upcastValid
