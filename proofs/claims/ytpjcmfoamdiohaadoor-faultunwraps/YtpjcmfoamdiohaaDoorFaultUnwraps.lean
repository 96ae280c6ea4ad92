/- For every two operations, place and number: what a fault wraps is handed back, the very value. No condition. -/
import Derived.Test.YtpjcmfoamdiohaaDoorSenTie
import Derived.Test.YtpjcmfoamdiohaaDoorFltA
import Derived.Test.YtpjcmfoamdiohaaDoorIntsA
import Derived.SizedLaws
import Derived.ChangeOld
import Derived.ChangeMaps5
import Derived.Deep.RegionWith
import Derived.JoinedCond
import Derived.Deep.CondSized
namespace Go.Proofs.YtpjcmfoamdiohaaDoor.faultUnwraps
open Go.ChangeShapes Go.WideShapes Go.ChangeAt Go.RowKit
set_option linter.unusedVariables false
theorem below_next {w a b : World} (h : Below w.heap.size w a) (k : Below a.heap.size a b) : Below w.heap.size w b := h.trans (k.mono h.size)
set_option maxRecDepth 100000 in
set_option maxHeartbeats 4000000 in
theorem walk (op out : ByteArray) (at0 e : Int) (w : World) (wop : op.size ≤ maxLen) (wout : out.size ≤ maxLen) (w2 : (Lit.int .i64 at0).wf = true) (w3 : (Lit.int .i64 e).wf = true) (hs : ∃ pa, Sen w pa) :
    Calls Tryd.prog 5 #[.string op, .string out, .int .i64 at0, .int .i64 e] w fun r w' => r = .returned (.bool true) ∧ Below w.heap.size w w' := by
  obtain ⟨pa, hs⟩ := hs
  have HS : Hid (Sen w pa) := hs
  have hq1 := eq_sen_same
  have hq2 := eq_flt_same
  have hq3 := neq_sen_same
  have T1 : Hid True := trivial
  have T2 : Hid True := trivial
  have T3 : Hid True := trivial
  have T4 : Hid True := trivial
  clear hs w2 w3 wop wout
  go_enter Tryd.func5, Tryd.ntmps5
  go_wp2_with (first
    | (go_at_call 12; clear T1; refine (sentinel_any pa 60 w HS.out).mono ?_; rintro r w1 ⟨hr, hb1⟩; have HB1 : Hid (Below w.heap.size w w1) := hb1; clear hb1; rcases hr with ⟨k, hk, hke, rfl⟩ | ⟨hno, rfl⟩; (obtain rfl : k = 22 := numS_inj hk (by omega) hke); rotate_left; exact absurd rfl (hno 22 (by omega)))
    | (go_at_call 11; clear T2; refine (new_any pa _ 1 60 _ (HS.out.keep HB1.out)).mono ?_; rintro r w2 ⟨hr, hb2⟩; have HB2 : Hid (Below w.heap.size w w2) := below_next HB1.out hb2; clear hb2; rcases hr with ⟨k, b, hk, hke, rfl, hge, hfl⟩ | ⟨hno, rfl⟩; (obtain rfl : k = 22 := numS_inj hk (by omega) hke; have HF2 : Hid (FltAt w2 b _ 1 (senV (pa 22))) := hfl; clear hfl hge); rotate_left; exact absurd rfl (hno 22 (by omega)))
    | (go_at_call 15; clear T3; refine (eunwrap_flt b _ 1 (senV (pa 22)) _ HF2.out rfl).mono ?_; rintro r w3 ⟨rfl, rfl⟩; clear hk hke)
    | (go_at_call 11; refine (new_any pa op at0 e _ (HS.out.keep HB2.out)).mono ?_; rintro r w4 ⟨hr, hb4⟩; have HB4 : Hid (Below w.heap.size w w4) := below_next HB2.out hb4; clear hb4; rcases hr with ⟨k, b4, hk, hke, rfl, hge, hfl⟩ | ⟨hno, rfl⟩; (have HK : Hid (k < 42 ∧ numS k = e) := ⟨hk, hke⟩; have HF4 : Hid (FltAt w4 b4 op at0 (senV (pa k))) := hfl; clear hfl hge hk hke); rotate_left; (have HNO : Hid (∀ k, k < 42 → numS k ≠ e) := hno; clear hno); rotate_left)
    | (go_at_call_of 14 (b4); refine (wrap_flt out b4 _).mono ?_; rintro r w5 ⟨c5, rfl, hge, hfl, hb5⟩; have HB5 : Hid (Below w.heap.size w w5) := below_next HB4.out hb5; have HF5 : Hid (FltAt w5 c5 out (-1) (fltV b4)) := hfl; have HG5 : Hid (FltAt w5 b4 op at0 (senV (pa k))) := HF4.out.keep hb5; clear hfl hge hb5)
    | (go_at_call 14; refine (wrap_nil out _).mono ?_; rintro r w5 ⟨rfl, rfl⟩)
    | (go_at_call 12; refine (sentinel_any pa e _ (HS.out.keep HB5.out)).mono ?_; rintro r w6 ⟨hr, hb6⟩; have HB6 : Hid (Below w.heap.size w w6) := below_next HB5.out hb6; have HF6 : Hid (FltAt w6 c5 out (-1) (fltV b4)) := HF5.out.keep hb6; have HG6 : Hid (FltAt w6 b4 op at0 (senV (pa k))) := HG5.out.keep hb6; clear hb6; rcases hr with ⟨k2, hk2, hke2, rfl⟩ | ⟨hno, rfl⟩; (obtain rfl : k2 = k := numS_inj hk2 HK.out.1 (hke2.trans HK.out.2.symm); clear hk2 hke2); rotate_left; exact absurd HK.out.2 (hno k HK.out.1))
    | (go_at_call 15; clear T4; refine (eunwrap_flt b4 op at0 _ _ HG6.out rfl).mono ?_; rintro r w7 ⟨rfl, rfl⟩)
    | (go_at_call 15; refine (eunwrap_flt c5 out (-1) (fltV b4) _ HF6.out rfl).mono ?_; rintro r w8 ⟨rfl, rfl⟩))
  · go_ret
    exact ⟨rfl, HB6.out⟩
  · go_ret
    exact ⟨rfl, HB4.out⟩
theorem own : ownKnob Tryd.prog.godebug = none := by kernel_rfl
theorem laidOut : laidOutB Tryd.prog = true := by kernel_rfl
set_option maxRecDepth 100000 in
theorem contract (H : Type) (enc : TypeId × Value → H) (W : World) (base : Nat) (args : Array Value) (ds gs : List (DataW H)) (before : List MemPlace)
    (hval : ∀ (j : Nat) t v, Tryd.f5.params[j]? = some t → args[j]? = some v → Value.okWide Tryd.prog W .any base t v)
    (hW : DataW.Whole enc Tryd.prog Tryd.f5.params.toList Rows.faultUnwrapsSpec.vars false W args.toList ds gs before)
    (hsz : (DataW.weightsEach Tryd.prog (Tryd.f5.params.toList ++ Rows.faultUnwrapsSpec.plain.varTypes Tryd.prog) (ds ++ gs)).all (· ≤ reachBytes) = true) (hL : laidMetH Tryd.prog (laidOf sents) W) :
    Calls Tryd.prog 5 args W fun e W' => ∃ v, e = .returned v ∧ Rows.faultUnwrapsSpec.post enc Tryd.prog Tryd.f5 false true false false W args v W' := by
  have hW' := hW
  obtain ⟨p, q, hA0, hV, rfl, hfz, hnd⟩ := hW
  have hA : DataW.TrodAll enc Tryd.prog W 0 (fun _ => true) true Tryd.f5.params.toList args.toList ds p := hA0
  rw [Tryd.params5] at hA hval hsz
  obtain ⟨v0, vs0, d0, ds0, p0, q0, hargs, rfl, rfl, h0, r0⟩ := trodAll_cons hA
  obtain ⟨v1, vs1, d1, ds1, p1, q1, rfl, rfl, rfl, h1, r1⟩ := trodAll_cons r0
  obtain ⟨v2, vs2, d2, ds2, p2, q2, rfl, rfl, rfl, h2, r2⟩ := trodAll_cons r1
  obtain ⟨v3, vs3, d3, ds3, p3, q3, rfl, rfl, rfl, h3, r3⟩ := trodAll_cons r2
  obtain ⟨rfl, rfl, rfl⟩ := trodAll_nil r3
  obtain rfl : args = #[v0, v1, v2, v3] := by cases args; simp_all
  obtain ⟨rfl, rfl⟩ := trodVars_none hV
  obtain ⟨a0, rfl, rfl, rfl, w0⟩ := Go.ChangeMaps.open_string Tryd.underlying9 (hval 0 9 v0 rfl rfl) h0
  obtain ⟨a1, rfl, rfl, rfl, w1⟩ := Go.ChangeMaps.open_string Tryd.underlying9 (hval 1 9 v1 rfl rfl) h1
  obtain ⟨a2, rfl, rfl, rfl, w2⟩ := open_int Tryd.underlying3 (hval 2 3 v2 rfl rfl) h2
  obtain ⟨a3, rfl, rfl, rfl, w3⟩ := open_int Tryd.underlying3 (hval 3 3 v3 rfl rfl) h3
  clear hA0
  refine (walk a0 a1 a2 a3 W w0 w1 w2 w3 (sen_of_row hL)).mono fun e W' ⟨he, bel⟩ => ?_
  subst he
  exact ⟨_, rfl, _, _, _, [], _, [], hW', trodAll_mk1 (shut_bool Tryd.underlying4 _), (trodAll_cons_mk (Go.ChangeMaps.shut_string Tryd.underlying9 w0) (trodAll_cons_mk (Go.ChangeMaps.shut_string Tryd.underlying9 w1) (trodAll_cons_mk (shut_int Tryd.underlying3 w2) (trodAll_cons_mk (shut_int Tryd.underlying3 w3) trodAll_mk0)))), rfl, bel.frame _, fun h => by cases h⟩
set_option maxRecDepth 100000 in
theorem start (os : Os) : ∃ w0 : World, w0.os = os ∧ (w0.forCall (fun _ _ => 0) ⟨#[], #[.string ⟨#[]⟩, .string ⟨#[]⟩, .int .i64 0, .int .i64 0], []⟩).variablesB Tryd.prog = true ∧
    ((w0.forCall (fun _ _ => 0) ⟨#[], #[.string ⟨#[]⟩, .string ⟨#[]⟩, .int .i64 0, .int .i64 0], []⟩).heap.toList.drop Tryd.prog.globals.size).take ((begin Tryd.prog (fun _ _ => 0) default).world.heap.size - Tryd.prog.globals.size) = (begin Tryd.prog (fun _ _ => 0) default).world.heap.toList.drop Tryd.prog.globals.size ∧
    Input.okWideB Tryd.prog (w0.forCall (fun _ _ => 0) ⟨#[], #[.string ⟨#[]⟩, .string ⟨#[]⟩, .int .i64 0, .int .i64 0], []⟩) 5 ⟨#[], #[.string ⟨#[]⟩, .string ⟨#[]⟩, .int .i64 0, .int .i64 0], []⟩ = true ∧
    laidMet Tryd.prog Rows.faultUnwrapsRow.laid (w0.forCall (fun _ _ => 0) ⟨#[], #[.string ⟨#[]⟩, .string ⟨#[]⟩, .int .i64 0, .int .i64 0], []⟩).memory ∧
    ∀ (H : Type) (enc : TypeId × Value → H), DataW.whole enc Tryd.prog (w0.forCall (fun _ _ => 0) ⟨#[], #[.string ⟨#[]⟩, .string ⟨#[]⟩, .int .i64 0, .int .i64 0], []⟩).memory Tryd.f5.params.toList Rows.faultUnwrapsSpec.vars false (#[.string ⟨#[]⟩, .string ⟨#[]⟩, .int .i64 0, .int .i64 0] : Array Value).toList 8 = some ([.lit (.string []), .lit (.string []), .lit (.int .i64 0), .lit (.int .i64 0)], [], []) :=
  ⟨{ World.holding Tryd.prog os ⟨#[.cells #[.string ⟨#[97, 114, 103, 117, 109, 101, 110, 116]⟩] 61, .cells #[.string ⟨#[99, 108, 111, 115, 101, 100]⟩] 61, .cells #[.string ⟨#[112, 111, 119, 101, 114, 32, 111, 102, 102]⟩] 61, .cells #[.string ⟨#[99, 111, 114, 114, 117, 112, 116]⟩] 61, .cells #[.string ⟨#[101, 110, 100, 115, 32, 101, 97, 114, 108, 121]⟩] 61, .cells #[.string ⟨#[111, 118, 101, 114, 108, 111, 110, 103]⟩] 61, .cells #[.string ⟨#[116, 111, 111, 32, 119, 105, 100, 101]⟩] 61, .cells #[.string ⟨#[116, 97, 103]⟩] 61, .cells #[.string ⟨#[111, 114, 100, 101, 114, 32, 111, 102, 32, 116, 97, 103, 115]⟩] 61, .cells #[.string ⟨#[101, 109, 112, 116, 121, 32, 102, 105, 101, 108, 100]⟩] 61, .cells #[.string ⟨#[108, 111, 110, 103, 32, 116, 101, 120, 116]⟩] 61, .cells #[.string ⟨#[116, 111, 111, 32, 98, 105, 103]⟩] 61, .cells #[.string ⟨#[118, 101, 114, 115, 105, 111, 110]⟩] 61, .cells #[.string ⟨#[107, 105, 110, 100]⟩] 61, .cells #[.string ⟨#[102, 105, 101, 108, 100]⟩] 61, .cells #[.string ⟨#[102, 111, 114, 109]⟩] 61, .cells #[.string ⟨#[115, 116, 97, 116, 101]⟩] 61, .cells #[.string ⟨#[110, 97, 109, 101]⟩] 61, .cells #[.string ⟨#[110, 111, 32, 102, 105, 108, 101]⟩] 61, .cells #[.string ⟨#[101, 120, 105, 115, 116, 115]⟩] 61, .cells #[.string ⟨#[102, 105, 108, 101, 115]⟩] 61, .cells #[.string ⟨#[100, 105, 115, 107, 32, 102, 117, 108, 108]⟩] 61, .cells #[.string ⟨#[116, 111, 114, 110]⟩] 61, .cells #[.string ⟨#[109, 97, 114, 107]⟩] 61, .cells #[.string ⟨#[115, 117, 109]⟩] 61, .cells #[.string ⟨#[114, 97, 110, 103, 101]⟩] 61, .cells #[.string ⟨#[105, 110, 100, 101, 120]⟩] 61, .cells #[.string ⟨#[104, 101, 97, 100, 101, 114]⟩] 61, .cells #[.string ⟨#[115, 101, 97, 108, 101, 100]⟩] 61, .cells #[.string ⟨#[109, 105, 115, 115, 105, 110, 103]⟩] 61, .cells #[.string ⟨#[109, 97, 110, 105, 102, 101, 115, 116]⟩] 61, .cells #[.string ⟨#[98, 111, 111, 107]⟩] 61, .cells #[.string ⟨#[115, 101, 103, 109, 101, 110, 116, 115]⟩] 61, .cells #[.string ⟨#[110, 117, 109, 98, 101, 114, 115]⟩] 61, .cells #[.string ⟨#[115, 101, 113, 117, 101, 110, 99, 101]⟩] 61, .cells #[.string ⟨#[101, 109, 112, 116, 121]⟩] 61, .cells #[.string ⟨#[110, 111, 32, 115, 110, 97, 112, 115, 104, 111, 116]⟩] 61, .cells #[.string ⟨#[99, 111, 109, 112, 97, 99, 116, 101, 100]⟩] 61, .cells #[.string ⟨#[108, 105, 110, 101]⟩] 61, .cells #[.string ⟨#[119, 111, 114, 100]⟩] 61, .cells #[.string ⟨#[108, 105, 110, 101, 115]⟩] 61, .cells #[.string ⟨#[111, 117, 116, 112, 117, 116]⟩] 61], #[], []⟩ with heap := ((List.range 42).foldl (fun h i => h.modify i fun x => match x with | .cells _ t frozen => .cells #[.iface 59 (.pointer (some ⟨(World.holding Tryd.prog default ⟨#[], #[], []⟩).heap.size + i, 0, none⟩))] t frozen | o => o) (World.holding Tryd.prog os ⟨#[.cells #[.string ⟨#[97, 114, 103, 117, 109, 101, 110, 116]⟩] 61, .cells #[.string ⟨#[99, 108, 111, 115, 101, 100]⟩] 61, .cells #[.string ⟨#[112, 111, 119, 101, 114, 32, 111, 102, 102]⟩] 61, .cells #[.string ⟨#[99, 111, 114, 114, 117, 112, 116]⟩] 61, .cells #[.string ⟨#[101, 110, 100, 115, 32, 101, 97, 114, 108, 121]⟩] 61, .cells #[.string ⟨#[111, 118, 101, 114, 108, 111, 110, 103]⟩] 61, .cells #[.string ⟨#[116, 111, 111, 32, 119, 105, 100, 101]⟩] 61, .cells #[.string ⟨#[116, 97, 103]⟩] 61, .cells #[.string ⟨#[111, 114, 100, 101, 114, 32, 111, 102, 32, 116, 97, 103, 115]⟩] 61, .cells #[.string ⟨#[101, 109, 112, 116, 121, 32, 102, 105, 101, 108, 100]⟩] 61, .cells #[.string ⟨#[108, 111, 110, 103, 32, 116, 101, 120, 116]⟩] 61, .cells #[.string ⟨#[116, 111, 111, 32, 98, 105, 103]⟩] 61, .cells #[.string ⟨#[118, 101, 114, 115, 105, 111, 110]⟩] 61, .cells #[.string ⟨#[107, 105, 110, 100]⟩] 61, .cells #[.string ⟨#[102, 105, 101, 108, 100]⟩] 61, .cells #[.string ⟨#[102, 111, 114, 109]⟩] 61, .cells #[.string ⟨#[115, 116, 97, 116, 101]⟩] 61, .cells #[.string ⟨#[110, 97, 109, 101]⟩] 61, .cells #[.string ⟨#[110, 111, 32, 102, 105, 108, 101]⟩] 61, .cells #[.string ⟨#[101, 120, 105, 115, 116, 115]⟩] 61, .cells #[.string ⟨#[102, 105, 108, 101, 115]⟩] 61, .cells #[.string ⟨#[100, 105, 115, 107, 32, 102, 117, 108, 108]⟩] 61, .cells #[.string ⟨#[116, 111, 114, 110]⟩] 61, .cells #[.string ⟨#[109, 97, 114, 107]⟩] 61, .cells #[.string ⟨#[115, 117, 109]⟩] 61, .cells #[.string ⟨#[114, 97, 110, 103, 101]⟩] 61, .cells #[.string ⟨#[105, 110, 100, 101, 120]⟩] 61, .cells #[.string ⟨#[104, 101, 97, 100, 101, 114]⟩] 61, .cells #[.string ⟨#[115, 101, 97, 108, 101, 100]⟩] 61, .cells #[.string ⟨#[109, 105, 115, 115, 105, 110, 103]⟩] 61, .cells #[.string ⟨#[109, 97, 110, 105, 102, 101, 115, 116]⟩] 61, .cells #[.string ⟨#[98, 111, 111, 107]⟩] 61, .cells #[.string ⟨#[115, 101, 103, 109, 101, 110, 116, 115]⟩] 61, .cells #[.string ⟨#[110, 117, 109, 98, 101, 114, 115]⟩] 61, .cells #[.string ⟨#[115, 101, 113, 117, 101, 110, 99, 101]⟩] 61, .cells #[.string ⟨#[101, 109, 112, 116, 121]⟩] 61, .cells #[.string ⟨#[110, 111, 32, 115, 110, 97, 112, 115, 104, 111, 116]⟩] 61, .cells #[.string ⟨#[99, 111, 109, 112, 97, 99, 116, 101, 100]⟩] 61, .cells #[.string ⟨#[108, 105, 110, 101]⟩] 61, .cells #[.string ⟨#[119, 111, 114, 100]⟩] 61, .cells #[.string ⟨#[108, 105, 110, 101, 115]⟩] 61, .cells #[.string ⟨#[111, 117, 116, 112, 117, 116]⟩] 61], #[], []⟩).heap) }, rfl, by kernel_rfl, by kernel_rfl, by kernel_rfl, laidMet_of_run' 8 (by kernel_rfl) (by kernel_rfl), fun _ _ => by kernel_rfl⟩
set_option maxRecDepth 100000 in
theorem lifted (os : Os) (started : os.Started) (H : Type) (enc : TypeId × Value → H) (F : Stop.Interp) :
    ReturnsInHanded {} Tryd.checked os 5 .any ((OpenSpec.ofChange Rows.faultUnwrapsSpec).preRow enc Tryd.prog Tryd.f5 Rows.faultUnwrapsRow.domain false Rows.faultUnwrapsRow.laid) (((OpenSpec.ofChange Rows.faultUnwrapsSpec).at F).post enc Tryd.prog Tryd.f5 false true false false) := by
  obtain ⟨w0, h1, h2, h3, h4, h5, h6⟩ := start os
  refine returnsInHanded_of_row (C := Tryd.checked) (s := OpenSpec.ofChange Rows.faultUnwrapsSpec) own started (by kernel_rfl) Tryd.func5
    (witness_row_at (enc := enc) (C := Tryd.checked) false w0 #[.string ⟨#[]⟩, .string ⟨#[]⟩, .int .i64 0, .int .i64 0] h1 h2 h3 h4
      (OpenSpec.preRow_of_cond 8 (h6 H enc) (by kernel_rfl) (fun k hk => by cases hk) (by kernel_rfl) h5)) ?_
  intro W base args ds gs before hval hW _ hcond hsz hL _ _
  exact contract H enc W base args ds gs before hval hW hsz hL
theorem said : Rows.FaultUnwrapsSaid :=
  OpenClaim.holds_of_cond 5 Tryd.f5 rfl rfl rfl rfl rfl rfl rfl ⟨rfl, rfl, rfl, rfl, rfl⟩ rfl rfl rfl rfl rfl (by kernel_rfl) Tryd.func5 (by kernel_rfl)
    (of_decide_eq_true (by kernel_rfl)) (by unfold Func.isWrapper; first | (rw [if_pos (by decide +kernel)]; kernel_rfl) | (rw [if_neg (by decide +kernel)]; exact ⟨rfl, rfl⟩))
    (fun os started H enc _ F => by rw [OpenClaim.pre_eq_preRow]; exact lifted os started H enc F)
theorem plain (f : FuncId) (fn : Func) (hf : Tryd.pinned.checked.prog.funcNamed "daybook/daybooklaw01.FaultUnwraps" = some f) (hfn : Tryd.pinned.checked.prog.funcs[f]? = some fn) :
    true = Tryd.pinned.checked.prog.looks [] ∧ ∀ (j : Nat) t, fn.params[j]? = some t → Tryd.pinned.checked.prog.wantsStandIn t = false := by
  obtain rfl : f = 5 := Option.some.inj ((show Tryd.prog.funcNamed "daybook/daybooklaw01.FaultUnwraps" = some 5 by kernel_rfl).symm.trans hf) |>.symm
  obtain rfl : fn = Tryd.f5 := (Option.some.inj (Tryd.func5.symm.trans hfn)).symm
  refine ⟨by kernel_rfl, fun j t ht => ?_⟩
  rw [Tryd.params5] at ht
  have hm := Array.mem_of_getElem? ht
  have hall : ∀ t ∈ (#[9, 9, 3, 3] : Array TypeId), Tryd.prog.wantsStandIn t = false := by
    intro t ht
    simp only [List.mem_toArray, List.mem_cons, List.not_mem_nil, or_false] at ht
    rcases ht with rfl | rfl | rfl | rfl <;> kernel_rfl
  exact hall t hm
theorem card : Rows.FaultUnwrapsCardSaid :=
  Claim7.holds_tied_plain_at .later [] _ _ _ _ said (fun _ h => by cases h) (by kernel_rfl) (fun _ h => by cases h) faultUnwraps_row_tie rfl ⟨rfl, rfl⟩ (by kernel_rfl) rfl plain (by kernel_rfl)
end Go.Proofs.YtpjcmfoamdiohaaDoor.faultUnwraps
