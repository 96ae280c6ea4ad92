/- Every Check of schema answers as the document's table says: for every number and event. -/
import Derived.Test.YtfhcbdmmckjmaaaJ17
import Derived.Test.YtfhcbdmmckjmaaaJ19
import Derived.SizedLaws
import Derived.ChangeOld
namespace Go.Proofs.Ytfhcbdmmckjmaaa.schemaChecks
open Go.ChangeShapes Go.WideShapes Go.ChangeAt Go.RowKit
set_option linter.unusedVariables false
set_option maxRecDepth 20000 in
set_option maxHeartbeats 1000000 in
theorem walk (v : Int) (e : Ev) (w : World) (w0 : (Lit.int .i64 v).wf = true) (w1 : e.Fit) :
    Calls Try.prog 3 #[.int .i64 v, .agg (evA e)] w fun x w' => x = .returned (.bool true) ∧ Below w.heap.size w w' := by
  obtain ⟨c, hC⟩ : ∃ c, chk v e = c := ⟨_, rfl⟩
  have HC : Hid (_) := hC
  have HZ : Hid (chk 0 e = 30) := if_pos (by omega)
  have HE : Hid (EvAt (w.alloc (.cells (evA e) 24)) w.heap.size e) := evAt_new w e
  have HB : Hid (Below w.heap.size w (w.alloc (.cells (evA e) 24))) := (Below.refl _ _).alloc (Nat.le_refl _) _
  have T1 : Hid True := trivial
  clear hC
  go_enter Try.func3, Try.ntmps3
  go_wp2_with (first
    | ((with_reducible refine guard_load 24 ?_); refine wpList_load_ev rfl _ rfl HE.out rfl ?_)
    | ((with_reducible refine guard_loadg 24 ?_); refine wpList_load_evg rfl _ rfl HE.out rfl ?_)
    | (go_at_call 9; refine (head06_any _).mono ?_; rintro _ x1 ⟨rfl, hb⟩; have HE1 := HE.out.after hb; have HB1 := below_next HB.out hb; clear HE HB hb; have HE : Hid (_) := HE1; have HB : Hid (_) := HB1; clear HE1 HB1)
    | (go_at_call_of 10 (Value.int IntKind.i64 0); clear T1; refine (check_ev 0 e _).mono ?_; rw [HZ.out]; rintro _ x2 ⟨rfl, hb⟩; have HE1 := EvAt.after HE.out hb; have HB1 := below_next HB.out hb; clear HE HB hb; have HE : Hid (_) := HE1; have HB : Hid (_) := HB1; clear HE1 HB1)
    | (go_at_call 10; refine (check_ev v e _).mono ?_; rw [HC.out]; rintro _ x3 ⟨rfl, hb⟩; have HE1 := EvAt.after HE.out hb; have HB1 := below_next HB.out hb; clear HE HB hb; have HE : Hid (_) := HE1; have HB : Hid (_) := HB1; clear HE1 HB1)
    | (go_at_call 11; refine (rcheck_ev v e _).mono ?_; rw [HC.out]; rintro _ x4 ⟨rfl, hb⟩; have HE1 := EvAt.after HE.out hb; have HB1 := below_next HB.out hb; clear HE HB hb; have HE : Hid (_) := HE1; have HB : Hid (_) := HB1; clear HE1 HB1))
  have hCd : EvC w w.heap.size e x2.drew := ⟨HE.out, HB.out.drew⟩
  have HC1 : Hid (∀ y, EvC w w.heap.size e y → Calls Try.prog 10 #[.int .i64 v, .agg (evA e)] y fun r y' => r = .returned (.int .i64 c) ∧ EvC w w.heap.size e y') := fun y hy => (check_ev v e y).mono fun r y' ⟨h1, h2⟩ => ⟨by rw [← HC.out]; exact h1, hy.keep h2⟩
  have HC2 : Hid (∀ y, EvC w w.heap.size e y → Calls Try.prog 11 #[.int .i64 v, .agg (evA e)] y fun r y' => r = .returned (.int .i64 c) ∧ EvC w w.heap.size e y') := fun y hy => (rcheck_ev v e y).mono fun r y' ⟨h1, h2⟩ => ⟨by rw [← HC.out]; exact h1, hy.keep h2⟩
  refine wp_region_quiet (C := EvC w w.heap.size e) (by kernel_rfl) (by kernel_rfl) hCd ?_
  simp only
  repeat (any_goals (first
    | go_big_quiet_skip
    | (go_big_quiet_want
       first
       | (refine quiet_val (fun w2 hw2 => exec_load_ev _ rfl rfl hw2.1) ?_
          go_big_quiet_on
          simp only [Act.put, List.setIfInBounds_toArray, List.set_cons_zero, List.set_cons_succ])
       | (refine quiet_val (v := ?_) (fun w2 hw2 => ?_) ?_
          rotate_left
          · (go_simp; with_reducible rfl)
          go_big_quiet_on
          simp only [Act.put, List.setIfInBounds_toArray, List.set_cons_zero, List.set_cons_succ])
       | (refine quiet_call (v := ?_) (f := ?_) (args := ?_) (fun w2 hw2 => ?_) (fun w2 hw2 => ?_) ?_
          rotate_left 3
          · (go_simp; refine ⟨?_, ?_⟩ <;> with_reducible rfl)
          first
          | (· (go_at_call 10; exact HC1.out _ hw2)
             (go_big_quiet_on; simp only [Act.put, List.setIfInBounds_toArray, List.set_cons_zero, List.set_cons_succ]))
          | (· (go_at_call 11; exact HC2.out _ hw2)
             (go_big_quiet_on; simp only [Act.put, List.setIfInBounds_toArray, List.set_cons_zero, List.set_cons_succ]))))))
  refine wpQuiet_nil ?_
  intro w3 hw3
  go_wp2
  go_ret
  exact ⟨rfl, hw3.2⟩
theorem own : ownKnob Try.prog.godebug = none := by kernel_rfl
theorem laidOut : laidOutB Try.prog = true := by kernel_rfl
set_option maxRecDepth 100000 in
theorem contract (H : Type) (enc : TypeId × Value → H) (W : World) (base : Nat) (args : Array Value) (ds gs : List (DataW H)) (before : List MemPlace)
    (hval : ∀ (j : Nat) t v, Try.f3.params[j]? = some t → args[j]? = some v → Value.okWide Try.prog W .any base t v)
    (hW : DataW.Whole enc Try.prog Try.f3.params.toList Rows.schemaChecksSpec.vars false W args.toList ds gs before)
    (hsz : (DataW.weightsEach Try.prog (Try.f3.params.toList ++ Rows.schemaChecksSpec.plain.varTypes Try.prog) (ds ++ gs)).all (· ≤ reachBytes) = true) :
    Calls Try.prog 3 args W fun e W' => ∃ v, e = .returned v ∧ Rows.schemaChecksSpec.post enc Try.prog Try.f3 false true false false W args v W' := by
  have hW' := hW
  obtain ⟨p, q, hA0, hV, rfl, hfz, hnd⟩ := hW
  have hA : DataW.TrodAll enc Try.prog W 0 (fun _ => true) true Try.f3.params.toList args.toList ds p := hA0
  rw [Try.params3] at hA hval hsz
  obtain ⟨v0, vs0, d0, ds0, p0, q0, hargs, rfl, rfl, h0, r0⟩ := trodAll_cons hA
  obtain ⟨v1, vs1, d1, ds1, p1, q1, rfl, rfl, rfl, h1, r1⟩ := trodAll_cons r0
  obtain ⟨rfl, rfl, rfl⟩ := trodAll_nil r1
  obtain rfl : args = #[v0, v1] := by cases args; simp_all
  obtain ⟨rfl, rfl⟩ := trodVars_none hV
  obtain ⟨a0, rfl, rfl, rfl, w0⟩ := open_int Try.underlying3 (hval 0 3 v0 rfl rfl) h0
  have k1 := h1
  have lt1 : ∀ x ∈ p1, x.block < W.heap.size := by obtain ⟨m, hm⟩ := k1; exact DataW.trod_lt m _ _ _ hm
  obtain ⟨a1, rfl, _, w1⟩ := open_event Try.underlying24 (by kernel_rfl) (by kernel_rfl) (by kernel_rfl) (by kernel_rfl) (by kernel_rfl) (by kernel_rfl) (by kernel_rfl) (by kernel_rfl) (by kernel_rfl) (by kernel_rfl) (by kernel_rfl) (by kernel_rfl) (hval 1 24 v1 rfl rfl) h1
  clear hA0
  refine (walk a0 a1 W w0 w1).mono fun e W' ⟨he, bel⟩ => ?_
  subst he
  exact ⟨_, rfl, _, _, _, [], _, [], hW', trodAll_mk1 (shut_bool Try.underlying4 _), (trodAll_cons_mk (shut_int Try.underlying3 w0) (trodAll_cons_mk (Below.trod laidOut (by kernel_rfl) (of_decide_eq_true (by kernel_rfl)) k1 bel lt1) trodAll_mk0)), rfl, bel.frame _, fun h => by cases h⟩
set_option maxRecDepth 100000 in
theorem lifted (os : Os) (started : os.Started) (H : Type) (enc : TypeId × Value → H) :
    ReturnsInHanded {} Try.checked os 3 .any (Rows.schemaChecksSpec.pre6 enc Try.prog Try.f3 Rows.schemaChecksRow.domain false) (Rows.schemaChecksSpec.post enc Try.prog Try.f3 false true false false) := by
  refine returnsInHanded_of_change_sized (C := Try.checked) own started (by kernel_rfl) Try.func3
    (ChangeSpec.witness6 (enc := enc) (C := Try.checked) false ⟨#[], #[.int .i64 0, .agg #[.int .i64 0, .int .i64 0, .int .i64 0, .int .i64 0, .int .i64 0, .int .i64 0, .int .i64 0, .string ⟨#[]⟩, .int .i64 0, .string ⟨#[]⟩]], []⟩ 8 (by kernel_rfl) (by kernel_rfl) (by kernel_rfl) (by kernel_rfl)) ?_
  intro W base args ds gs before hval hW _ hsz _
  exact contract H enc W base args ds gs before hval hW hsz
theorem over : Rows.schemaChecksRow.holds Try.pinned (OpenSpec.ofChange Rows.schemaChecksSpec) :=
  OpenClaim.holds_of_wide 3 Try.f3 rfl rfl rfl rfl rfl rfl rfl ⟨rfl, rfl, rfl, rfl, rfl⟩ rfl rfl rfl rfl rfl (by kernel_rfl) Try.func3 (by kernel_rfl)
    (of_decide_eq_true (by kernel_rfl)) (by unfold Func.isWrapper; first | (rw [if_pos (by decide +kernel)]; kernel_rfl) | (rw [if_neg (by decide +kernel)]; exact ⟨rfl, rfl⟩))
    (fun os started H enc _ => lifted os started H enc)
theorem proved : Rows.SchemaChecksSaid := over
end Go.Proofs.Ytfhcbdmmckjmaaa.schemaChecks
