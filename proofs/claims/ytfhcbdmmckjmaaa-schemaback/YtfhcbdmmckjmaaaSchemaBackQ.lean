/- What schema.Encode writes, schema.Decode reads; Encode refuses what Check refuses: for every number and event. -/
import Derived.Test.YtfhcbdmmckjmaaaJ17
import Derived.Test.YtfhcbdmmckjmaaaJ20
import Derived.SizedLaws
import Derived.ChangeOld
namespace Go.Proofs.Ytfhcbdmmckjmaaa.schemaBack
open Go.ChangeShapes Go.WideShapes Go.ChangeAt Go.RowKit
set_option linter.unusedVariables false
set_option maxRecDepth 20000 in
set_option maxHeartbeats 1000000 in
theorem walk (v : Int) (e : Ev) (w : World) (w0 : (Lit.int .i64 v).wf = true) (w1 : e.Fit) :
    Calls Try.prog 6 #[.int .i64 v, .agg (evA e)] w fun x w' => x = .returned (.bool true) ∧ Below w.heap.size w w' := by
  have HE : Hid (EvAt (w.alloc (.cells (evA e) 24)) w.heap.size e) := evAt_new w e
  have HB : Hid (Below w.heap.size w (w.alloc (.cells (evA e) 24))) := (Below.refl _ _).alloc (Nat.le_refl _) _
  have heq := ev_eql e
  by_cases hc : chk v e = 0
  · have r := right_of hc
    have HS : Hid (senc v e = (ones (efs v e), 0)) := if_neg (by simp [hc])
    have HD : Hid (sdec v (ones (efs v e)) = (e, 0)) := sdec_back r
    obtain ⟨n, hn⟩ : ∃ n, (ones (efs v e)).length = n := ⟨_, rfl⟩
    have hle : n ≤ 1024 := by rw [← hn]; exact (encs_pre _ _ _ _ (efs_encs r)).2
    have hleI : (n : Int) ≤ 1024 := by omega
    have HN : Hid (_) := hn
    have HC : Hid (_) := hc
    clear hc r hn
    go_enter Try.func6, Try.ntmps6
    go_wp2_with (first
      | ((with_reducible refine guard_load 24 ?_); refine wpList_load_ev rfl _ rfl HE.out rfl ?_)
      | (go_at_call 9; refine (head06_any _).mono ?_; rintro _ x1 ⟨rfl, hb⟩; have HE1 := EvAt.after HE.out hb; have HB1 := below_next HB.out hb; clear HE HB hb; have HE : Hid (_) := HE1; have HB : Hid (_) := HB1; clear HE1 HB1)
      | (go_at_call 13; refine (sencode_any v e _).mono ?_; unfold SencPost; rw [HS.out]; rintro _ x2 ⟨v2, rfl, ho2, hb⟩; obtain ⟨a2, cap2, hv2, hcap2, _, hby2, _⟩ := ho2.shape; simp only [HN.out] at hv2 hcap2; subst hv2; have HE1 := EvAt.after HE.out hb; have HB1 := below_next HB.out hb; have HY : Hid (Bytes x2 a2 (ones (efs v e))) := hby2; clear HE HB hb ho2 hby2; have HE : Hid (_) := HE1; have HB : Hid (_) := HB1; clear HE1 HB1)
      | (go_at_call 10; refine (check_ev v e _).mono ?_; rw [HC.out]; rintro _ x3 ⟨rfl, hb⟩; have HE1 := EvAt.after HE.out hb; have HB1 := below_next HB.out hb; have HY1 := Bytes.keep HY.out hb; clear HE HB HY hb; have HE : Hid (_) := HE1; have HB : Hid (_) := HB1; have HY : Hid (Bytes x3 a2 (ones (efs v e))) := HY1; clear HE1 HB1 HY1)
      | (go_at_call 17; refine (sdecode_any v (ones (efs v e)) a2 n cap2 _ HN.out HY.out hcap2 (by unfold maxLen; omega)).mono ?_; rw [HD.out]; rintro _ x4 ⟨rfl, hb⟩; have HE1 := EvAt.after HE.out hb; have HB1 := below_next HB.out hb; clear HE HB HY hb; have HE : Hid (EvAt x4 w.heap.size e) := HE1; have HB : Hid (Below w.heap.size w x4) := HB1; clear HE1 HB1)
      | ((with_reducible refine guard_store 24 ?_); refine wpList_store_ev (e := zeroE) (e2 := e) rfl _ _ rfl (evAt_new x4 zeroE) rfl rfl ?_; intro x5 z1 z2 z3 z4; have HF : Hid (EvAt x5 x4.heap.size e) := z1; have hlt := HE.out.lt; have HE1 : EvAt x5 w.heap.size e := (z3 _ (by omega)).trans (HE.out.after ((Below.refl _ _).alloc (Nat.le_refl _) _)); have HB1 : Below w.heap.size w x5 := z2 _ _ (below_next HB.out ((Below.refl _ _).alloc (Nat.le_refl _) _)) (by omega); clear HE HB z1 z2 z3 z4 hlt; have HE : Hid (_) := HE1; have HB : Hid (_) := HB1; clear HE1 HB1)
      | ((with_reducible refine guard_loadg 24 ?_); first | refine wpList_load_evg rfl _ rfl HF.out rfl ?_ | refine wpList_load_evg rfl _ rfl HE.out rfl ?_))
    go_ret
    exact ⟨rfl, HB.out⟩
  · have HS : Hid (senc v e = ([], chk v e)) := if_pos hc
    obtain ⟨c, hC⟩ : ∃ c, chk v e = c := ⟨_, rfl⟩
    rw [hC] at hc HS
    have HC : Hid (_) := hC
    have hcb : (c != 0) = true := by simpa using hc
    clear hC
    go_enter Try.func6, Try.ntmps6
    go_wp2_with (first
      | ((with_reducible refine guard_load 24 ?_); refine wpList_load_ev rfl _ rfl HE.out rfl ?_)
      | (go_at_call 9; refine (head06_any _).mono ?_; rintro _ x1 ⟨rfl, hb⟩; have HE1 := EvAt.after HE.out hb; have HB1 := below_next HB.out hb; clear HE HB hb; have HE : Hid (_) := HE1; have HB : Hid (_) := HB1; clear HE1 HB1)
      | (go_at_call 13; refine (sencode_any v e _).mono ?_; unfold SencPost; rw [HS.out]; rintro _ x2 ⟨v2, rfl, ho2, hb⟩; obtain ⟨a2, cap2, hv2, hcap2, _, _, _⟩ := ho2.shape; simp only [List.length_nil] at hv2; subst hv2; have HE1 := EvAt.after HE.out hb; have HB1 := below_next HB.out hb; clear HE HB hb ho2; have HE : Hid (_) := HE1; have HB : Hid (_) := HB1; clear HE1 HB1)
      | (go_at_call 10; refine (check_ev v e _).mono ?_; rw [HC.out]; rintro _ x3 ⟨rfl, hb⟩; have HE1 := EvAt.after HE.out hb; have HB1 := below_next HB.out hb; clear HE HB hb; have HE : Hid (_) := HE1; have HB : Hid (_) := HB1; clear HE1 HB1))
    go_ret
    exact ⟨rfl, HB.out⟩
theorem own : ownKnob Try.prog.godebug = none := by kernel_rfl
theorem laidOut : laidOutB Try.prog = true := by kernel_rfl
set_option maxRecDepth 100000 in
theorem contract (H : Type) (enc : TypeId × Value → H) (W : World) (base : Nat) (args : Array Value) (ds gs : List (DataW H)) (before : List MemPlace)
    (hval : ∀ (j : Nat) t v, Try.f6.params[j]? = some t → args[j]? = some v → Value.okWide Try.prog W .any base t v)
    (hW : DataW.Whole enc Try.prog Try.f6.params.toList Rows.schemaBackSpec.vars false W args.toList ds gs before)
    (hsz : (DataW.weightsEach Try.prog (Try.f6.params.toList ++ Rows.schemaBackSpec.plain.varTypes Try.prog) (ds ++ gs)).all (· ≤ reachBytes) = true) :
    Calls Try.prog 6 args W fun e W' => ∃ v, e = .returned v ∧ Rows.schemaBackSpec.post enc Try.prog Try.f6 false true false false W args v W' := by
  have hW' := hW
  obtain ⟨p, q, hA0, hV, rfl, hfz, hnd⟩ := hW
  have hA : DataW.TrodAll enc Try.prog W 0 (fun _ => true) true Try.f6.params.toList args.toList ds p := hA0
  rw [Try.params6] at hA hval hsz
  obtain ⟨v0, vs0, d0, ds0, p0, q0, hargs, rfl, rfl, h0, r0⟩ := trodAll_cons hA
  obtain ⟨v1, vs1, d1, ds1, p1, q1, rfl, rfl, rfl, h1, r1⟩ := trodAll_cons r0
  obtain ⟨rfl, rfl, rfl⟩ := trodAll_nil r1
  obtain rfl : args = #[v0, v1] := by cases args; simp_all
  obtain ⟨rfl, rfl⟩ := trodVars_none hV
  obtain ⟨a0, rfl, rfl, rfl, w0⟩ := open_int Try.underlying3 (hval 0 3 v0 rfl rfl) h0
  have k1 := h1
  have lt1 : ∀ x ∈ p1, x.block < W.heap.size := by obtain ⟨m, hm⟩ := k1; exact DataW.trod_lt m _ _ _ hm
  obtain ⟨a1, rfl, _, w1⟩ := open_event Try.underlying24 (by kernel_rfl) (by kernel_rfl) (by kernel_rfl) (by kernel_rfl) (by kernel_rfl) (by kernel_rfl) (by kernel_rfl) (by kernel_rfl) (by kernel_rfl) (by kernel_rfl) (by kernel_rfl) (by kernel_rfl) (hval 1 24 v1 rfl rfl) h1
  clear hA0
  refine (walk a0 a1 W w0 w1).mono fun e W' ⟨he, bel⟩ => ?_
  subst he
  exact ⟨_, rfl, _, _, _, [], _, [], hW', trodAll_mk1 (shut_bool Try.underlying4 _), (trodAll_cons_mk (shut_int Try.underlying3 w0) (trodAll_cons_mk (Below.trod laidOut (by kernel_rfl) (of_decide_eq_true (by kernel_rfl)) k1 bel lt1) trodAll_mk0)), rfl, bel.frame _, fun h => by cases h⟩
set_option maxRecDepth 100000 in
theorem lifted (os : Os) (started : os.Started) (H : Type) (enc : TypeId × Value → H) :
    ReturnsInHanded {} Try.checked os 6 .any (Rows.schemaBackSpec.pre6 enc Try.prog Try.f6 Rows.schemaBackRow.domain false) (Rows.schemaBackSpec.post enc Try.prog Try.f6 false true false false) := by
  refine returnsInHanded_of_change_sized (C := Try.checked) own started (by kernel_rfl) Try.func6
    (ChangeSpec.witness6 (enc := enc) (C := Try.checked) false ⟨#[], #[.int .i64 0, .agg #[.int .i64 0, .int .i64 0, .int .i64 0, .int .i64 0, .int .i64 0, .int .i64 0, .int .i64 0, .string ⟨#[]⟩, .int .i64 0, .string ⟨#[]⟩]], []⟩ 8 (by kernel_rfl) (by kernel_rfl) (by kernel_rfl) (by kernel_rfl)) ?_
  intro W base args ds gs before hval hW _ hsz _
  exact contract H enc W base args ds gs before hval hW hsz
theorem over : Rows.schemaBackRow.holds Try.pinned (OpenSpec.ofChange Rows.schemaBackSpec) :=
  OpenClaim.holds_of_wide 6 Try.f6 rfl rfl rfl rfl rfl rfl rfl ⟨rfl, rfl, rfl, rfl, rfl⟩ rfl rfl rfl rfl rfl (by kernel_rfl) Try.func6 (by kernel_rfl)
    (of_decide_eq_true (by kernel_rfl)) (by unfold Func.isWrapper; first | (rw [if_pos (by decide +kernel)]; kernel_rfl) | (rw [if_neg (by decide +kernel)]; exact ⟨rfl, rfl⟩))
    (fun os started H enc _ => lifted os started H enc)
theorem proved : Rows.SchemaBackSaid := over
end Go.Proofs.Ytfhcbdmmckjmaaa.schemaBack
