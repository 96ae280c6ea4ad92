/- Every record of schema.Encode is the document's: for every number and event. -/
import Derived.Test.YtfhcbdmmckjmaaaJ17
import Derived.Test.YtfhcbdmmckjmaaaJ23
import Derived.Test.YtfhcbdmmckjmaaaJ20
import Derived.SizedLaws
import Derived.ChangeOld
namespace Go.Proofs.Ytfhcbdmmckjmaaa.schemaEncodes
open Go.ChangeShapes Go.WideShapes Go.ChangeAt Go.RowKit
set_option linter.unusedVariables false
theorem senc_len (v : Int) (E : Ev) : (senc v E).1.length ≤ 1024 := by
  unfold senc
  by_cases hc : chk v E = 0
  · rw [if_neg (by simp [hc])]
    exact (encs_pre _ _ _ _ (efs_encs (right_of hc))).2
  · rw [if_pos hc]; simp
set_option maxRecDepth 20000 in
set_option maxHeartbeats 1000000 in
theorem walk (v : Int) (e : Ev) (w : World) (w0 : (Lit.int .i64 v).wf = true) (w1 : e.Fit) :
    Calls Try.prog 4 #[.int .i64 v, .agg (evA e)] w fun x w' => x = .returned (.bool true) ∧ Below w.heap.size w w' := by
  have HE : Hid (EvAt (w.alloc (.cells (evA e) 24)) w.heap.size e) := evAt_new w e
  have HB : Hid (Below w.heap.size w (w.alloc (.cells (evA e) 24))) := (Below.refl _ _).alloc (Nat.le_refl _) _
  have hlen := senc_len v e
  obtain ⟨L, c, hS⟩ : ∃ L c, senc v e = (L, c) := ⟨_, _, rfl⟩
  rw [hS] at hlen
  simp only at hlen
  have HS : Hid (_) := hS
  obtain ⟨n, hn⟩ : ∃ n, L.length = n := ⟨_, rfl⟩
  have HN : Hid (_) := hn
  rw [hn] at hlen
  have hlm : n ≤ maxLen := by unfold maxLen; omega
  clear hS hn
  go_enter Try.func4, Try.ntmps4
  go_wp2_with (first
    | ((with_reducible refine guard_load 24 ?_); refine wpList_load_ev rfl _ rfl HE.out rfl ?_)
    | (go_at_call 9; refine (head06_any _).mono ?_; rintro _ x1 ⟨rfl, hb⟩; have HE1 := EvAt.after HE.out hb; have HB1 := below_next HB.out hb; clear HE HB hb; have HE : Hid (_) := HE1; have HB : Hid (_) := HB1; clear HE1 HB1)
    | (go_at_call 12; refine (renc06_any v e _).mono ?_; unfold SencPost; rw [HS.out]; rintro _ x2 ⟨v2, rfl, ho2, hb⟩; obtain ⟨a2, cap2, hv2, _, _, hby2, _⟩ := ho2.shape; simp only [HN.out] at hv2; subst hv2; have HE1 := EvAt.after HE.out hb; have HB1 := below_next HB.out hb; have HY : Hid (Bytes x2 a2 L) := hby2; clear HE HB hb ho2 hby2; have HE : Hid (_) := HE1; have HB : Hid (_) := HB1; clear HE1 HB1)
    | (go_at_call 13; refine (sencode_any v e _).mono ?_; unfold SencPost; rw [HS.out]; rintro _ x3 ⟨v3, rfl, ho3, hb⟩; obtain ⟨a3, cap3, hv3, _, _, hby3, _⟩ := ho3.shape; simp only [HN.out] at hv3; subst hv3; have HE1 := EvAt.after HE.out hb; have HB1 := below_next HB.out hb; have HY1 := Bytes.keep HY.out hb; have HZ : Hid (Bytes x3 a3 L) := hby3; clear HE HB HY hb ho3 hby3; have HE : Hid (_) := HE1; have HB : Hid (_) := HB1; have HY : Hid (Bytes x3 a2 L) := HY1; clear HE1 HB1 HY1)
    | (go_at_call 14; refine (same_yes L n n a3 a2 cap3 cap2 _ HN.out HN.out HZ.out HY.out hlm).mono ?_; rintro _ x4 ⟨rfl, hb⟩; have HB1 := below_next HB.out hb; clear HB hb; have HB : Hid (_) := HB1; clear HB1))
  go_ret
  exact ⟨rfl, HB.out⟩
theorem own : ownKnob Try.prog.godebug = none := by kernel_rfl
theorem laidOut : laidOutB Try.prog = true := by kernel_rfl
set_option maxRecDepth 100000 in
theorem contract (H : Type) (enc : TypeId × Value → H) (W : World) (base : Nat) (args : Array Value) (ds gs : List (DataW H)) (before : List MemPlace)
    (hval : ∀ (j : Nat) t v, Try.f4.params[j]? = some t → args[j]? = some v → Value.okWide Try.prog W .any base t v)
    (hW : DataW.Whole enc Try.prog Try.f4.params.toList Rows.schemaEncodesSpec.vars false W args.toList ds gs before)
    (hsz : (DataW.weightsEach Try.prog (Try.f4.params.toList ++ Rows.schemaEncodesSpec.plain.varTypes Try.prog) (ds ++ gs)).all (· ≤ reachBytes) = true) :
    Calls Try.prog 4 args W fun e W' => ∃ v, e = .returned v ∧ Rows.schemaEncodesSpec.post enc Try.prog Try.f4 false true false false W args v W' := by
  have hW' := hW
  obtain ⟨p, q, hA0, hV, rfl, hfz, hnd⟩ := hW
  have hA : DataW.TrodAll enc Try.prog W 0 (fun _ => true) true Try.f4.params.toList args.toList ds p := hA0
  rw [Try.params4] at hA hval hsz
  obtain ⟨v0, vs0, d0, ds0, p0, q0, hargs, rfl, rfl, h0, r0⟩ := trodAll_cons hA
  obtain ⟨v1, vs1, d1, ds1, p1, q1, rfl, rfl, rfl, h1, r1⟩ := trodAll_cons r0
  obtain ⟨rfl, rfl, rfl⟩ := trodAll_nil r1
  obtain rfl : args = #[v0, v1] := by cases args; simp_all
  obtain ⟨rfl, rfl⟩ := trodVars_none hV
  obtain ⟨a0, rfl, rfl, rfl, w0⟩ := open_int Try.underlying3 (hval 0 3 v0 rfl rfl) h0
  have k1 := h1
  have lt1 : ∀ x ∈ p1, x.block < W.heap.size := by obtain ⟨m, hm⟩ := k1; exact DataW.trod_lt m _ _ _ hm
  obtain ⟨a1, rfl, _, w1⟩ := open_event Try.underlying24 (by kernel_rfl) (by kernel_rfl) (by kernel_rfl) (by kernel_rfl) (by kernel_rfl) (by kernel_rfl) (by kernel_rfl) (by kernel_rfl) (by kernel_rfl) (by kernel_rfl) (by kernel_rfl) (by kernel_rfl) (hval 1 24 v1 rfl rfl) h1
  clear hA0
  refine (walk a0 a1 W w0 w1).mono fun e W' ⟨he, bel⟩ => ?_
  subst he
  exact ⟨_, rfl, _, _, _, [], _, [], hW', trodAll_mk1 (shut_bool Try.underlying4 _), (trodAll_cons_mk (shut_int Try.underlying3 w0) (trodAll_cons_mk (Below.trod laidOut (by kernel_rfl) (of_decide_eq_true (by kernel_rfl)) k1 bel lt1) trodAll_mk0)), rfl, bel.frame _, fun h => by cases h⟩
set_option maxRecDepth 100000 in
theorem lifted (os : Os) (started : os.Started) (H : Type) (enc : TypeId × Value → H) :
    ReturnsInHanded {} Try.checked os 4 .any (Rows.schemaEncodesSpec.pre6 enc Try.prog Try.f4 Rows.schemaEncodesRow.domain false) (Rows.schemaEncodesSpec.post enc Try.prog Try.f4 false true false false) := by
  refine returnsInHanded_of_change_sized (C := Try.checked) own started (by kernel_rfl) Try.func4
    (ChangeSpec.witness6 (enc := enc) (C := Try.checked) false ⟨#[], #[.int .i64 0, .agg #[.int .i64 0, .int .i64 0, .int .i64 0, .int .i64 0, .int .i64 0, .int .i64 0, .int .i64 0, .string ⟨#[]⟩, .int .i64 0, .string ⟨#[]⟩]], []⟩ 8 (by kernel_rfl) (by kernel_rfl) (by kernel_rfl) (by kernel_rfl)) ?_
  intro W base args ds gs before hval hW _ hsz _
  exact contract H enc W base args ds gs before hval hW hsz
theorem over : Rows.schemaEncodesRow.holds Try.pinned (OpenSpec.ofChange Rows.schemaEncodesSpec) :=
  OpenClaim.holds_of_wide 4 Try.f4 rfl rfl rfl rfl rfl rfl rfl ⟨rfl, rfl, rfl, rfl, rfl⟩ rfl rfl rfl rfl rfl (by kernel_rfl) Try.func4 (by kernel_rfl)
    (of_decide_eq_true (by kernel_rfl)) (by unfold Func.isWrapper; first | (rw [if_pos (by decide +kernel)]; kernel_rfl) | (rw [if_neg (by decide +kernel)]; exact ⟨rfl, rfl⟩))
    (fun os started H enc _ => lifted os started H enc)
theorem proved : Rows.SchemaEncodesSaid := over
end Go.Proofs.Ytfhcbdmmckjmaaa.schemaEncodes
