/- What a version takes, and takes nothing away, the next one takes too: for every number and event. -/
import Derived.Test.YtfhcbdmmckjmaabJ17
import Derived.Test.YtfhcbdmmckjmaabJ12
import Derived.SizedLaws
import Derived.ChangeOld
namespace Go.Proofs.Ytfhcbdmmckjmaab.schemaGrows
open Go.ChangeShapes Go.WideShapes Go.ChangeAt Go.RowKit
set_option linter.unusedVariables false
def onE : Ev := ⟨1, 1, 0, 0, 0, 0, 0, ⟨#[]⟩, 0, ⟨#[]⟩⟩
theorem on_ok : chk 1 onE = 0 := chk_of ⟨by decide, by decide, by decide, by decide, by decide, by decide, by decide, by decide, by decide, by decide, by decide, by decide, by decide, by decide, by decide, by decide, by decide, by decide, by decide, by decide, by decide, .inr rfl, .inr rfl, .inr nilB_nil, .inr ⟨rfl, nilB_nil⟩⟩
theorem grows {v : Int} {e : Ev} (h : chk v e = 0) (h4 : v ≤ 4) (hq : 0 ≤ e.qty) : chk (v + 1) e = 0 := by
  have r := right_of h
  have h1 := r.v1
  have hk : lastK v ≤ lastK (v + 1) := by unfold lastK; repeat' split <;> omega
  have hp : hiP v ≤ hiP (v + 1) := by unfold hiP; repeat' split <;> omega
  have hl : loQ (v + 1) ≤ e.qty := by unfold loQ; split <;> omega
  refine chk_of ⟨by omega, by omega, r.kind0, by have := r.kind1; omega, r.who, r.note, r.order0, r.order1, r.item0, r.item1, hl, r.qty1, r.price0, by have := r.price1; omega, r.cur0, r.cur1, r.tax0, r.tax1, r.plain, r.stamp0, r.stamp1, ?_, ?_, ?_, ?_⟩
  · exact .inl (by omega)
  · rcases r.own2 with h | h
    · exact .inl (by omega)
    · exact .inr h
  · rcases r.own3 with h | h
    · exact .inl (by omega)
    · exact .inr h
  · rcases r.own4 with h | h
    · omega
    · exact .inr h
theorem below0 {v : Int} {e : Ev} (h : chk v e = 0) (hq : e.qty < 0) : chk 3 e = 32 := by
  have r := right_of h
  have hv : v ≤ 2 := by
    have h0 := r.qty0
    by_cases h2 : v ≤ 2
    · exact h2
    · have : loQ v = 0 := if_neg h2
      omega
  have hk1 := r.kind1
  have hk0 := r.kind0
  have hl : lastK v = 5 := if_pos hv
  unfold chk
  rw [if_neg (by omega)]
  unfold chkV
  rw [if_neg (by rw [show lastK 3 = 7 from rfl]; omega), if_neg (by have := r.who; have := r.note; omega), if_neg]
  rintro ⟨h1, _⟩
  simp only [bnd, wit, Bool.and_eq_true, decide_eq_true_eq] at h1
  have := h1.2.2.1.1
  rw [show loQ 3 = 0 from rfl] at this
  omega
theorem check_on (w : World) : Calls Try.prog 8 #[.int .i64 1, .agg #[.int .i64 1, .int .i64 1, .int .i64 0, .int .i64 0, .int .i64 0, .int .i64 0, .int .i64 0, .string ⟨#[]⟩, .int .i64 0, .string ⟨#[]⟩]] w fun x w' => x = .returned (.int .i64 0) ∧ Below w.heap.size w w' := by
  have h := check_ev 1 onE w
  rw [on_ok] at h
  exact h
set_option maxRecDepth 20000 in
set_option maxHeartbeats 1000000 in
theorem walk (v : Int) (e : Ev) (w : World) (w0 : (Lit.int .i64 v).wf = true) (w1 : e.Fit) :
    Calls Try.prog 4 #[.int .i64 v, .agg (evA e)] w fun x w' => x = .returned (.bool true) ∧ Below w.heap.size w w' := by
  have HE : Hid (EvAt (w.alloc (.cells (evA e) 24)) w.heap.size e) := evAt_new w e
  have HB : Hid (Below w.heap.size w (w.alloc (.cells (evA e) 24))) := (Below.refl _ _).alloc (Nat.le_refl _) _
  have T1 : Hid True := trivial
  have T2 : Hid True := trivial
  have T3 : Hid True := trivial
  by_cases h1 : v < 1
  · go_enter Try.func4, Try.ntmps4
    go_wp2_with (first
      | ((with_reducible refine guard_load 24 ?_); refine wpList_load_ev rfl _ rfl HE.out rfl ?_)
      | ((with_reducible refine guard_loadg 24 ?_); refine wpList_load_evg rfl _ rfl HE.out rfl ?_)
      | (go_at_call 5; refine (head06_any _).mono ?_; rintro _ x1 ⟨rfl, hb⟩; have HE1 := EvAt.after HE.out hb; have HB1 := below_next HB.out hb; clear HE HB hb; have HE : Hid (_) := HE1; have HB : Hid (_) := HB1; clear HE1 HB1)
      | (go_at_call 8; clear T1; refine (check_on _).mono ?_; rintro _ x2 ⟨rfl, hb⟩; have HE1 := EvAt.after HE.out hb; have HB1 := below_next HB.out hb; clear HE HB hb; obtain ⟨_, _, _, q3, _, _, _, _, _, _⟩ := HE1.cells; have HE : Hid (_) := HE1; have HB : Hid (_) := HB1; clear HE1 HB1))
    go_ret
    exact ⟨rfl, HB.out⟩
  have d1 : decide (v < 1) = false := by simp; omega
  by_cases h4 : 4 < v
  · go_enter Try.func4, Try.ntmps4
    go_wp2_with (first
      | ((with_reducible refine guard_load 24 ?_); refine wpList_load_ev rfl _ rfl HE.out rfl ?_)
      | ((with_reducible refine guard_loadg 24 ?_); refine wpList_load_evg rfl _ rfl HE.out rfl ?_)
      | (go_at_call 5; refine (head06_any _).mono ?_; rintro _ x1 ⟨rfl, hb⟩; have HE1 := EvAt.after HE.out hb; have HB1 := below_next HB.out hb; clear HE HB hb; have HE : Hid (_) := HE1; have HB : Hid (_) := HB1; clear HE1 HB1)
      | (go_at_call 8; clear T1; refine (check_on _).mono ?_; rintro _ x2 ⟨rfl, hb⟩; have HE1 := EvAt.after HE.out hb; have HB1 := below_next HB.out hb; clear HE HB hb; obtain ⟨_, _, _, q3, _, _, _, _, _, _⟩ := HE1.cells; have HE : Hid (_) := HE1; have HB : Hid (_) := HB1; clear HE1 HB1))
    go_ret
    exact ⟨rfl, HB.out⟩
  have d4 : decide (4 < v) = false := by simp; omega
  obtain ⟨c, hC⟩ : ∃ c, chk v e = c := ⟨_, rfl⟩
  have HC : Hid (_) := hC
  by_cases hc : c = 0
  · subst hc
    have hv1 : 1 ≤ v := by omega
    have hv4 : v ≤ 4 := by omega
    by_cases hq : e.qty < 0
    · have HQ : Hid (chk 3 e = 32) := below0 hC hq
      clear hC
      go_enter Try.func4, Try.ntmps4
      go_wp2_with (first
      | ((with_reducible refine guard_load 24 ?_); refine wpList_load_ev rfl _ rfl HE.out rfl ?_)
      | ((with_reducible refine guard_loadg 24 ?_); refine wpList_load_evg rfl _ rfl HE.out rfl ?_)
      | (go_at_call 5; refine (head06_any _).mono ?_; rintro _ x1 ⟨rfl, hb⟩; have HE1 := EvAt.after HE.out hb; have HB1 := below_next HB.out hb; clear HE HB hb; have HE : Hid (_) := HE1; have HB : Hid (_) := HB1; clear HE1 HB1)
      | (go_at_call 8; clear T1; refine (check_on _).mono ?_; rintro _ x2 ⟨rfl, hb⟩; have HE1 := EvAt.after HE.out hb; have HB1 := below_next HB.out hb; clear HE HB hb; obtain ⟨_, _, _, q3, _, _, _, _, _, _⟩ := HE1.cells; have HE : Hid (_) := HE1; have HB : Hid (_) := HB1; clear HE1 HB1)
      | (go_at_call 8; clear T2; refine (check_ev (v) e _).mono ?_; rw [HC.out]; rintro _ y2 ⟨rfl, hb⟩; have HE1 := EvAt.after HE.out hb; have HB1 := below_next HB.out hb; clear HE HB hb q3; obtain ⟨_, _, _, q3, _, _, _, _, _, _⟩ := HE1.cells; have HE : Hid (_) := HE1; have HB : Hid (_) := HB1; clear HE1 HB1)
      | (go_at_call 8; clear T3; refine (check_ev (3) e _).mono ?_; rw [HQ.out]; rintro _ y3 ⟨rfl, hb⟩; have HE1 := EvAt.after HE.out hb; have HB1 := below_next HB.out hb; clear HE HB hb q3; obtain ⟨_, _, _, q3, _, _, _, _, _, _⟩ := HE1.cells; have HE : Hid (_) := HE1; have HB : Hid (_) := HB1; clear HE1 HB1))
      go_ret
      exact ⟨rfl, HB.out⟩
    · have HQ : Hid (chk (v + 1) e = 0) := grows hC hv4 (by omega)
      have hqd : decide (e.qty < 0) = false := by simp; omega
      clear hC
      go_enter Try.func4, Try.ntmps4
      go_wp2_with (first
      | ((with_reducible refine guard_load 24 ?_); refine wpList_load_ev rfl _ rfl HE.out rfl ?_)
      | ((with_reducible refine guard_loadg 24 ?_); refine wpList_load_evg rfl _ rfl HE.out rfl ?_)
      | (go_at_call 5; refine (head06_any _).mono ?_; rintro _ x1 ⟨rfl, hb⟩; have HE1 := EvAt.after HE.out hb; have HB1 := below_next HB.out hb; clear HE HB hb; have HE : Hid (_) := HE1; have HB : Hid (_) := HB1; clear HE1 HB1)
      | (go_at_call 8; clear T1; refine (check_on _).mono ?_; rintro _ x2 ⟨rfl, hb⟩; have HE1 := EvAt.after HE.out hb; have HB1 := below_next HB.out hb; clear HE HB hb; obtain ⟨_, _, _, q3, _, _, _, _, _, _⟩ := HE1.cells; have HE : Hid (_) := HE1; have HB : Hid (_) := HB1; clear HE1 HB1)
      | (go_at_call 8; clear T2; refine (check_ev (v) e _).mono ?_; rw [HC.out]; rintro _ y2 ⟨rfl, hb⟩; have HE1 := EvAt.after HE.out hb; have HB1 := below_next HB.out hb; clear HE HB hb q3; obtain ⟨_, _, _, q3, _, _, _, _, _, _⟩ := HE1.cells; have HE : Hid (_) := HE1; have HB : Hid (_) := HB1; clear HE1 HB1)
      | (go_at_call 8; clear T3; refine (check_ev (v + 1) e _).mono ?_; rw [HQ.out]; rintro _ y3 ⟨rfl, hb⟩; have HE1 := EvAt.after HE.out hb; have HB1 := below_next HB.out hb; clear HE HB hb q3; obtain ⟨_, _, _, q3, _, _, _, _, _, _⟩ := HE1.cells; have HE : Hid (_) := HE1; have HB : Hid (_) := HB1; clear HE1 HB1))
      go_ret
      exact ⟨rfl, HB.out⟩
  · have hcb : (c != 0) = true := by simpa using hc
    clear hC
    go_enter Try.func4, Try.ntmps4
    go_wp2_with (first
      | ((with_reducible refine guard_load 24 ?_); refine wpList_load_ev rfl _ rfl HE.out rfl ?_)
      | ((with_reducible refine guard_loadg 24 ?_); refine wpList_load_evg rfl _ rfl HE.out rfl ?_)
      | (go_at_call 5; refine (head06_any _).mono ?_; rintro _ x1 ⟨rfl, hb⟩; have HE1 := EvAt.after HE.out hb; have HB1 := below_next HB.out hb; clear HE HB hb; have HE : Hid (_) := HE1; have HB : Hid (_) := HB1; clear HE1 HB1)
      | (go_at_call 8; clear T1; refine (check_on _).mono ?_; rintro _ x2 ⟨rfl, hb⟩; have HE1 := EvAt.after HE.out hb; have HB1 := below_next HB.out hb; clear HE HB hb; obtain ⟨_, _, _, q3, _, _, _, _, _, _⟩ := HE1.cells; have HE : Hid (_) := HE1; have HB : Hid (_) := HB1; clear HE1 HB1)
      | (go_at_call 8; clear T2; refine (check_ev (v) e _).mono ?_; rw [HC.out]; rintro _ y2 ⟨rfl, hb⟩; have HE1 := EvAt.after HE.out hb; have HB1 := below_next HB.out hb; clear HE HB hb q3; obtain ⟨_, _, _, q3, _, _, _, _, _, _⟩ := HE1.cells; have HE : Hid (_) := HE1; have HB : Hid (_) := HB1; clear HE1 HB1))
    go_ret
    exact ⟨rfl, HB.out⟩
theorem own : ownKnob Try.prog.godebug = none := by kernel_rfl
theorem laidOut : laidOutB Try.prog = true := by kernel_rfl
set_option maxRecDepth 100000 in
theorem contract (H : Type) (enc : TypeId × Value → H) (W : World) (base : Nat) (args : Array Value) (ds gs : List (DataW H)) (before : List MemPlace)
    (hval : ∀ (j : Nat) t v, Try.f4.params[j]? = some t → args[j]? = some v → Value.okWide Try.prog W .any base t v)
    (hW : DataW.Whole enc Try.prog Try.f4.params.toList Rows.schemaGrowsSpec.vars false W args.toList ds gs before)
    (hsz : (DataW.weightsEach Try.prog (Try.f4.params.toList ++ Rows.schemaGrowsSpec.plain.varTypes Try.prog) (ds ++ gs)).all (· ≤ reachBytes) = true) :
    Calls Try.prog 4 args W fun e W' => ∃ v, e = .returned v ∧ Rows.schemaGrowsSpec.post enc Try.prog Try.f4 false true false false W args v W' := by
  have hW' := hW
  obtain ⟨p, q, hA0, hV, rfl, hfz, hnd⟩ := hW
  have hA : DataW.TrodAll enc Try.prog W 0 (fun _ => true) true Try.f4.params.toList args.toList ds p := hA0
  rw [Try.params4] at hA hval hsz
  obtain ⟨v0, vs0, d0, ds0, p0, q0, hargs, rfl, rfl, h0, r0⟩ := trodAll_cons hA
  obtain ⟨v1, vs1, d1, ds1, p1, q1, rfl, rfl, rfl, h1, r1⟩ := trodAll_cons r0
  obtain ⟨rfl, rfl, rfl⟩ := trodAll_nil r1
  obtain rfl : args = #[v0, v1] := by cases args; simp_all
  obtain ⟨rfl, rfl⟩ := trodVars_none hV
  obtain ⟨a0, rfl, rfl, rfl, w0⟩ := open_int Try.underlying3 (hval 0 3 v0 rfl rfl) h0
  have k1 := h1
  have lt1 : ∀ x ∈ p1, x.block < W.heap.size := by obtain ⟨m, hm⟩ := k1; exact DataW.trod_lt m _ _ _ hm
  obtain ⟨a1, rfl, _, w1⟩ := open_event Try.underlying24 (by kernel_rfl) (by kernel_rfl) (by kernel_rfl) (by kernel_rfl) (by kernel_rfl) (by kernel_rfl) (by kernel_rfl) (by kernel_rfl) (by kernel_rfl) (by kernel_rfl) (by kernel_rfl) (by kernel_rfl) (hval 1 24 v1 rfl rfl) h1
  clear hA0
  refine (walk a0 a1 W w0 w1).mono fun e W' ⟨he, bel⟩ => ?_
  subst he
  exact ⟨_, rfl, _, _, _, [], _, [], hW', trodAll_mk1 (shut_bool Try.underlying4 _), (trodAll_cons_mk (shut_int Try.underlying3 w0) (trodAll_cons_mk (Below.trod laidOut (by kernel_rfl) (of_decide_eq_true (by kernel_rfl)) k1 bel lt1) trodAll_mk0)), rfl, bel.frame _, fun h => by cases h⟩
set_option maxRecDepth 100000 in
theorem lifted (os : Os) (started : os.Started) (H : Type) (enc : TypeId × Value → H) :
    ReturnsInHanded {} Try.checked os 4 .any (Rows.schemaGrowsSpec.pre6 enc Try.prog Try.f4 Rows.schemaGrowsRow.domain false) (Rows.schemaGrowsSpec.post enc Try.prog Try.f4 false true false false) := by
  refine returnsInHanded_of_change_sized (C := Try.checked) own started (by kernel_rfl) Try.func4
    (ChangeSpec.witness6 (enc := enc) (C := Try.checked) false ⟨#[], #[.int .i64 0, .agg #[.int .i64 0, .int .i64 0, .int .i64 0, .int .i64 0, .int .i64 0, .int .i64 0, .int .i64 0, .string ⟨#[]⟩, .int .i64 0, .string ⟨#[]⟩]], []⟩ 8 (by kernel_rfl) (by kernel_rfl) (by kernel_rfl) (by kernel_rfl)) ?_
  intro W base args ds gs before hval hW _ hsz _
  exact contract H enc W base args ds gs before hval hW hsz
theorem over : Rows.schemaGrowsRow.holds Try.pinned (OpenSpec.ofChange Rows.schemaGrowsSpec) :=
  OpenClaim.holds_of_wide 4 Try.f4 rfl rfl rfl rfl rfl rfl rfl ⟨rfl, rfl, rfl, rfl, rfl⟩ rfl rfl rfl rfl rfl (by kernel_rfl) Try.func4 (by kernel_rfl)
    (of_decide_eq_true (by kernel_rfl)) (by unfold Func.isWrapper; first | (rw [if_pos (by decide +kernel)]; kernel_rfl) | (rw [if_neg (by decide +kernel)]; exact ⟨rfl, rfl⟩))
    (fun os started H enc _ => lifted os started H enc)
theorem proved : Rows.SchemaGrowsSaid := over
end Go.Proofs.Ytfhcbdmmckjmaab.schemaGrows
