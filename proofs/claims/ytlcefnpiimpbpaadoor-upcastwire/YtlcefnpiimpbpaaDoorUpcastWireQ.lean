/- An event that is packed is read as it is brought up: for every version and event. -/
import Derived.Test.YtlcefnpiimpbpaaDoorJ05
import Derived.Test.YtlcefnpiimpbpaaDoorJ37
import Derived.Test.YtlcefnpiimpbpaaDoorJ18
import Derived.Test.YtlcefnpiimpbpaaDoorJ38
import Derived.SizedLaws
import Derived.ChangeOld
namespace Go.Proofs.YtlcefnpiimpbpaaDoor.upcastWire
open Go.ChangeShapes Go.WideShapes Go.ChangeAt Go.RowKit
set_option linter.unusedVariables false
theorem sunp_pack {V : Nat} {E : Ev} (hc : chk V E = 0) : sunp (enc V ++ ones (efs V E)) = ((V : Int), E, 0) := by
  have r := right_of hc
  have h5 := r.v5
  have hd : dec 0 0 (enc V ++ ones (efs V E)) = (V, (enc V).length, 0) := by
    have h := dec_enc 9 0 0 V (ones (efs V E)) rfl (by decide) (by simp; omega) (by omega)
    simpa [enc] using h
  have hk : capN V = (V : Int) := by unfold capN; rw [if_pos (by omega)]
  unfold sunp
  rw [hd]
  simp only [ne_eq, not_true_eq_false, if_false, List.drop_left, hk, sdec_back r]
set_option maxRecDepth 20000 in
set_option maxHeartbeats 1000000 in
theorem read_any (V : Nat) (E : Ev) (l : List Nat) (a : Option Addr) (n cap : Nat) (w : World) (ht : Tax w) (hc : chk V E = 0) (hs : sunp l = ((V : Int), E, 0)) (hn : l.length = n) (hb : Bytes w a l) (hcap : n ≤ cap) (hm : n ≤ maxLen) :
    Calls Tryd.prog 5 #[.slice a n cap] w fun x w' => x = .returned (.tuple #[.agg (evA (chainE V E)), .int .i64 0]) ∧ Below w.heap.size w w' := by
  have HS : Hid (_) := hs
  have HC : Hid (_) := hc
  have HN : Hid (_) := hn
  obtain ⟨G, hG⟩ : ∃ G, chainE V E = G := ⟨_, rfl⟩
  have HG : Hid (chainE V E = G) := hG
  have HA : Hid (EvAt (w.alloc (.cells (evA zeroE) 25)) w.heap.size zeroE) := evAt_new w zeroE
  have hAB : Below w.heap.size w (w.alloc (.cells (evA zeroE) 25)) := (Below.refl _ _).alloc (Nat.le_refl _) _
  have HAB : Hid (Below w.heap.size w (w.alloc (.cells (evA zeroE) 25))) := hAB
  have HBY : Hid (Bytes (w.alloc (.cells (evA zeroE) 25)) a l) := hb.keep hAB
  have HT : Hid (Tax w) := ht
  have T1 : Hid True := trivial
  rw [hG]
  clear hs hc hn hb ht hAB hG
  go_enter Tryd.func5, Tryd.ntmps5
  go_wp2_with (first
    | (go_at_call 12; refine (sunp_any l a n cap _ HN.out HBY.out hcap hm).mono ?_; rw [HS.out]; rintro _ w3 ⟨rfl, hb3⟩; have HB3 : Hid (Below w.heap.size w w3) := below_next HAB.out hb3; have HA3 : Hid (EvAt w3 w.heap.size zeroE) := HA.out.after hb3; clear hb3)
    | ((with_reducible refine guard_store 25 ?_); clear T1; refine wpList_store_ev (e := zeroE) (e2 := E) rfl _ _ rfl (evAt_new w3 zeroE) rfl rfl ?_; intro x2 z1 z2 z3 z4; have HU : Hid (Below w3.heap.size w3 x2) := z2 _ _ ((Below.refl _ _).alloc (Nat.le_refl _) _) (Nat.le_refl _); have HA4 : Hid (EvAt x2 w.heap.size zeroE) := HA3.out.after HU.out; have HB4 : Hid (Below w.heap.size w x2) := below_next HB3.out HU.out; have HZ1 : Hid (EvAt x2 w3.heap.size E) := z1; clear z1 z2 z3 z4 HU)
    | ((with_reducible refine guard_load 25 ?_); refine wpList_load_ev rfl _ rfl HZ1.out rfl ?_)
    | (go_at_call 11; refine (chain_ok V E _ (HT.out.keep HB4.out) HC.out).mono ?_; rw [HG.out]; rintro _ w5 ⟨rfl, hb5⟩; have HB5 : Hid (Below w.heap.size w w5) := below_next HB4.out hb5; have HA5 : Hid (EvAt w5 w.heap.size zeroE) := HA4.out.after hb5; clear hb5)
    | ((with_reducible refine guard_store 25 ?_); refine wpList_store_ev (e := zeroE) (e2 := G) rfl _ _ rfl HA5.out rfl rfl ?_; intro x5 z1 z2 z3 z4))
  exact bodyPost_ret (results_ev rfl _ _ _ _ _ rfl rfl z1) rfl ⟨rfl, z2 _ _ HB5.out (Nat.le_refl _)⟩
set_option maxRecDepth 20000 in
set_option maxHeartbeats 1000000 in
theorem walk_no (v : Int) (e : Ev) (w : World) (ht : Tax w) (hc : chk v e ≠ 0) :
    Calls Tryd.prog 4 #[.int .i64 v, .agg (evA e)] w fun x w' => x = .returned (.bool true) ∧ Below w.heap.size w w' := by
  have HT : Hid (Tax w) := ht
  have HCN : Hid ((chk v e != 0) = true) := by show _ = _; simpa using hc
  obtain ⟨r, hr⟩ : ∃ r, chk v e = r := ⟨_, rfl⟩
  have HP : Hid (spk v e = ([], r)) := by show _ = _; rw [← hr]; exact if_pos hc
  have HC : Hid (chk v e = r) := hr
  rw [hr] at hc
  have hcb : (r != 0) = true := by simpa using hc
  have HA : Hid (EvAt (w.alloc (.cells (evA e) 25)) w.heap.size e) := evAt_new w e
  have HAB : Hid (Below w.heap.size w (w.alloc (.cells (evA e) 25))) := (Below.refl _ _).alloc (Nat.le_refl _) _
  clear ht hr
  have T1 : Hid True := trivial
  have T2 : Hid True := trivial
  go_enter Tryd.func4, Tryd.ntmps4
  go_wp2_with (first
    | (go_at_call 9; refine (head07_any _ (HT.out.keep HAB.out)).mono ?_; rintro _ x1 ⟨rfl, hb1⟩; have HB1 : Hid (Below w.heap.size w x1) := below_next HAB.out hb1; have HA1 : Hid (EvAt x1 w.heap.size e) := HA.out.after hb1; clear hb1)
    | ((with_reducible refine guard_load 25 ?_); clear T1; refine wpList_load_ev rfl _ rfl HA1.out rfl ?_)
    | (go_at_call 10; refine (spack_any v e _).mono ?_; unfold SpkPost; rw [HP.out]; rintro _ x2 ⟨v2, rfl, ho2, hb2⟩; have HB2 : Hid (Below w.heap.size w x2) := below_next HB1.out hb2; have HA2 : Hid (EvAt x2 w.heap.size e) := HA1.out.after hb2; clear hb2 ho2)
    | ((with_reducible refine guard_load 25 ?_); refine wpList_load_ev rfl _ rfl HA2.out rfl ?_)
    | (go_at_call 11; refine (chain_no v e _ (HT.out.keep HB2.out) HCN.out).mono ?_; rw [HC.out]; rintro _ x3 ⟨rfl, hb3⟩; have HB3 : Hid (Below w.heap.size w x3) := below_next HB2.out hb3; clear hb3)
    | ((with_reducible refine guard_store 25 ?_); refine wpList_store_ev (e := zeroE) (e2 := zeroE) rfl _ _ rfl (evAt_new x3 zeroE) rfl rfl ?_; intro x4 z1 z2 z3 z4; have HB4 : Hid (Below w.heap.size w x4) := below_next HB3.out (z2 _ _ ((Below.refl _ _).alloc (Nat.le_refl _) _) (Nat.le_refl _)); clear z1 z2 z3 z4))
  go_ret
  exact ⟨rfl, HB4.out⟩
set_option maxRecDepth 20000 in
set_option maxHeartbeats 1000000 in
theorem walk_yes (V : Nat) (e : Ev) (w : World) (ht : Tax w) (hc : chk V e = 0) :
    Calls Tryd.prog 4 #[.int .i64 (V : Int), .agg (evA e)] w fun x w' => x = .returned (.bool true) ∧ Below w.heap.size w w' := by
  have HT : Hid (Tax w) := ht
  have HC : Hid (chk V e = 0) := hc
  obtain ⟨l, hl⟩ : ∃ l, enc V ++ ones (efs V e) = l := ⟨_, rfl⟩
  have HP : Hid (spk V e = (l, 0)) := by show _ = _; rw [← hl]; exact if_neg (by simp [hc])
  have HS : Hid (sunp l = ((V : Int), e, 0)) := by show _ = _; rw [← hl]; exact sunp_pack hc
  obtain ⟨n, hn⟩ : ∃ n, l.length = n := ⟨_, rfl⟩
  have HN : Hid (l.length = n) := hn
  have hm : n ≤ maxLen := by
    have h1 := encs_pre _ _ _ _ (efs_encs (right_of hc))
    have h2 := (enc_length_le V (by have := (right_of hc).v5; omega)).2
    have h3 := h1.2
    rw [← hn, ← hl, List.length_append]
    unfold maxLen
    omega
  obtain ⟨G, hG⟩ : ∃ G, chainE V e = G := ⟨_, rfl⟩
  have HG : Hid (chainE V e = G) := hG
  have hz := fun w => ev_eql G w
  have HA : Hid (EvAt (w.alloc (.cells (evA e) 25)) w.heap.size e) := evAt_new w e
  have HAB : Hid (Below w.heap.size w (w.alloc (.cells (evA e) 25))) := (Below.refl _ _).alloc (Nat.le_refl _) _
  clear ht hc hl hn hG
  have T1 : Hid True := trivial
  have T2 : Hid True := trivial
  go_enter Tryd.func4, Tryd.ntmps4
  go_wp2_with (first
    | (go_at_call 9; refine (head07_any _ (HT.out.keep HAB.out)).mono ?_; rintro _ x1 ⟨rfl, hb1⟩; have HB1 : Hid (Below w.heap.size w x1) := below_next HAB.out hb1; have HA1 : Hid (EvAt x1 w.heap.size e) := HA.out.after hb1; clear hb1)
    | ((with_reducible refine guard_load 25 ?_); clear T1; refine wpList_load_ev rfl _ rfl HA1.out rfl ?_)
    | (go_at_call 10; refine (spack_any V e _).mono ?_; unfold SpkPost; rw [HP.out]; rintro _ x2 ⟨v2, rfl, ho2, hb2⟩; obtain ⟨a2, cap2, hv2, hcap2, _, hby2, _⟩ := ho2.shape; simp only [HN.out] at hv2 hcap2; subst hv2; have HY2 : Hid (Bytes x2 a2 l) := hby2; have HB2 : Hid (Below w.heap.size w x2) := below_next HB1.out hb2; have HA2 : Hid (EvAt x2 w.heap.size e) := HA1.out.after hb2; clear hb2 ho2 hby2)
    | ((with_reducible refine guard_load 25 ?_); refine wpList_load_ev rfl _ rfl HA2.out rfl ?_)
    | (go_at_call 11; refine (chain_ok V e _ (HT.out.keep HB2.out) HC.out).mono ?_; rw [HG.out]; rintro _ x3 ⟨rfl, hb3⟩; have HB3 : Hid (Below w.heap.size w x3) := below_next HB2.out hb3; have HY3 : Hid (Bytes x3 a2 l) := HY2.out.keep hb3; clear hb3)
    | ((with_reducible refine guard_store 25 ?_); clear T2; refine wpList_store_ev (e := zeroE) (e2 := G) rfl _ _ rfl (evAt_new x3 zeroE) rfl rfl ?_; intro x4 z1 z2 z3 z4; have HU4 : Hid (Below x3.heap.size x3 x4) := z2 _ _ ((Below.refl _ _).alloc (Nat.le_refl _) _) (Nat.le_refl _); have HB4 : Hid (Below w.heap.size w x4) := below_next HB3.out HU4.out; have HY4 : Hid (Bytes x4 a2 l) := HY3.out.keep HU4.out; have HE4 : Hid (EvAt x4 x3.heap.size G) := z1; clear z1 z2 z3 z4)
    | (go_at_call 5; refine (read_any V e l a2 n cap2 _ (HT.out.keep HB4.out) HC.out HS.out HN.out HY4.out hcap2 hm).mono ?_; rw [HG.out]; rintro _ x5 ⟨rfl, hb5⟩; have HB5 : Hid (Below w.heap.size w x5) := below_next HB4.out hb5; have HE5 : Hid (EvAt x5 x3.heap.size G) := HE4.out.after hb5; clear hb5)
    | ((with_reducible refine guard_store 25 ?_); refine wpList_store_ev (e := zeroE) (e2 := G) rfl _ _ rfl (evAt_new x5 zeroE) rfl rfl ?_; intro x6 z1 z2 z3 z4; have HU6 : Hid (Below x5.heap.size x5 x6) := z2 _ _ ((Below.refl _ _).alloc (Nat.le_refl _) _) (Nat.le_refl _); have HB6 : Hid (Below w.heap.size w x6) := below_next HB5.out HU6.out; have HE6 : Hid (EvAt x6 x5.heap.size G) := z1; have HF6 : Hid (EvAt x6 x3.heap.size G) := HE5.out.after HU6.out; clear z1 z2 z3 z4)
    | ((with_reducible refine guard_loadg 25 ?_); first | refine wpList_load_evg rfl _ rfl HE6.out rfl ?_ | refine wpList_load_evg rfl _ rfl HF6.out rfl ?_))
  go_ret
  exact ⟨rfl, HB6.out⟩
theorem walk (v : Int) (e : Ev) (w : World) (w0 : (Lit.int .i64 v).wf = true) (w1 : e.Fit) (ht : Tax w) :
    Calls Tryd.prog 4 #[.int .i64 v, .agg (evA e)] w fun x w' => x = .returned (.bool true) ∧ Below w.heap.size w w' := by
  by_cases hc : chk v e = 0
  · obtain ⟨V, rfl⟩ := Int.eq_ofNat_of_zero_le (by have := (right_of hc).v1; omega : 0 ≤ v)
    exact walk_yes V e w ht hc
  · exact walk_no v e w ht hc
theorem own : ownKnob Tryd.prog.godebug = none := by kernel_rfl
theorem laidOut : laidOutB Tryd.prog = true := by kernel_rfl
set_option maxRecDepth 100000 in
theorem contract (H : Type) (enc : TypeId × Value → H) (W : World) (base : Nat) (args : Array Value) (ds gs : List (DataW H)) (before : List MemPlace)
    (hval : ∀ (j : Nat) t v, Tryd.f4.params[j]? = some t → args[j]? = some v → Value.okWide Tryd.prog W .any base t v)
    (hW : DataW.Whole enc Tryd.prog Tryd.f4.params.toList Rows.upcastWireSpec.vars false W args.toList ds gs before)
    (hsz : (DataW.weightsEach Tryd.prog (Tryd.f4.params.toList ++ Rows.upcastWireSpec.plain.varTypes Tryd.prog) (ds ++ gs)).all (· ≤ reachBytes) = true) (hL : laidMetH Tryd.prog ([("daybook/upcast.taxes", Rows.laid_daybook_upcast_taxes)]) W) :
    Calls Tryd.prog 4 args W fun e W' => ∃ v, e = .returned v ∧ Rows.upcastWireSpec.post enc Tryd.prog Tryd.f4 false true false false W args v W' := by
  have hW' := hW
  obtain ⟨p, q, hA0, hV, rfl, hfz, hnd⟩ := hW
  have hA : DataW.TrodAll enc Tryd.prog W 0 (fun _ => true) true Tryd.f4.params.toList args.toList ds p := hA0
  rw [Tryd.params4] at hA hval hsz
  obtain ⟨v0, vs0, d0, ds0, p0, q0, hargs, rfl, rfl, h0, r0⟩ := trodAll_cons hA
  obtain ⟨v1, vs1, d1, ds1, p1, q1, rfl, rfl, rfl, h1, r1⟩ := trodAll_cons r0
  obtain ⟨rfl, rfl, rfl⟩ := trodAll_nil r1
  obtain rfl : args = #[v0, v1] := by cases args; simp_all
  obtain ⟨rfl, rfl⟩ := trodVars_none hV
  obtain ⟨a0, rfl, rfl, rfl, w0⟩ := open_int Tryd.underlying3 (hval 0 3 v0 rfl rfl) h0
  have k1 := h1
  have lt1 : ∀ x ∈ p1, x.block < W.heap.size := by obtain ⟨m, hm⟩ := k1; exact DataW.trod_lt m _ _ _ hm
  obtain ⟨a1, rfl, _, w1⟩ := open_event Tryd.underlying25 (by kernel_rfl) (by kernel_rfl) (by kernel_rfl) (by kernel_rfl) (by kernel_rfl) (by kernel_rfl) (by kernel_rfl) (by kernel_rfl) (by kernel_rfl) (by kernel_rfl) (by kernel_rfl) (by kernel_rfl) (hval 1 25 v1 rfl rfl) h1
  clear hA0
  refine (walk a0 a1 W w0 w1 (tax_of hL)).mono fun e W' ⟨he, bel⟩ => ?_
  subst he
  exact ⟨_, rfl, _, _, _, [], _, [], hW', trodAll_mk1 (shut_bool Tryd.underlying4 _), (trodAll_cons_mk (shut_int Tryd.underlying3 w0) (trodAll_cons_mk (Below.trod laidOut (by kernel_rfl) (of_decide_eq_true (by kernel_rfl)) k1 bel lt1) trodAll_mk0)), rfl, bel.frame _, fun h => by cases h⟩
set_option maxRecDepth 100000 in
theorem start (os : Os) : ∃ w0 : World, w0.os = os ∧ (w0.forCall (fun _ _ => 0) ⟨#[], #[.int .i64 0, .agg #[.int .i64 0, .int .i64 0, .int .i64 0, .int .i64 0, .int .i64 0, .int .i64 0, .int .i64 0, .string ⟨#[]⟩, .int .i64 0, .string ⟨#[]⟩]], []⟩).variablesB Tryd.prog = true ∧
    ((w0.forCall (fun _ _ => 0) ⟨#[], #[.int .i64 0, .agg #[.int .i64 0, .int .i64 0, .int .i64 0, .int .i64 0, .int .i64 0, .int .i64 0, .int .i64 0, .string ⟨#[]⟩, .int .i64 0, .string ⟨#[]⟩]], []⟩).heap.toList.drop Tryd.prog.globals.size).take ((begin Tryd.prog (fun _ _ => 0) default).world.heap.size - Tryd.prog.globals.size) = (begin Tryd.prog (fun _ _ => 0) default).world.heap.toList.drop Tryd.prog.globals.size ∧
    Input.okWideB Tryd.prog (w0.forCall (fun _ _ => 0) ⟨#[], #[.int .i64 0, .agg #[.int .i64 0, .int .i64 0, .int .i64 0, .int .i64 0, .int .i64 0, .int .i64 0, .int .i64 0, .string ⟨#[]⟩, .int .i64 0, .string ⟨#[]⟩]], []⟩) 4 ⟨#[], #[.int .i64 0, .agg #[.int .i64 0, .int .i64 0, .int .i64 0, .int .i64 0, .int .i64 0, .int .i64 0, .int .i64 0, .string ⟨#[]⟩, .int .i64 0, .string ⟨#[]⟩]], []⟩ = true ∧
    laidMet Tryd.prog Rows.upcastWireRow.laid (w0.forCall (fun _ _ => 0) ⟨#[], #[.int .i64 0, .agg #[.int .i64 0, .int .i64 0, .int .i64 0, .int .i64 0, .int .i64 0, .int .i64 0, .int .i64 0, .string ⟨#[]⟩, .int .i64 0, .string ⟨#[]⟩]], []⟩).memory ∧
    ∀ (H : Type) (enc : TypeId × Value → H), DataW.whole enc Tryd.prog (w0.forCall (fun _ _ => 0) ⟨#[], #[.int .i64 0, .agg #[.int .i64 0, .int .i64 0, .int .i64 0, .int .i64 0, .int .i64 0, .int .i64 0, .int .i64 0, .string ⟨#[]⟩, .int .i64 0, .string ⟨#[]⟩]], []⟩).memory Tryd.f4.params.toList Rows.upcastWireSpec.vars false (#[.int .i64 0, .agg #[.int .i64 0, .int .i64 0, .int .i64 0, .int .i64 0, .int .i64 0, .int .i64 0, .int .i64 0, .string ⟨#[]⟩, .int .i64 0, .string ⟨#[]⟩]] : Array Value).toList 8 = some ([.lit (.int .i64 0), .agg [.lit (.int .i64 0), .lit (.int .i64 0), .lit (.int .i64 0), .lit (.int .i64 0), .lit (.int .i64 0), .lit (.int .i64 0), .lit (.int .i64 0), .lit (.string []), .lit (.int .i64 0), .lit (.string [])]], [], []) :=
  ⟨{ World.holding Tryd.prog os ⟨#[], #[], []⟩ with heap := (World.holding Tryd.prog os ⟨#[], #[], []⟩).heap.modify 0 fun
      | .cells _ t frozen => .cells #[.int .i64 0, .int .i64 1900, .int .i64 2000, .int .i64 700] t frozen
      | o => o }, rfl, by kernel_rfl, by kernel_rfl, by kernel_rfl, laidMet_of_run' 8 (by kernel_rfl) (by kernel_rfl), fun _ _ => by kernel_rfl⟩
set_option maxRecDepth 100000 in
theorem lifted (os : Os) (started : os.Started) (H : Type) (enc : TypeId × Value → H) (F : Stop.Interp) :
    ReturnsInHanded {} Tryd.checked os 4 .any ((OpenSpec.ofChange Rows.upcastWireSpec).preRow enc Tryd.prog Tryd.f4 Rows.upcastWireRow.domain false Rows.upcastWireRow.laid) (((OpenSpec.ofChange Rows.upcastWireSpec).at F).post enc Tryd.prog Tryd.f4 false true false false) := by
  obtain ⟨w0, h1, h2, h3, h4, h5, h6⟩ := start os
  refine returnsInHanded_of_row (C := Tryd.checked) (s := OpenSpec.ofChange Rows.upcastWireSpec) own started (by kernel_rfl) Tryd.func4
    (witness_row_at (enc := enc) (C := Tryd.checked) false w0 #[.int .i64 0, .agg #[.int .i64 0, .int .i64 0, .int .i64 0, .int .i64 0, .int .i64 0, .int .i64 0, .int .i64 0, .string ⟨#[]⟩, .int .i64 0, .string ⟨#[]⟩]] h1 h2 h3 h4
      (OpenSpec.preRow_of_cond 8 (h6 H enc) (by kernel_rfl) (fun k hk => by cases hk) (by kernel_rfl) h5)) ?_
  intro W base args ds gs before hval hW _ hcond hsz hL _ _
  exact contract H enc W base args ds gs before hval hW hsz hL
theorem said : Rows.UpcastWireSaid :=
  OpenClaim.holds_of_cond 4 Tryd.f4 rfl rfl rfl rfl rfl rfl rfl ⟨rfl, rfl, rfl, rfl, rfl⟩ rfl rfl rfl rfl rfl (by kernel_rfl) Tryd.func4 (by kernel_rfl)
    (of_decide_eq_true (by kernel_rfl)) (by unfold Func.isWrapper; first | (rw [if_pos (by decide +kernel)]; kernel_rfl) | (rw [if_neg (by decide +kernel)]; exact ⟨rfl, rfl⟩))
    (fun os started H enc _ F => by rw [OpenClaim.pre_eq_preRow]; exact lifted os started H enc F)
theorem plain (f : FuncId) (fn : Func) (hf : Tryd.pinned.checked.prog.funcNamed "daybook/daybooklaw07.UpcastWire" = some f) (hfn : Tryd.pinned.checked.prog.funcs[f]? = some fn) :
    true = Tryd.pinned.checked.prog.looks [] ∧ ∀ (j : Nat) t, fn.params[j]? = some t → Tryd.pinned.checked.prog.wantsStandIn t = false := by
  obtain rfl : f = 4 := Option.some.inj ((show Tryd.prog.funcNamed "daybook/daybooklaw07.UpcastWire" = some 4 by kernel_rfl).symm.trans hf) |>.symm
  obtain rfl : fn = Tryd.f4 := (Option.some.inj (Tryd.func4.symm.trans hfn)).symm
  refine ⟨by kernel_rfl, fun j t ht => ?_⟩
  rw [Tryd.params4] at ht
  have hm := Array.mem_of_getElem? ht
  have hall : ∀ t ∈ (#[3, 25] : Array TypeId), Tryd.prog.wantsStandIn t = false := by
    intro t ht
    simp only [List.mem_toArray, List.mem_cons, List.not_mem_nil, or_false] at ht
    rcases ht with rfl | rfl <;> kernel_rfl
  exact hall t hm
theorem card : Rows.UpcastWireCardSaid :=
  Claim7.holds_tied_plain_at .later [] _ _ _ _ said (fun _ h => by cases h) (by kernel_rfl) (fun _ h => by cases h) upcastWire_row_tie rfl ⟨rfl, rfl⟩ (by kernel_rfl) rfl plain (by kernel_rfl)
end Go.Proofs.YtlcefnpiimpbpaaDoor.upcastWire
