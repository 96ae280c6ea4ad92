/- Unlike events, or unlike versions, have unlike packs: for every two numbers and two events. -/
import Derived.Test.YtfhcbdmmckjmaabJ17
import Derived.Test.YtfhcbdmmckjmaabJ18
import Derived.SizedLaws
import Derived.ChangeOld
namespace Go.Proofs.Ytfhcbdmmckjmaab.schemaUnlike
open Go.ChangeShapes Go.WideShapes Go.ChangeAt Go.RowKit
set_option linter.unusedVariables false
theorem enc_app (u : Nat) (r : List Nat) (h : u ≤ 18446744073709551615) : dec 0 0 (enc u ++ r) = (u, (enc u).length, 0) := by
  have h1 := dec_enc 9 0 0 u r rfl (by decide) (by omega) (by omega)
  simpa [enc] using h1
theorem pack_inj {v w : Int} {e f : Ev} (h1 : chk v e = 0) (h2 : chk w f = 0) (h : (spk v e).1 = (spk w f).1) : v = w ∧ e = f := by
  have r := right_of h1
  have s := right_of h2
  have a1 := r.v1
  have a2 := r.v5
  have b1 := s.v1
  have b2 := s.v5
  rw [show spk v e = (enc v.toNat ++ ones (efs v e), 0) from if_neg (by simp [h1]), show spk w f = (enc w.toNat ++ ones (efs w f), 0) from if_neg (by simp [h2])] at h
  simp only at h
  have d1 := enc_app v.toNat (ones (efs v e)) (by omega)
  have d2 := enc_app w.toNat (ones (efs w f)) (by omega)
  rw [h, d2] at d1
  obtain ⟨d3, d4⟩ := Prod.mk.inj d1
  obtain ⟨d5, _⟩ := Prod.mk.inj d4
  have hvw : v = w := by omega
  subst hvw
  refine ⟨rfl, ?_⟩
  have h3 := List.append_cancel_left h
  have q1 := sdec_back r
  rw [h3, sdec_back s] at q1
  exact (Prod.mk.inj q1).1.symm
theorem bytes_ext {s t : ByteArray} (h : s.toList = t.toList) : s = t := by
  rw [Lib.toList_data, Lib.toList_data] at h
  cases s with
  | mk d => cases t with
    | mk d2 => exact congrArg ByteArray.mk (Array.toList_inj.1 h)
theorem ev_ne {e f : Ev} (h : e ≠ f) (w : World) : (binOp .eql 24 (.agg (evA e)) (.agg (evA f))).run Try.prog w = .ok (.bool false) w := by
  obtain ⟨a0, a1, a2, a3, a4, a5, a6, a7, a8, a9⟩ := e
  obtain ⟨b0, b1, b2, b3, b4, b5, b6, b7, b8, b9⟩ := f
  rw [run_eql_struct]
  unfold evA
  simp [go_sem, Try.underlying24]
  rintro rfl rfl rfl rfl rfl rfl rfl h7 rfl h9
  apply h
  rw [bytes_ext h7, bytes_ext h9]
/-- two events in memory; nothing older has turned -/
def Two2 (w : World) (e f : Ev) (x : World) : Prop := Below w.heap.size w x ∧ EvAt x w.heap.size e ∧ EvAt x (w.heap.size + 1) f
theorem Two2.keep {w x y : World} {e f : Ev} (h : Two2 w e f x) (hb : Below x.heap.size x y) : Two2 w e f y := ⟨below_next h.1 hb, h.2.1.after hb, h.2.2.after hb⟩
theorem Two2.start (w : World) (e f : Ev) : Two2 w e f ((w.alloc (.cells (evA e) 24)).alloc (.cells (evA f) 24)) := by
  refine ⟨(((Below.refl _ _).alloc (Nat.le_refl _) _).alloc (by simp) _), (evAt_new w e).after ((Below.refl _ _).alloc (Nat.le_refl _) _), ?_⟩
  have := evAt_new (w.alloc (.cells (evA e) 24)) f
  simpa using this
set_option maxRecDepth 20000 in
set_option maxHeartbeats 1000000 in
theorem walk_ok (v u : Int) (e f : Ev) (w : World) (c1 : chk v e = 0) (c2 : chk u f = 0) :
    Calls Try.prog 3 #[.int .i64 v, .int .i64 u, .agg (evA e), .agg (evA f)] w fun x w' => x = .returned (.bool true) ∧ Below w.heap.size w w' := by
  have HS : Hid (Two2 w e f ((w.alloc (.cells (evA e) 24)).alloc (.cells (evA f) 24))) := Two2.start w e f
  have T1 : Hid True := trivial
  have T2 : Hid True := trivial
  obtain ⟨L1, hL1⟩ : ∃ L, (spk v e).1 = L := ⟨_, rfl⟩
  obtain ⟨L2, hL2⟩ : ∃ L, (spk u f).1 = L := ⟨_, rfl⟩
  have e1 : spk v e = (enc v.toNat ++ ones (efs v e), 0) := if_neg (by simp [c1])
  have e2 : spk u f = (enc u.toNat ++ ones (efs u f), 0) := if_neg (by simp [c2])
  have HP1 : Hid (spk v e = (L1, 0)) := by show _ = _; rw [← hL1, e1]
  have HP2 : Hid (spk u f = (L2, 0)) := by show _ = _; rw [← hL2, e2]
  have r := right_of c1
  have s := right_of c2
  have len : ∀ (V : Int) (E : Ev), Right V E → (enc V.toNat ++ ones (efs V E)).length ≤ 2000 := fun V E r => by
    have h1 := (encs_pre _ _ _ _ (efs_encs r)).2
    have h2 := (enc_length_le V.toNat (by have := r.v5; omega)).2
    rw [List.length_append]; omega
  obtain ⟨n1, hn1⟩ : ∃ n, L1.length = n := ⟨_, rfl⟩
  obtain ⟨n2, hn2⟩ : ∃ n, L2.length = n := ⟨_, rfl⟩
  have HN1 : Hid (_) := hn1
  have HN2 : Hid (_) := hn2
  have l1 : n1 ≤ 2000 := by rw [← hn1, ← hL1, e1]; exact len v e r
  have l2 : n2 ≤ 2000 := by rw [← hn2, ← hL2, e2]; exact len u f s
  have m1 : n1 ≤ maxLen := by unfold maxLen; omega
  have m2 : n2 ≤ maxLen := by unfold maxLen; omega
  have inj : L1 = L2 → v = u ∧ e = f := fun h => pack_inj c1 c2 (by rw [hL1, hL2, h])
  have back : v = u → e = f → L1 = L2 := fun h1 h2 => by rw [← hL1, ← hL2, h1, h2]
  have HINJ : Hid (_) := inj
  have HBK : Hid (_) := back
  clear c1 c2 hL1 hL2 e1 e2 r s len hn1 hn2 l1 l2 inj back
  by_cases hv : v = u
  · subst hv
    by_cases he : e = f
    · subst he
      have hl := HBK.out rfl rfl
      subst hl
      have heq := ev_eql e
      go_enter Try.func3, Try.ntmps3
      go_wp2_with (first
      | ((with_reducible refine guard_load 24 ?_); first | refine wpList_load_ev rfl _ rfl HS.out.2.1 rfl ?_ | refine wpList_load_ev rfl _ rfl HS.out.2.2 rfl ?_)
      | (go_at_call 5; refine (head06_any _).mono ?_; rintro _ x1 ⟨rfl, hb⟩; have h9 := Two2.keep HS.out hb; clear HS hb; have HS : Hid (Two2 w _ _ x1) := h9; clear h9)
      | (go_at_call 6; clear T1; refine (spack_any v e _).mono ?_; unfold SpkPost; rw [HP1.out]; rintro _ y1 ⟨p1, rfl, ho, hb⟩; obtain ⟨a1, c1, hv, _, _, hy, _⟩ := ho.shape; simp only [HN1.out] at hv; subst hv; have h9 := Two2.keep HS.out hb; clear HS hb ho; have HS : Hid (Two2 w _ _ y1) := h9; have HY1 : Hid (Bytes y1 a1 L1) := hy; clear h9 hy)
      | (go_at_call 6; clear T2; refine (spack_any v e _).mono ?_; unfold SpkPost; rw [HP2.out]; rintro _ y2 ⟨p2, rfl, ho, hb⟩; obtain ⟨a2, c2, hv, _, _, hy, _⟩ := ho.shape; simp only [HN2.out] at hv; subst hv; have h9 := Two2.keep HS.out hb; have h8 := Bytes.keep HY1.out hb; clear HY1; have HY1 : Hid (Bytes y2 a1 L1) := h8; clear h8; clear HS hb ho; have HS : Hid (Two2 w _ _ y2) := h9; have HY2 : Hid (Bytes y2 a2 L1) := hy; clear h9 hy)
      | (go_at_call 7; refine (same_yes L1 n1 n2 a1 a2 c1 c2 _ HN1.out HN2.out HY1.out HY2.out m1).mono ?_; rintro _ y3 ⟨rfl, hb⟩; have h9 := Two2.keep HS.out hb; clear HS hb; have HS : Hid (Two2 w _ _ y3) := h9; clear h9)
      | ((with_reducible refine guard_loadg 24 ?_); first | refine wpList_load_evg rfl _ rfl HS.out.2.1 rfl ?_ | refine wpList_load_evg rfl _ rfl HS.out.2.2 rfl ?_))
      go_ret
      exact ⟨rfl, HS.out.1⟩
    · have hne : L1 ≠ L2 := fun h => he (HINJ.out h).2
      have HNE : Hid (_) := hne
      have heq := ev_ne he
      clear hne he
      go_enter Try.func3, Try.ntmps3
      go_wp2_with (first
      | ((with_reducible refine guard_load 24 ?_); first | refine wpList_load_ev rfl _ rfl HS.out.2.1 rfl ?_ | refine wpList_load_ev rfl _ rfl HS.out.2.2 rfl ?_)
      | (go_at_call 5; refine (head06_any _).mono ?_; rintro _ x1 ⟨rfl, hb⟩; have h9 := Two2.keep HS.out hb; clear HS hb; have HS : Hid (Two2 w _ _ x1) := h9; clear h9)
      | (go_at_call 6; clear T1; refine (spack_any v e _).mono ?_; unfold SpkPost; rw [HP1.out]; rintro _ y1 ⟨p1, rfl, ho, hb⟩; obtain ⟨a1, c1, hv, _, _, hy, _⟩ := ho.shape; simp only [HN1.out] at hv; subst hv; have h9 := Two2.keep HS.out hb; clear HS hb ho; have HS : Hid (Two2 w _ _ y1) := h9; have HY1 : Hid (Bytes y1 a1 L1) := hy; clear h9 hy)
      | (go_at_call 6; clear T2; refine (spack_any v f _).mono ?_; unfold SpkPost; rw [HP2.out]; rintro _ y2 ⟨p2, rfl, ho, hb⟩; obtain ⟨a2, c2, hv, _, _, hy, _⟩ := ho.shape; simp only [HN2.out] at hv; subst hv; have h9 := Two2.keep HS.out hb; have h8 := Bytes.keep HY1.out hb; clear HY1; have HY1 : Hid (Bytes y2 a1 L1) := h8; clear h8; clear HS hb ho; have HS : Hid (Two2 w _ _ y2) := h9; have HY2 : Hid (Bytes y2 a2 L2) := hy; clear h9 hy)
      | (go_at_call 7; refine (same_no L1 L2 n1 n2 a1 a2 c1 c2 _ HNE.out HN1.out HN2.out HY1.out HY2.out m1 m2).mono ?_; rintro _ y3 ⟨rfl, hb⟩; have h9 := Two2.keep HS.out hb; clear HS hb; have HS : Hid (Two2 w _ _ y3) := h9; clear h9)
      | ((with_reducible refine guard_loadg 24 ?_); first | refine wpList_load_evg rfl _ rfl HS.out.2.1 rfl ?_ | refine wpList_load_evg rfl _ rfl HS.out.2.2 rfl ?_))
      go_ret
      exact ⟨rfl, HS.out.1⟩
  · have hne : L1 ≠ L2 := fun h => hv (HINJ.out h).1
    have HNE : Hid (_) := hne
    have hvb : (v == u) = false := by simpa using hv
    clear hne
    go_enter Try.func3, Try.ntmps3
    go_wp2_with (first
      | ((with_reducible refine guard_load 24 ?_); first | refine wpList_load_ev rfl _ rfl HS.out.2.1 rfl ?_ | refine wpList_load_ev rfl _ rfl HS.out.2.2 rfl ?_)
      | (go_at_call 5; refine (head06_any _).mono ?_; rintro _ x1 ⟨rfl, hb⟩; have h9 := Two2.keep HS.out hb; clear HS hb; have HS : Hid (Two2 w _ _ x1) := h9; clear h9)
      | (go_at_call 6; clear T1; refine (spack_any v e _).mono ?_; unfold SpkPost; rw [HP1.out]; rintro _ y1 ⟨p1, rfl, ho, hb⟩; obtain ⟨a1, c1, hv, _, _, hy, _⟩ := ho.shape; simp only [HN1.out] at hv; subst hv; have h9 := Two2.keep HS.out hb; clear HS hb ho; have HS : Hid (Two2 w _ _ y1) := h9; have HY1 : Hid (Bytes y1 a1 L1) := hy; clear h9 hy)
      | (go_at_call 6; clear T2; refine (spack_any u f _).mono ?_; unfold SpkPost; rw [HP2.out]; rintro _ y2 ⟨p2, rfl, ho, hb⟩; obtain ⟨a2, c2, hv, _, _, hy, _⟩ := ho.shape; simp only [HN2.out] at hv; subst hv; have h9 := Two2.keep HS.out hb; have h8 := Bytes.keep HY1.out hb; clear HY1; have HY1 : Hid (Bytes y2 a1 L1) := h8; clear h8; clear HS hb ho; have HS : Hid (Two2 w _ _ y2) := h9; have HY2 : Hid (Bytes y2 a2 L2) := hy; clear h9 hy)
      | (go_at_call 7; refine (same_no L1 L2 n1 n2 a1 a2 c1 c2 _ HNE.out HN1.out HN2.out HY1.out HY2.out m1 m2).mono ?_; rintro _ y3 ⟨rfl, hb⟩; have h9 := Two2.keep HS.out hb; clear HS hb; have HS : Hid (Two2 w _ _ y3) := h9; clear h9))
    go_ret
    exact ⟨rfl, HS.out.1⟩
set_option maxRecDepth 20000 in
set_option maxHeartbeats 1000000 in
theorem walk_no (v u : Int) (e f : Ev) (w : World) (c0 : chk v e ≠ 0 ∨ (chk v e = 0 ∧ chk u f ≠ 0)) :
    Calls Try.prog 3 #[.int .i64 v, .int .i64 u, .agg (evA e), .agg (evA f)] w fun x w' => x = .returned (.bool true) ∧ Below w.heap.size w w' := by
  have HS : Hid (Two2 w e f ((w.alloc (.cells (evA e) 24)).alloc (.cells (evA f) 24))) := Two2.start w e f
  have T1 : Hid True := trivial
  have T2 : Hid True := trivial
  obtain ⟨L1, k1, hP1⟩ : ∃ L k, spk v e = (L, k) := ⟨_, _, rfl⟩
  obtain ⟨L2, k2, hP2⟩ : ∃ L k, spk u f = (L, k) := ⟨_, _, rfl⟩
  have HP1 : Hid (_) := hP1
  have HP2 : Hid (_) := hP2
  have g1 : chk v e ≠ 0 → k1 ≠ 0 := fun h => by
    rw [show spk v e = ([], chk v e) from if_pos h] at hP1
    rw [← (Prod.mk.inj hP1).2]; exact h
  have g2 : chk u f ≠ 0 → k2 ≠ 0 := fun h => by
    rw [show spk u f = ([], chk u f) from if_pos h] at hP2
    rw [← (Prod.mk.inj hP2).2]; exact h
  have g3 : chk v e = 0 → k1 = 0 := fun h => by
    rw [show spk v e = (enc v.toNat ++ ones (efs v e), 0) from if_neg (by simp [h])] at hP1
    exact (Prod.mk.inj hP1).2.symm
  rcases c0 with c0 | ⟨c0, c1⟩
  · have hk : (k1 != 0) = true := by simpa using g1 c0
    clear g1 g2 g3 hP1 hP2 c0
    go_enter Try.func3, Try.ntmps3
    go_wp2_with (first
      | ((with_reducible refine guard_load 24 ?_); first | refine wpList_load_ev rfl _ rfl HS.out.2.1 rfl ?_ | refine wpList_load_ev rfl _ rfl HS.out.2.2 rfl ?_)
      | (go_at_call 5; refine (head06_any _).mono ?_; rintro _ x1 ⟨rfl, hb⟩; have h9 := Two2.keep HS.out hb; clear HS hb; have HS : Hid (Two2 w _ _ x1) := h9; clear h9)
      | (go_at_call 6; clear T1; refine (spack_any v e _).mono ?_; unfold SpkPost; rw [HP1.out]; rintro _ y1 ⟨p1, rfl, ho, hb⟩; have h9 := Two2.keep HS.out hb; clear HS hb ho; have HS : Hid (Two2 w _ _ y1) := h9; clear h9)
      | (go_at_call 6; clear T2; refine (spack_any u f _).mono ?_; unfold SpkPost; rw [HP2.out]; rintro _ y2 ⟨p2, rfl, ho, hb⟩; have h9 := Two2.keep HS.out hb; clear HS hb ho; have HS : Hid (Two2 w _ _ y2) := h9; clear h9))
    go_ret
    exact ⟨rfl, HS.out.1⟩
  · have hk : (k2 != 0) = true := by simpa using g2 c1
    have hk1 := g3 c0
    subst hk1
    clear g1 g2 g3 hP1 hP2 c0 c1
    go_enter Try.func3, Try.ntmps3
    go_wp2_with (first
      | ((with_reducible refine guard_load 24 ?_); first | refine wpList_load_ev rfl _ rfl HS.out.2.1 rfl ?_ | refine wpList_load_ev rfl _ rfl HS.out.2.2 rfl ?_)
      | (go_at_call 5; refine (head06_any _).mono ?_; rintro _ x1 ⟨rfl, hb⟩; have h9 := Two2.keep HS.out hb; clear HS hb; have HS : Hid (Two2 w _ _ x1) := h9; clear h9)
      | (go_at_call 6; clear T1; refine (spack_any v e _).mono ?_; unfold SpkPost; rw [HP1.out]; rintro _ y1 ⟨p1, rfl, ho, hb⟩; have h9 := Two2.keep HS.out hb; clear HS hb ho; have HS : Hid (Two2 w _ _ y1) := h9; clear h9)
      | (go_at_call 6; clear T2; refine (spack_any u f _).mono ?_; unfold SpkPost; rw [HP2.out]; rintro _ y2 ⟨p2, rfl, ho, hb⟩; have h9 := Two2.keep HS.out hb; clear HS hb ho; have HS : Hid (Two2 w _ _ y2) := h9; clear h9))
    go_ret
    exact ⟨rfl, HS.out.1⟩
theorem walk (v u : Int) (e f : Ev) (w : World) (w0 : (Lit.int .i64 v).wf = true) (w1 : (Lit.int .i64 u).wf = true) (w2 : e.Fit) (w3 : f.Fit) :
    Calls Try.prog 3 #[.int .i64 v, .int .i64 u, .agg (evA e), .agg (evA f)] w fun x w' => x = .returned (.bool true) ∧ Below w.heap.size w w' := by
  by_cases c1 : chk v e = 0
  · by_cases c2 : chk u f = 0
    · exact walk_ok v u e f w c1 c2
    · exact walk_no v u e f w (.inr ⟨c1, c2⟩)
  · exact walk_no v u e f w (.inl c1)
theorem own : ownKnob Try.prog.godebug = none := by kernel_rfl
theorem laidOut : laidOutB Try.prog = true := by kernel_rfl
set_option maxRecDepth 100000 in
theorem contract (H : Type) (enc : TypeId × Value → H) (W : World) (base : Nat) (args : Array Value) (ds gs : List (DataW H)) (before : List MemPlace)
    (hval : ∀ (j : Nat) t v, Try.f3.params[j]? = some t → args[j]? = some v → Value.okWide Try.prog W .any base t v)
    (hW : DataW.Whole enc Try.prog Try.f3.params.toList Rows.schemaUnlikeSpec.vars false W args.toList ds gs before)
    (hsz : (DataW.weightsEach Try.prog (Try.f3.params.toList ++ Rows.schemaUnlikeSpec.plain.varTypes Try.prog) (ds ++ gs)).all (· ≤ reachBytes) = true) :
    Calls Try.prog 3 args W fun e W' => ∃ v, e = .returned v ∧ Rows.schemaUnlikeSpec.post enc Try.prog Try.f3 false true false false W args v W' := by
  have hW' := hW
  obtain ⟨p, q, hA0, hV, rfl, hfz, hnd⟩ := hW
  have hA : DataW.TrodAll enc Try.prog W 0 (fun _ => true) true Try.f3.params.toList args.toList ds p := hA0
  rw [Try.params3] at hA hval hsz
  obtain ⟨v0, vs0, d0, ds0, p0, q0, hargs, rfl, rfl, h0, r0⟩ := trodAll_cons hA
  obtain ⟨v1, vs1, d1, ds1, p1, q1, rfl, rfl, rfl, h1, r1⟩ := trodAll_cons r0
  obtain ⟨v2, vs2, d2, ds2, p2, q2, rfl, rfl, rfl, h2, r2⟩ := trodAll_cons r1
  obtain ⟨v3, vs3, d3, ds3, p3, q3, rfl, rfl, rfl, h3, r3⟩ := trodAll_cons r2
  obtain ⟨rfl, rfl, rfl⟩ := trodAll_nil r3
  obtain rfl : args = #[v0, v1, v2, v3] := by cases args; simp_all
  obtain ⟨rfl, rfl⟩ := trodVars_none hV
  obtain ⟨a0, rfl, rfl, rfl, w0⟩ := open_int Try.underlying3 (hval 0 3 v0 rfl rfl) h0
  obtain ⟨a1, rfl, rfl, rfl, w1⟩ := open_int Try.underlying3 (hval 1 3 v1 rfl rfl) h1
  have k2 := h2
  have lt2 : ∀ x ∈ p2, x.block < W.heap.size := by obtain ⟨m, hm⟩ := k2; exact DataW.trod_lt m _ _ _ hm
  obtain ⟨a2, rfl, _, w2⟩ := open_event Try.underlying24 (by kernel_rfl) (by kernel_rfl) (by kernel_rfl) (by kernel_rfl) (by kernel_rfl) (by kernel_rfl) (by kernel_rfl) (by kernel_rfl) (by kernel_rfl) (by kernel_rfl) (by kernel_rfl) (by kernel_rfl) (hval 2 24 v2 rfl rfl) h2
  have k3 := h3
  have lt3 : ∀ x ∈ p3, x.block < W.heap.size := by obtain ⟨m, hm⟩ := k3; exact DataW.trod_lt m _ _ _ hm
  obtain ⟨a3, rfl, _, w3⟩ := open_event Try.underlying24 (by kernel_rfl) (by kernel_rfl) (by kernel_rfl) (by kernel_rfl) (by kernel_rfl) (by kernel_rfl) (by kernel_rfl) (by kernel_rfl) (by kernel_rfl) (by kernel_rfl) (by kernel_rfl) (by kernel_rfl) (hval 3 24 v3 rfl rfl) h3
  clear hA0
  refine (walk a0 a1 a2 a3 W w0 w1 w2 w3).mono fun e W' ⟨he, bel⟩ => ?_
  subst he
  exact ⟨_, rfl, _, _, _, [], _, [], hW', trodAll_mk1 (shut_bool Try.underlying4 _), (trodAll_cons_mk (shut_int Try.underlying3 w0) (trodAll_cons_mk (shut_int Try.underlying3 w1) (trodAll_cons_mk (Below.trod laidOut (by kernel_rfl) (of_decide_eq_true (by kernel_rfl)) k2 bel lt2) (trodAll_cons_mk (Below.trod laidOut (by kernel_rfl) (of_decide_eq_true (by kernel_rfl)) k3 bel lt3) trodAll_mk0)))), rfl, bel.frame _, fun h => by cases h⟩
set_option maxRecDepth 100000 in
theorem lifted (os : Os) (started : os.Started) (H : Type) (enc : TypeId × Value → H) :
    ReturnsInHanded {} Try.checked os 3 .any (Rows.schemaUnlikeSpec.pre6 enc Try.prog Try.f3 Rows.schemaUnlikeRow.domain false) (Rows.schemaUnlikeSpec.post enc Try.prog Try.f3 false true false false) := by
  refine returnsInHanded_of_change_sized (C := Try.checked) own started (by kernel_rfl) Try.func3
    (ChangeSpec.witness6 (enc := enc) (C := Try.checked) false ⟨#[], #[.int .i64 0, .int .i64 0, .agg #[.int .i64 0, .int .i64 0, .int .i64 0, .int .i64 0, .int .i64 0, .int .i64 0, .int .i64 0, .string ⟨#[]⟩, .int .i64 0, .string ⟨#[]⟩], .agg #[.int .i64 0, .int .i64 0, .int .i64 0, .int .i64 0, .int .i64 0, .int .i64 0, .int .i64 0, .string ⟨#[]⟩, .int .i64 0, .string ⟨#[]⟩]], []⟩ 8 (by kernel_rfl) (by kernel_rfl) (by kernel_rfl) (by kernel_rfl)) ?_
  intro W base args ds gs before hval hW _ hsz _
  exact contract H enc W base args ds gs before hval hW hsz
theorem over : Rows.schemaUnlikeRow.holds Try.pinned (OpenSpec.ofChange Rows.schemaUnlikeSpec) :=
  OpenClaim.holds_of_wide 3 Try.f3 rfl rfl rfl rfl rfl rfl rfl ⟨rfl, rfl, rfl, rfl, rfl⟩ rfl rfl rfl rfl rfl (by kernel_rfl) Try.func3 (by kernel_rfl)
    (of_decide_eq_true (by kernel_rfl)) (by unfold Func.isWrapper; first | (rw [if_pos (by decide +kernel)]; kernel_rfl) | (rw [if_neg (by decide +kernel)]; exact ⟨rfl, rfl⟩))
    (fun os started H enc _ => lifted os started H enc)
theorem proved : Rows.SchemaUnlikeSaid := over
end Go.Proofs.Ytfhcbdmmckjmaab.schemaUnlike
