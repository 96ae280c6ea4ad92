/- MulDiv answers as the reference does: for every three numbers. -/
import Derived.Test.YtfkcnegcigggpaaOver
import Derived.SizedLaws
import Derived.ChangeOld
namespace Go.Proofs.Ytfkcnegcigggpaa.numDivs
open Go.ChangeShapes Go.WideShapes Go.ChangeAt Go.RowKit
theorem sgn_times {s t : Bool} {A B C A' B' : Nat} (h : C = A' * B') (e1 : A = A') (e2 : B = B') : sgn (s != t) C = sgn s A * sgn t B := by
  subst h e1 e2
  cases s <;> cases t <;> simp [sgn, Int.neg_mul, Int.mul_neg]
theorem times_is (v u : Value) (L M : Int) (w : World) (hv : IsL v L) (hu : IsL u M) (hL : L.natAbs < 65536 ^ 8) (hM : M.natAbs < 65536 ^ 8) :
    Calls Try.prog 15 #[v, u] w fun e w' => ∃ r, e = .returned r ∧ IsL r (L * M) ∧ Below w.heap.size w w' := by
  obtain ⟨s, x, rfl, hx, rfl⟩ := hv
  obtain ⟨t, y, rfl, hy, rfl⟩ := hu
  rw [sgn_abs] at hL hM
  refine (times_any s t x y w hx hy).mono ?_
  rintro e w' ⟨z, rfl, hz, hV, hb⟩
  refine ⟨_, rfl, ⟨_, z, rfl, hz, ?_⟩, hb⟩
  have e1 := Tm.low hL
  have e2 := Tm.low hM
  exact sgn_times hV e1 e2
theorem small (a : Int) (h : inI a) : a.natAbs < 65536 ^ 8 := by
  have h9 : (2 : Nat) ^ 64 ≤ 65536 ^ 8 := by decide
  unfold inI at h
  have : a.natAbs < 2 ^ 64 := by omega
  exact Nat.lt_of_lt_of_le this h9
/-- the sign of a number that isn't 0 -/
theorem sgn_neg {s : Bool} {n : Nat} (h : 0 < n) : decide (sgn s n < 0) = s := by
  unfold sgn
  cases s <;> simp <;> omega
theorem sgn_nought (s t : Bool) : sgn s 0 = sgn t 0 := by cases s <;> cases t <;> rfl
theorem quo_sgn {s t : Bool} {A B : Nat} (hB : 0 < B) : sgn (s != t) (A / B) = sgn (decide (sgn s A < 0) != decide (sgn t B < 0)) ((sgn s A).natAbs / (sgn t B).natAbs) := by
  rw [sgn_abs, sgn_abs, sgn_neg hB]
  rcases Nat.eq_zero_or_pos A with rfl | hA
  · rw [Nat.zero_div]; exact sgn_nought _ _
  · rw [sgn_neg hA]
theorem over_is (v u : Value) (L M : Int) (w : World) (hv : IsL v L) (hu : IsL u M) (hM0 : M ≠ 0) (hM : M.natAbs < 65536 ^ 8) :
    Calls Try.prog 32 #[v, u] w fun e w' => ∃ s q t r, e = .returned (.tuple #[.agg (LA s q), .agg (LA t r)]) ∧ IsL (.agg (LA s q)) (sgn (decide (L < 0) != decide (M < 0)) (L.natAbs / M.natAbs)) ∧ Below w.heap.size w w' := by
  obtain ⟨s, x, rfl, hx, rfl⟩ := hv
  obtain ⟨t, y, rfl, hy, rfl⟩ := hu
  obtain ⟨A, hA⟩ : ∃ A, V x 16 = A := ⟨_, rfl⟩
  obtain ⟨B, hB⟩ : ∃ B, V y 16 = B := ⟨_, rfl⟩
  rw [hB, sgn_abs] at hM
  rw [hB] at hM0
  have hB0 : 0 < B := by
    rcases Nat.eq_zero_or_pos B with h | h
    · exfalso; apply hM0; rw [h]; cases t <;> rfl
    · exact h
  have hB1 : B < 65536 ^ 15 := Nat.lt_of_lt_of_le hM (Nat.pow_le_pow_right (by omega) (by omega))
  refine (over_any s t x y A B w hx hy hA hB hB0 hB1).mono ?_
  rintro e w' ⟨q, r, rfl, hq, hr, hVq, hVr, hb⟩
  refine ⟨_, q, _, r, rfl, ⟨_, q, rfl, hq, ?_⟩, hb⟩
  rw [hA, hB, ← quo_sgn hB0, hVq]
theorem mdq_eq (a b d : Int) : sgn (decide (a * b < 0) != decide (d < 0)) ((a * b).natAbs / d.natAbs) = mdq a b d := by
  unfold mdq
  rw [Int.natAbs_mul]
  rcases Nat.eq_zero_or_pos (a.natAbs * b.natAbs) with h | h
  · rw [h, Nat.zero_div]; exact sgn_nought _ _
  · have : decide (a * b < 0) = (decide (a < 0) != decide (b < 0)) := by
      rw [sgn_mul a b]; exact sgn_neg h
    rw [this]
set_option maxRecDepth 20000 in
set_option maxHeartbeats 2000000 in
theorem rmd_any (a b d : Int) (w : World) (h0 : Hid (inI a)) (h2 : Hid (inI b)) (h4 : Hid (inI d)) :
    Calls Try.prog 17 #[.int .i64 a, .int .i64 b, .int .i64 d] w fun e w' => e = .returned (.tuple #[.int .i64 (mdV a b d), .bool (mdB a b d)]) ∧ Below w.heap.size w w' := by
  by_cases hd : d = 0
  · subst hd
    have E3 : Hid (mdV a b 0 = 0 ∧ mdB a b 0 = false) := ⟨rfl, rfl⟩
    go_enter Try.func17, Try.ntmps17
    go_wp2
    go_ret2
    exact ⟨ret_ib E3.out.1.symm E3.out.2.symm, Below.refl _ _⟩
  · have hdb : (d == 0) = false := by simpa using hd
    have HD : Hid (d ≠ 0) := hd
    have HV : Hid (fitV (mdq a b d) = mdV a b d ∧ fitB (mdq a b d) = mdB a b d) := by show _ ∧ _; unfold mdV mdB; rw [if_neg hd, if_neg hd]; exact ⟨rfl, rfl⟩
    obtain ⟨p, Ep⟩ : ∃ p, Hid (mdV a b d = p) := ⟨_, rfl⟩
    obtain ⟨pb, Epb⟩ : ∃ p, Hid (mdB a b d = p) := ⟨_, rfl⟩
    rw [Ep.out, Epb.out]
    clear hd
    go_enter Try.func17, Try.ntmps17
    go_wp2_with (first
      | (go_at_call_of 12 (a); refine (of_is a w h0.out).mono ?_; rintro e w1 ⟨ra, rfl, hra, hb1⟩; have HRA : Hid (IsL ra a) := hra; have HB1 : Hid (Below w.heap.size w w1) := hb1; clear hra hb1)
      | (go_at_call_of 12 (b); refine (of_is b w1 h2.out).mono ?_; rintro e w2 ⟨rb, rfl, hrb, hb2⟩; have HRB : Hid (IsL rb b) := hrb; have HB2 : Hid (Below w.heap.size w w2) := bnx HB1.out hb2; clear hrb hb2)
      | (go_at_call 15; refine (times_is ra rb a b w2 HRA.out HRB.out (small a h0.out) (small b h2.out)).mono ?_; rintro e w3 ⟨rp, rfl, hrp, hb3⟩; have HRP : Hid (IsL rp (a * b)) := hrp; have HB3 : Hid (Below w.heap.size w w3) := bnx HB2.out hb3; clear hrp hb3)
      | (go_at_call_of 12 (d); refine (of_is d w3 h4.out).mono ?_; rintro e w4 ⟨rd, rfl, hrd, hb4⟩; have HRD : Hid (IsL rd d) := hrd; have HB4 : Hid (Below w.heap.size w w4) := bnx HB3.out hb4; clear hrd hb4)
      | (go_at_call 32; refine (over_is rp rd (a * b) d w4 HRP.out HRD.out HD.out (small d h4.out)).mono ?_; rw [mdq_eq]; rintro e w5 ⟨s, q, t, r, rfl, hq, hb5⟩; have HQ : Hid (IsL (.agg (LA s q)) (mdq a b d)) := hq; have HB5 : Hid (Below w.heap.size w w5) := bnx HB4.out hb5; clear hq hb5)
      | ((with_reducible refine guard_store 28 ?_); first | (refine wpList_store_longO rfl _ _ rfl (lay2z w5 #[Value.bool false, Value.int .u64 0, Value.int .u64 0, Value.int .u64 0, Value.int .u64 0, Value.int .u64 0, Value.int .u64 0, Value.int .u64 0, Value.int .u64 0, Value.int .u64 0, Value.int .u64 0, Value.int .u64 0, Value.int .u64 0, Value.int .u64 0, Value.int .u64 0, Value.int .u64 0, Value.int .u64 0] rfl).1 rfl rfl ?_; intro w6 hL6 hO6 hB6; have H6 : Hid (LongAt w6 w5.heap.size s q ∧ LongAt w6 (w5.heap.size + 1) false (fun _ => 0) ∧ Below w5.heap.size w5 w6) := ⟨hL6, hO6 _ _ _ (by omega) (lay2z w5 #[Value.bool false, Value.int .u64 0, Value.int .u64 0, Value.int .u64 0, Value.int .u64 0, Value.int .u64 0, Value.int .u64 0, Value.int .u64 0, Value.int .u64 0, Value.int .u64 0, Value.int .u64 0, Value.int .u64 0, Value.int .u64 0, Value.int .u64 0, Value.int .u64 0, Value.int .u64 0, Value.int .u64 0] rfl).2.1, hB6 _ _ (lay2z w5 #[Value.bool false, Value.int .u64 0, Value.int .u64 0, Value.int .u64 0, Value.int .u64 0, Value.int .u64 0, Value.int .u64 0, Value.int .u64 0, Value.int .u64 0, Value.int .u64 0, Value.int .u64 0, Value.int .u64 0, Value.int .u64 0, Value.int .u64 0, Value.int .u64 0, Value.int .u64 0, Value.int .u64 0] rfl).2.2 (Nat.le_refl _)⟩; clear hL6 hO6 hB6) | (refine wpList_store_longO rfl _ _ rfl H6.out.2.1 rfl rfl ?_; intro w7 hL7 hO7 hB7; have H7 : Hid (LongAt w7 w5.heap.size s q ∧ Below w.heap.size w w7) := ⟨hO7 _ _ _ (by omega) H6.out.1, bnx HB5.out (hB7 _ _ H6.out.2.2 (by omega))⟩; clear hL7 hO7 hB7))
      | ((with_reducible refine guard_load 28 ?_); refine wpList_load_long rfl _ rfl H7.out.1 rfl ?_)
      | (go_at_call 10; refine (fits_is _ _ w7 HQ.out).mono ?_; rw [HV.out.1, HV.out.2, Ep.out, Epb.out]; rintro e w8 ⟨rfl, hb8⟩; have HB8 : Hid (Below w.heap.size w w8) := bnx H7.out.2 hb8; clear hb8))
    go_ret2
    exact ⟨rfl, HB8.out⟩
set_option maxRecDepth 20000 in
theorem walk (a b d : Int) (w : World) (w0 : (Lit.int .i64 a).wf = true) (w1 : (Lit.int .i64 b).wf = true) (w2 : (Lit.int .i64 d).wf = true) :
    Calls Try.prog 5 #[.int .i64 a, .int .i64 b, .int .i64 d] w fun e w' => e = .returned (.bool true) ∧ Below w.heap.size w w' := by
  have h0 : Hid (inI a) := wf_i64 _ w0
  have h2 : Hid (inI b) := wf_i64 _ w1
  have h4 : Hid (inI d) := wf_i64 _ w2
  obtain ⟨p, Ep⟩ : ∃ p, Hid (mdV a b d = p) := ⟨_, rfl⟩
  obtain ⟨pb, Epb⟩ : ∃ p, Hid (mdB a b d = p) := ⟨_, rfl⟩
  clear w0 w1 w2
  go_enter Try.func5, Try.ntmps5
  go_wp2_with (first
    | (go_at_call 9; refine (head04_any w).mono ?_; rintro e w1 ⟨rfl, hb1⟩)
    | (go_at_call 17; refine (rmd_any a b d w1 h0 h2 h4).mono ?_; rw [Ep.out, Epb.out]; rintro e w2 ⟨rfl, hb2⟩)
    | (go_at_call 18; refine (muldiv_any a b d w2 h0.out.1 h0.out.2 h2.out.1 h2.out.2 h4.out.1 h4.out.2).mono ?_; rw [Ep.out, Epb.out]; rintro e w3 ⟨rfl, hb3⟩))
  go_ret
  exact ⟨ret_bool (by simp), bnx (bnx hb1 hb2) hb3⟩
theorem own : ownKnob Try.prog.godebug = none := by kernel_rfl
theorem laidOut : laidOutB Try.prog = true := by kernel_rfl
set_option maxRecDepth 100000 in
theorem contract (H : Type) (enc : TypeId × Value → H) (W : World) (base : Nat) (args : Array Value) (ds gs : List (DataW H)) (before : List MemPlace)
    (hval : ∀ (j : Nat) t v, Try.f5.params[j]? = some t → args[j]? = some v → Value.okWide Try.prog W .any base t v)
    (hW : DataW.Whole enc Try.prog Try.f5.params.toList Rows.numDivsSpec.vars false W args.toList ds gs before)
    (hsz : (DataW.weightsEach Try.prog (Try.f5.params.toList ++ Rows.numDivsSpec.plain.varTypes Try.prog) (ds ++ gs)).all (· ≤ reachBytes) = true) :
    Calls Try.prog 5 args W fun e W' => ∃ v, e = .returned v ∧ Rows.numDivsSpec.post enc Try.prog Try.f5 false true false false W args v W' := by
  have hW' := hW
  obtain ⟨p, q, hA0, hV, rfl, hfz, hnd⟩ := hW
  have hA : DataW.TrodAll enc Try.prog W 0 (fun _ => true) true Try.f5.params.toList args.toList ds p := hA0
  rw [Try.params5] at hA hval hsz
  obtain ⟨v0, vs0, d0, ds0, p0, q0, hargs, rfl, rfl, h0, r0⟩ := trodAll_cons hA
  obtain ⟨v1, vs1, d1, ds1, p1, q1, rfl, rfl, rfl, h1, r1⟩ := trodAll_cons r0
  obtain ⟨v2, vs2, d2, ds2, p2, q2, rfl, rfl, rfl, h2, r2⟩ := trodAll_cons r1
  obtain ⟨rfl, rfl, rfl⟩ := trodAll_nil r2
  obtain rfl : args = #[v0, v1, v2] := by cases args; simp_all
  obtain ⟨rfl, rfl⟩ := trodVars_none hV
  obtain ⟨a0, rfl, rfl, rfl, w0⟩ := open_int Try.underlying2 (hval 0 2 v0 rfl rfl) h0
  obtain ⟨a1, rfl, rfl, rfl, w1⟩ := open_int Try.underlying2 (hval 1 2 v1 rfl rfl) h1
  obtain ⟨a2, rfl, rfl, rfl, w2⟩ := open_int Try.underlying2 (hval 2 2 v2 rfl rfl) h2
  clear hA0
  refine (walk a0 a1 a2 W w0 w1 w2).mono fun e W' ⟨he, bel⟩ => ?_
  subst he
  exact ⟨_, rfl, _, _, _, [], _, [], hW', trodAll_mk1 (shut_bool Try.underlying4 _), (trodAll_cons_mk (shut_int Try.underlying2 w0) (trodAll_cons_mk (shut_int Try.underlying2 w1) (trodAll_cons_mk (shut_int Try.underlying2 w2) trodAll_mk0))), rfl, bel.frame _, fun h => by cases h⟩
set_option maxRecDepth 100000 in
theorem lifted (os : Os) (started : os.Started) (H : Type) (enc : TypeId × Value → H) :
    ReturnsInHanded {} Try.checked os 5 .any (Rows.numDivsSpec.pre6 enc Try.prog Try.f5 Rows.numDivsRow.domain false) (Rows.numDivsSpec.post enc Try.prog Try.f5 false true false false) := by
  refine returnsInHanded_of_change_sized (C := Try.checked) own started (by kernel_rfl) Try.func5
    (ChangeSpec.witness6 (enc := enc) (C := Try.checked) false ⟨#[], #[.int .i64 0, .int .i64 0, .int .i64 0], []⟩ 8 (by kernel_rfl) (by kernel_rfl) (by kernel_rfl) (by kernel_rfl)) ?_
  intro W base args ds gs before hval hW _ hsz _
  exact contract H enc W base args ds gs before hval hW hsz
theorem over : Rows.numDivsRow.holds Try.pinned (OpenSpec.ofChange Rows.numDivsSpec) :=
  OpenClaim.holds_of_wide 5 Try.f5 rfl rfl rfl rfl rfl rfl rfl ⟨rfl, rfl, rfl, rfl, rfl⟩ rfl rfl rfl rfl rfl (by kernel_rfl) Try.func5 (by kernel_rfl)
    (of_decide_eq_true (by kernel_rfl)) (by unfold Func.isWrapper; first | (rw [if_pos (by decide +kernel)]; kernel_rfl) | (rw [if_neg (by decide +kernel)]; exact ⟨rfl, rfl⟩))
    (fun os started H enc _ => lifted os started H enc)
theorem proved : Rows.NumDivsSaid := over
end Go.Proofs.Ytfkcnegcigggpaa.numDivs
