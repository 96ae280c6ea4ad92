/- Add and Sub answer as the reference does: for every two numbers. -/
import Derived.Test.YtfkcnegcigggpaaPlus
import Derived.SizedLaws
import Derived.ChangeOld
import Derived.Deep.RegionHeld
namespace Go.Proofs.Ytfkcnegcigggpaa.numAdds
open Go.ChangeShapes Go.WideShapes Go.ChangeAt Go.RowKit
theorem new_long (w : World) (Z : Array Value) (hZ : LA false (fun _ => 0) = Z) : LongAt (w.alloc (.cells Z 28)) w.heap.size false (fun _ => 0) := by
  subst hZ
  exact (lay1 w false _).1
theorem flip_long {w : World} {b : Nat} {s : Bool} {d : Nat → Nat} (h : LongAt w b s d) (t : Bool) : LongAt (w.setCell ⟨b, 0, none⟩ (.bool t)) b t d := by
  unfold LongAt
  rw [heap_setCell_same w b 0 _ _ _ h]
  rfl
theorem cells17 {w : World} {b : Nat} {s : Bool} {d : Nat → Nat} (h : LongAt w b s d) : w.cell? ⟨b, 0, none⟩ = some (.bool s) ∧ w.cell? ⟨b, 1, none⟩ = some (.int .u64 (d 0 : Int)) ∧ w.cell? ⟨b, 2, none⟩ = some (.int .u64 (d 1 : Int)) ∧ w.cell? ⟨b, 3, none⟩ = some (.int .u64 (d 2 : Int)) ∧ w.cell? ⟨b, 4, none⟩ = some (.int .u64 (d 3 : Int)) ∧ w.cell? ⟨b, 5, none⟩ = some (.int .u64 (d 4 : Int)) ∧ w.cell? ⟨b, 6, none⟩ = some (.int .u64 (d 5 : Int)) ∧ w.cell? ⟨b, 7, none⟩ = some (.int .u64 (d 6 : Int)) ∧ w.cell? ⟨b, 8, none⟩ = some (.int .u64 (d 7 : Int)) ∧ w.cell? ⟨b, 9, none⟩ = some (.int .u64 (d 8 : Int)) ∧ w.cell? ⟨b, 10, none⟩ = some (.int .u64 (d 9 : Int)) ∧ w.cell? ⟨b, 11, none⟩ = some (.int .u64 (d 10 : Int)) ∧ w.cell? ⟨b, 12, none⟩ = some (.int .u64 (d 11 : Int)) ∧ w.cell? ⟨b, 13, none⟩ = some (.int .u64 (d 12 : Int)) ∧ w.cell? ⟨b, 14, none⟩ = some (.int .u64 (d 13 : Int)) ∧ w.cell? ⟨b, 15, none⟩ = some (.int .u64 (d 14 : Int)) ∧ w.cell? ⟨b, 16, none⟩ = some (.int .u64 (d 15 : Int)) :=
  ⟨h.sign, h.digit 0 (by omega), h.digit 1 (by omega), h.digit 2 (by omega), h.digit 3 (by omega), h.digit 4 (by omega), h.digit 5 (by omega), h.digit 6 (by omega), h.digit 7 (by omega), h.digit 8 (by omega), h.digit 9 (by omega), h.digit 10 (by omega), h.digit 11 (by omega), h.digit 12 (by omega), h.digit 13 (by omega), h.digit 14 (by omega), h.digit 15 (by omega)⟩
theorem sgn_not (s : Bool) (n : Nat) : sgn (!s) n = -sgn s n := by cases s <;> simp [sgn]
theorem small (a b : Int) (h0 : inI a) (h2 : inI b) : a.natAbs + b.natAbs < 65536 ^ 16 := by
  have h9 : (2 : Nat) ^ 65 ≤ 65536 ^ 16 := by decide
  unfold inI at h0 h2
  have : a.natAbs + b.natAbs < 2 ^ 65 := by omega
  exact Nat.lt_of_lt_of_le this h9
set_option maxRecDepth 20000 in
set_option maxHeartbeats 2000000 in
theorem walk (a b : Int) (w : World) (w0 : (Lit.int .i64 a).wf = true) (w1 : (Lit.int .i64 b).wf = true) :
    Calls Try.prog 3 #[.int .i64 a, .int .i64 b] w fun e w' => e = .returned (.bool true) ∧ Below w.heap.size w w' := by
  have h0 : Hid (inI a) := wf_i64 _ w0
  have h2 : Hid (inI b) := wf_i64 _ w1
  have HS : Hid (a.natAbs + b.natAbs < 65536 ^ 16) := small a b h0.out h2.out
  have HS2 : Hid (a.natAbs + (-b).natAbs < 65536 ^ 16) := by show _ < _; rw [Int.natAbs_neg]; exact HS.out
  obtain ⟨p, Ep⟩ : ∃ p, Hid (fitV (a + b) = p) := ⟨_, rfl⟩
  obtain ⟨pb, Epb⟩ : ∃ p, Hid (fitB (a + b) = p) := ⟨_, rfl⟩
  obtain ⟨q, Eq⟩ : ∃ p, Hid (fitV (a - b) = p) := ⟨_, rfl⟩
  obtain ⟨qb, Eqb⟩ : ∃ p, Hid (fitB (a - b) = p) := ⟨_, rfl⟩
  have EN : Hid (a + -b = a - b) := by show _ = _; omega
  clear w0 w1
  go_enter Try.func3, Try.ntmps3
  go_wp2_with (first
    | (go_at_call 9; refine (head04_any w).mono ?_; rintro e w1 ⟨rfl, hb1⟩; have HB1 : Hid (Below w.heap.size w w1) := hb1; clear hb1)
    | (go_at_call_of 12 (a); refine (of_is a w1 h0.out).mono ?_; rintro e w2 ⟨ra, rfl, hra, hb2⟩; have HRA : Hid (IsL ra a) := hra; have HB2 : Hid (Below w.heap.size w w2) := bnx HB1.out hb2; clear hra hb2)
    | ((with_reducible refine guard_store 28 ?_); refine wpList_store_long rfl _ _ rfl (new_long w7 #[Value.bool false, Value.int .u64 0, Value.int .u64 0, Value.int .u64 0, Value.int .u64 0, Value.int .u64 0, Value.int .u64 0, Value.int .u64 0, Value.int .u64 0, Value.int .u64 0, Value.int .u64 0, Value.int .u64 0, Value.int .u64 0, Value.int .u64 0, Value.int .u64 0, Value.int .u64 0, Value.int .u64 0] rfl) rfl rfl ?_; intro w8 hL8 hB8; have HB8 : Hid (Below w.heap.size w w8) := bnx HB6.out (bnx hb7 (hB8 _ _ (bal (Below.refl _ _) _) (Nat.le_refl _))); have HL8 : Hid (LongAt w8 w7.heap.size s z) := hL8; have hc8 := hL8.sign; have hf8 := hL8.free 0; have h78 : Hid (w.heap.size ≤ w7.heap.size) := Nat.le_trans HB6.out.size hb7.size; clear hL8 hB8 hb7)
    | (go_at_call_of 12 (b); refine (of_is b w6 h2.out).mono ?_; rintro e w7 ⟨rm, rfl, hrm, hb7⟩; obtain ⟨s, z, rfl, hz, hL⟩ := hrm; have HZ : Hid (Dig z ∧ sgn s (V z 16) = b) := ⟨hz, hL⟩; clear hz hL)
    | (go_at_call_of 12 (b); refine (of_is b _ h2.out).mono ?_; rintro e w3 ⟨rb, rfl, hrb, hb3⟩)
    | (go_at_call 11; refine (plus_is ra rb a b w3 HRA.out hrb HS.out).mono ?_; rintro e w4 ⟨rs, rfl, hrs, hb4⟩)
    | (go_at_call 10; refine (fits_is rs _ w4 hrs).mono ?_; rw [Ep.out, Epb.out]; rintro e w5 ⟨rfl, hb5⟩; have HB5 : Hid (Below w.heap.size w w5) := bnx (bnx (bnx HB2.out hb3) hb4) hb5; clear hb3 hb4 hb5 hrs hrb)
    | (go_at_call 13; refine (add_any a b w5 h0.out.1 h0.out.2 h2.out.1 h2.out.2).mono ?_; rw [Ep.out, Epb.out]; rintro e w6 ⟨rfl, hb6⟩; have HB6 : Hid (Below w.heap.size w w6) := bnx HB5.out hb6; clear hb6))
  have hLm := flip_long HL8.out (!s)
  obtain ⟨w9, hw9⟩ : ∃ w9, w8.setCell ⟨w7.heap.size, 0, none⟩ (.bool (!s)) = w9 := ⟨_, rfl⟩
  have HB9 : Hid (Below w.heap.size w w9) := by rw [← hw9]; exact HB8.out.setCell h78.out _
  rw [hw9] at hLm
  simp only [hw9]
  clear hw9 hc8 hf8 HL8 HB8
  have HNL : Hid (IsL (.agg (LA (!s) z)) (-b)) := ⟨!s, z, rfl, HZ.out.1, by rw [sgn_not, HZ.out.2]⟩
  have hld := cells17 hLm
  go_region_held (fun w' => w'.cell? ⟨w7.heap.size, 0, none⟩ = some (.bool (!s)) ∧ w'.cell? ⟨w7.heap.size, 1, none⟩ = some (.int .u64 (z 0 : Int)) ∧ w'.cell? ⟨w7.heap.size, 2, none⟩ = some (.int .u64 (z 1 : Int)) ∧ w'.cell? ⟨w7.heap.size, 3, none⟩ = some (.int .u64 (z 2 : Int)) ∧ w'.cell? ⟨w7.heap.size, 4, none⟩ = some (.int .u64 (z 3 : Int)) ∧ w'.cell? ⟨w7.heap.size, 5, none⟩ = some (.int .u64 (z 4 : Int)) ∧ w'.cell? ⟨w7.heap.size, 6, none⟩ = some (.int .u64 (z 5 : Int)) ∧ w'.cell? ⟨w7.heap.size, 7, none⟩ = some (.int .u64 (z 6 : Int)) ∧ w'.cell? ⟨w7.heap.size, 8, none⟩ = some (.int .u64 (z 7 : Int)) ∧ w'.cell? ⟨w7.heap.size, 9, none⟩ = some (.int .u64 (z 8 : Int)) ∧ w'.cell? ⟨w7.heap.size, 10, none⟩ = some (.int .u64 (z 9 : Int)) ∧ w'.cell? ⟨w7.heap.size, 11, none⟩ = some (.int .u64 (z 10 : Int)) ∧ w'.cell? ⟨w7.heap.size, 12, none⟩ = some (.int .u64 (z 11 : Int)) ∧ w'.cell? ⟨w7.heap.size, 13, none⟩ = some (.int .u64 (z 12 : Int)) ∧ w'.cell? ⟨w7.heap.size, 14, none⟩ = some (.int .u64 (z 13 : Int)) ∧ w'.cell? ⟨w7.heap.size, 15, none⟩ = some (.int .u64 (z 14 : Int)) ∧ w'.cell? ⟨w7.heap.size, 16, none⟩ = some (.int .u64 (z 15 : Int))) (first | exact cells17 hk12 | exact cells17 hk11 | exact cells17 hk10 | exact hld)
    (first
    | (go_at_call 12; refine (of_is a _ h0.out).mono ?_; rintro e w10 ⟨rx, rfl, hrx, hb10⟩; have hk10 := LongAt.stay (show LongAt w9.drew _ _ _ from hLm) hb10; have HRX : Hid (IsL rx a) := hrx; have HB10 : Hid (Below w.heap.size w w10) := bnx HB9.out.drew hb10; clear hrx)
    | (go_at_call 11; refine (plus_is rx (.agg (LA (!s) z)) a (-b) _ HRX.out HNL.out HS2.out).mono ?_; rintro e w11 ⟨ry, rfl, hry, hb11⟩; have hk11 := LongAt.stay hk10 hb11; rw [EN.out] at hry; have HB11 : Hid (Below w.heap.size w w11) := bnx HB10.out hb11)
    | (go_at_call 10; refine (fits_is ry _ _ hry).mono ?_; rw [Eq.out, Eqb.out]; rintro e w12 ⟨rfl, hb12⟩; have hk12 := LongAt.stay hk11 hb12; have HB12 : Hid (Below w.heap.size w w12) := bnx HB11.out hb12))
  go_wp2_with (first
    | (go_at_call 14; refine (sub_any a b _ h0.out.1 h0.out.2 h2.out.1 h2.out.2).mono ?_; rw [Eq.out, Eqb.out]; rintro e w13 ⟨rfl, hb13⟩))
  go_ret
  exact ⟨ret_bool (by simp), bnx HB12.out hb13⟩
theorem own : ownKnob Try.prog.godebug = none := by kernel_rfl
theorem laidOut : laidOutB Try.prog = true := by kernel_rfl
set_option maxRecDepth 100000 in
theorem contract (H : Type) (enc : TypeId × Value → H) (W : World) (base : Nat) (args : Array Value) (ds gs : List (DataW H)) (before : List MemPlace)
    (hval : ∀ (j : Nat) t v, Try.f3.params[j]? = some t → args[j]? = some v → Value.okWide Try.prog W .any base t v)
    (hW : DataW.Whole enc Try.prog Try.f3.params.toList Rows.numAddsSpec.vars false W args.toList ds gs before)
    (hsz : (DataW.weightsEach Try.prog (Try.f3.params.toList ++ Rows.numAddsSpec.plain.varTypes Try.prog) (ds ++ gs)).all (· ≤ reachBytes) = true) :
    Calls Try.prog 3 args W fun e W' => ∃ v, e = .returned v ∧ Rows.numAddsSpec.post enc Try.prog Try.f3 false true false false W args v W' := by
  have hW' := hW
  obtain ⟨p, q, hA0, hV, rfl, hfz, hnd⟩ := hW
  have hA : DataW.TrodAll enc Try.prog W 0 (fun _ => true) true Try.f3.params.toList args.toList ds p := hA0
  rw [Try.params3] at hA hval hsz
  obtain ⟨v0, vs0, d0, ds0, p0, q0, hargs, rfl, rfl, h0, r0⟩ := trodAll_cons hA
  obtain ⟨v1, vs1, d1, ds1, p1, q1, rfl, rfl, rfl, h1, r1⟩ := trodAll_cons r0
  obtain ⟨rfl, rfl, rfl⟩ := trodAll_nil r1
  obtain rfl : args = #[v0, v1] := by cases args; simp_all
  obtain ⟨rfl, rfl⟩ := trodVars_none hV
  obtain ⟨a0, rfl, rfl, rfl, w0⟩ := open_int Try.underlying2 (hval 0 2 v0 rfl rfl) h0
  obtain ⟨a1, rfl, rfl, rfl, w1⟩ := open_int Try.underlying2 (hval 1 2 v1 rfl rfl) h1
  clear hA0
  refine (walk a0 a1 W w0 w1).mono fun e W' ⟨he, bel⟩ => ?_
  subst he
  exact ⟨_, rfl, _, _, _, [], _, [], hW', trodAll_mk1 (shut_bool Try.underlying4 _), (trodAll_cons_mk (shut_int Try.underlying2 w0) (trodAll_cons_mk (shut_int Try.underlying2 w1) trodAll_mk0)), rfl, bel.frame _, fun h => by cases h⟩
set_option maxRecDepth 100000 in
theorem lifted (os : Os) (started : os.Started) (H : Type) (enc : TypeId × Value → H) :
    ReturnsInHanded {} Try.checked os 3 .any (Rows.numAddsSpec.pre6 enc Try.prog Try.f3 Rows.numAddsRow.domain false) (Rows.numAddsSpec.post enc Try.prog Try.f3 false true false false) := by
  refine returnsInHanded_of_change_sized (C := Try.checked) own started (by kernel_rfl) Try.func3
    (ChangeSpec.witness6 (enc := enc) (C := Try.checked) false ⟨#[], #[.int .i64 0, .int .i64 0], []⟩ 8 (by kernel_rfl) (by kernel_rfl) (by kernel_rfl) (by kernel_rfl)) ?_
  intro W base args ds gs before hval hW _ hsz _
  exact contract H enc W base args ds gs before hval hW hsz
theorem over : Rows.numAddsRow.holds Try.pinned (OpenSpec.ofChange Rows.numAddsSpec) :=
  OpenClaim.holds_of_wide 3 Try.f3 rfl rfl rfl rfl rfl rfl rfl ⟨rfl, rfl, rfl, rfl, rfl⟩ rfl rfl rfl rfl rfl (by kernel_rfl) Try.func3 (by kernel_rfl)
    (of_decide_eq_true (by kernel_rfl)) (by unfold Func.isWrapper; first | (rw [if_pos (by decide +kernel)]; kernel_rfl) | (rw [if_neg (by decide +kernel)]; exact ⟨rfl, rfl⟩))
    (fun os started H enc _ => lifted os started H enc)
theorem proved : Rows.NumAddsSaid := over
end Go.Proofs.Ytfkcnegcigggpaa.numAdds
