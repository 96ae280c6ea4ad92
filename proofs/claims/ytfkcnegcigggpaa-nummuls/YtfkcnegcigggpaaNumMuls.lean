/- Mul answers as the reference does: for every two numbers. -/
import Derived.Test.YtfkcnegcigggpaaTimes
import Derived.SizedLaws
import Derived.ChangeOld
namespace Go.Proofs.Ytfkcnegcigggpaa.numMuls
open Go.ChangeShapes Go.WideShapes Go.ChangeAt Go.RowKit
theorem sgn_times {s t : Bool} {A B C A' B' : Nat} (h : C = A' * B') (e1 : A = A') (e2 : B = B') : sgn (s != t) C = sgn s A * sgn t B := by
  subst h e1 e2
  cases s <;> cases t <;> simp [sgn, Int.neg_mul, Int.mul_neg]
theorem times_is (v u : Value) (L M : Int) (w : World) (hv : IsL v L) (hu : IsL u M) (hL : L.natAbs < 65536 ^ 8) (hM : M.natAbs < 65536 ^ 8) :
    Calls Try.prog 15 #[v, u] w fun e w' => ∃ r, e = .returned r ∧ IsL r (L * M) ∧ Below w.heap.size w w' := by
  obtain ⟨s, x, rfl, hx, rfl⟩ := hv
  obtain ⟨t, y, rfl, hy, rfl⟩ := hu
  rw [sgn_abs] at hL hM
  refine (times_any s t x y w hx hy).mono ?_
  rintro e w' ⟨z, rfl, hz, hV, hb⟩
  refine ⟨_, rfl, ⟨_, z, rfl, hz, ?_⟩, hb⟩
  have e1 := Tm.low hL
  have e2 := Tm.low hM
  exact sgn_times hV e1 e2
theorem small (a : Int) (h : inI a) : a.natAbs < 65536 ^ 8 := by
  have h9 : (2 : Nat) ^ 64 ≤ 65536 ^ 8 := by decide
  unfold inI at h
  have : a.natAbs < 2 ^ 64 := by omega
  exact Nat.lt_of_lt_of_le this h9
set_option maxRecDepth 20000 in
set_option maxHeartbeats 2000000 in
theorem walk (a b : Int) (w : World) (w0 : (Lit.int .i64 a).wf = true) (w1 : (Lit.int .i64 b).wf = true) :
    Calls Try.prog 4 #[.int .i64 a, .int .i64 b] w fun e w' => e = .returned (.bool true) ∧ Below w.heap.size w w' := by
  have h0 : Hid (inI a) := wf_i64 _ w0
  have h2 : Hid (inI b) := wf_i64 _ w1
  obtain ⟨p, Ep⟩ : ∃ p, Hid (fitV (a * b) = p) := ⟨_, rfl⟩
  obtain ⟨pb, Epb⟩ : ∃ p, Hid (fitB (a * b) = p) := ⟨_, rfl⟩
  clear w0 w1
  go_enter Try.func4, Try.ntmps4
  go_wp2_with (first
    | (go_at_call 9; refine (head04_any w).mono ?_; rintro e w1 ⟨rfl, hb1⟩; have HB1 : Hid (Below w.heap.size w w1) := hb1; clear hb1)
    | (go_at_call_of 12 (a); refine (of_is a w1 h0.out).mono ?_; rintro e w2 ⟨ra, rfl, hra, hb2⟩; have HRA : Hid (IsL ra a) := hra; have HB2 : Hid (Below w.heap.size w w2) := bnx HB1.out hb2; clear hra hb2)
    | (go_at_call_of 12 (b); refine (of_is b _ h2.out).mono ?_; rintro e w3 ⟨rb, rfl, hrb, hb3⟩)
    | (go_at_call 15; refine (times_is ra rb a b w3 HRA.out hrb (small a h0.out) (small b h2.out)).mono ?_; rintro e w4 ⟨rs, rfl, hrs, hb4⟩)
    | (go_at_call 10; refine (fits_is rs _ w4 hrs).mono ?_; rw [Ep.out, Epb.out]; rintro e w5 ⟨rfl, hb5⟩; have HB5 : Hid (Below w.heap.size w w5) := bnx (bnx (bnx HB2.out hb3) hb4) hb5; clear hb3 hb4 hb5 hrs hrb)
    | (go_at_call 16; refine (mul_any a b w5 h0.out.1 h0.out.2 h2.out.1 h2.out.2).mono ?_; rw [Ep.out, Epb.out]; rintro e w6 ⟨rfl, hb6⟩; have HB6 : Hid (Below w.heap.size w w6) := bnx HB5.out hb6; clear hb6))
  go_ret
  exact ⟨ret_bool (by simp), HB6.out⟩
theorem own : ownKnob Try.prog.godebug = none := by kernel_rfl
theorem laidOut : laidOutB Try.prog = true := by kernel_rfl
set_option maxRecDepth 100000 in
theorem contract (H : Type) (enc : TypeId × Value → H) (W : World) (base : Nat) (args : Array Value) (ds gs : List (DataW H)) (before : List MemPlace)
    (hval : ∀ (j : Nat) t v, Try.f4.params[j]? = some t → args[j]? = some v → Value.okWide Try.prog W .any base t v)
    (hW : DataW.Whole enc Try.prog Try.f4.params.toList Rows.numMulsSpec.vars false W args.toList ds gs before)
    (hsz : (DataW.weightsEach Try.prog (Try.f4.params.toList ++ Rows.numMulsSpec.plain.varTypes Try.prog) (ds ++ gs)).all (· ≤ reachBytes) = true) :
    Calls Try.prog 4 args W fun e W' => ∃ v, e = .returned v ∧ Rows.numMulsSpec.post enc Try.prog Try.f4 false true false false W args v W' := by
  have hW' := hW
  obtain ⟨p, q, hA0, hV, rfl, hfz, hnd⟩ := hW
  have hA : DataW.TrodAll enc Try.prog W 0 (fun _ => true) true Try.f4.params.toList args.toList ds p := hA0
  rw [Try.params4] at hA hval hsz
  obtain ⟨v0, vs0, d0, ds0, p0, q0, hargs, rfl, rfl, h0, r0⟩ := trodAll_cons hA
  obtain ⟨v1, vs1, d1, ds1, p1, q1, rfl, rfl, rfl, h1, r1⟩ := trodAll_cons r0
  obtain ⟨rfl, rfl, rfl⟩ := trodAll_nil r1
  obtain rfl : args = #[v0, v1] := by cases args; simp_all
  obtain ⟨rfl, rfl⟩ := trodVars_none hV
  obtain ⟨a0, rfl, rfl, rfl, w0⟩ := open_int Try.underlying2 (hval 0 2 v0 rfl rfl) h0
  obtain ⟨a1, rfl, rfl, rfl, w1⟩ := open_int Try.underlying2 (hval 1 2 v1 rfl rfl) h1
  clear hA0
  refine (walk a0 a1 W w0 w1).mono fun e W' ⟨he, bel⟩ => ?_
  subst he
  exact ⟨_, rfl, _, _, _, [], _, [], hW', trodAll_mk1 (shut_bool Try.underlying4 _), (trodAll_cons_mk (shut_int Try.underlying2 w0) (trodAll_cons_mk (shut_int Try.underlying2 w1) trodAll_mk0)), rfl, bel.frame _, fun h => by cases h⟩
set_option maxRecDepth 100000 in
theorem lifted (os : Os) (started : os.Started) (H : Type) (enc : TypeId × Value → H) :
    ReturnsInHanded {} Try.checked os 4 .any (Rows.numMulsSpec.pre6 enc Try.prog Try.f4 Rows.numMulsRow.domain false) (Rows.numMulsSpec.post enc Try.prog Try.f4 false true false false) := by
  refine returnsInHanded_of_change_sized (C := Try.checked) own started (by kernel_rfl) Try.func4
    (ChangeSpec.witness6 (enc := enc) (C := Try.checked) false ⟨#[], #[.int .i64 0, .int .i64 0], []⟩ 8 (by kernel_rfl) (by kernel_rfl) (by kernel_rfl) (by kernel_rfl)) ?_
  intro W base args ds gs before hval hW _ hsz _
  exact contract H enc W base args ds gs before hval hW hsz
theorem over : Rows.numMulsRow.holds Try.pinned (OpenSpec.ofChange Rows.numMulsSpec) :=
  OpenClaim.holds_of_wide 4 Try.f4 rfl rfl rfl rfl rfl rfl rfl ⟨rfl, rfl, rfl, rfl, rfl⟩ rfl rfl rfl rfl rfl (by kernel_rfl) Try.func4 (by kernel_rfl)
    (of_decide_eq_true (by kernel_rfl)) (by unfold Func.isWrapper; first | (rw [if_pos (by decide +kernel)]; kernel_rfl) | (rw [if_neg (by decide +kernel)]; exact ⟨rfl, rfl⟩))
    (fun os started H enc _ => lifted os started H enc)
theorem proved : Rows.NumMulsSaid := over
end Go.Proofs.Ytfkcnegcigggpaa.numMuls
