/- For every u and v: a greater number has no fewer bytes, 128 times a number has just one more, and Size is the length of Encode. No condition. -/
import Derived.Test.YtenekcnccmghhabEnc
import Derived.SizedLaws
import Derived.ChangeOld
namespace Go.Proofs.Ytenekcnccmghhab.varintRises
open Go.ChangeShapes Go.WideShapes Go.ChangeAt Go.RowKit
set_option linter.unusedVariables false
theorem size127 : (enc 127).length = 1 := by decide
theorem size128 : (enc 128).length = 2 := by decide
theorem bitLen_mono {a b : Nat} (h : a ≤ b) : bitLen a ≤ bitLen b := by
  have := bitLen_spec b
  exact bitLen_lt a _ (by omega)
theorem or_mono {u v : Nat} (h : u ≤ v) : (u ||| 1) ≤ (v ||| 1) := by rw [or_one, or_one]; omega
theorem rises (u v : Nat) (hu : u ≤ 18446744073709551615) (hv : v ≤ 18446744073709551615) (h : u ≤ v) : (enc u).length ≤ (enc v).length := by
  rw [enc_length u hu, enc_length v hv]
  have := bitLen_mono (or_mono h)
  omega
theorem times (u : Nat) (h0 : 0 < u) (h1 : u < 144115188075855872) : (enc (u * 128)).length = (enc u).length + 1 := by
  rw [enc_length u (by omega), enc_length _ (by omega)]
  have e1 : (u * 128 ||| 1) / 2 ^ 7 = u := by rw [or_one]; omega
  have e2 := bitLen_shift (u * 128 ||| 1) 7 (by rw [e1]; omega)
  rw [e1] at e2
  rw [e2, bitLen_or u (by omega)]
  omega
def sz (x : Int) : Int := (enc x.toNat).length
theorem sz_call (x : Int) (w : World) (h0 : 0 ≤ x) (h1 : x ≤ 18446744073709551615) :
    Calls Try.prog 15 #[.int .u64 x] w fun e w' => e = .returned (.int .i64 (sz x)) ∧ w = w' := size_int x w h0 h1
theorem enc_call (x : Int) (w : World) (h0 : 0 ≤ x) (h1 : x ≤ 18446744073709551615) :
    Calls Try.prog 14 #[.int .u64 x] w fun e w' => ∃ a n cap, e = .returned (.slice a n cap) ∧ (n : Int) = sz x ∧ Below w.heap.size w w' := by
  obtain ⟨u, rfl⟩ := Int.eq_ofNat_of_zero_le h0
  refine (encode_any u w (by omega)).mono ?_
  rintro e w1 ⟨v, rfl, ho, hb⟩
  obtain ⟨a, cap, rfl, _, _, hby, hs⟩ := ho.shape
  exact ⟨a, _, cap, rfl, rfl, hb⟩
set_option maxRecDepth 20000 in
set_option maxHeartbeats 1000000 in
theorem walk (a0 a1 : Int) (w : World) (w0 : (Lit.int .u64 a0).wf = true) (w1 : (Lit.int .u64 a1).wf = true) :
    Calls Try.prog 6 #[.int .u64 a0, .int .u64 a1] w fun e w' => e = .returned (.bool true) ∧ Below w.heap.size w w' := by
  obtain ⟨b00, b01⟩ : 0 ≤ a0 ∧ a0 ≤ 18446744073709551615 := by have := wf_u64 _ w0; omega
  obtain ⟨b10, b11⟩ : 0 ≤ a1 ∧ a1 ≤ 18446744073709551615 := by have := wf_u64 _ w1; omega
  clear w0 w1
  have t1 : sz 127 = 1 := by unfold sz; decide
  have t2 : sz 128 = 2 := by unfold sz; decide
  obtain ⟨l00, l01⟩ : 1 ≤ sz a0 ∧ sz a0 ≤ 10 := by have := enc_length_le a0.toNat (by omega); unfold sz; omega
  have hm : a0 ≤ a1 → sz a0 ≤ sz a1 := fun h => by
    have := rises a0.toNat a1.toNat (by omega) (by omega) (by omega)
    unfold sz; omega
  have ht : 0 < a0 → a0 < 144115188075855872 → sz (a0 * 128) = sz a0 + 1 := fun h1 h2 => by
    have := times a0.toNat (by omega) (by omega)
    unfold sz
    rw [show (a0 * 128).toNat = a0.toNat * 128 from by omega, this]
    rfl
  have H1 : Hid (_ → _) := hm
  have H2 : Hid (_ → _) := ht
  clear hm ht
  have hcases : (a0 ≤ a1 ∧ 0 < a0 ∧ a0 < 144115188075855872) ∨ (a0 ≤ a1 ∧ a0 ≤ 0) ∨ (a0 ≤ a1 ∧ 0 < a0 ∧ 144115188075855872 ≤ a0) ∨ (a1 < a0 ∧ a0 < 144115188075855872) ∨ (a1 < a0 ∧ 144115188075855872 ≤ a0) := by omega
  rcases hcases with ⟨c1, c2, c3⟩ | ⟨c1, c2⟩ | ⟨c1, c2, c3⟩ | ⟨c1, c2⟩ | ⟨c1, c2⟩
  · have h1 := H1.out c1
    have h2 := H2.out c2 c3
    go_enter Try.func6, Try.ntmps6
    go_wp2_with (first
      | (go_at_call 15; refine (sz_call _ _ (by omega) (by omega)).mono ?_; rintro e w' ⟨rfl, rfl⟩)
      | (go_at_call 14; refine (enc_call _ _ (by omega) (by omega)).mono ?_; rintro e w1 ⟨a, n, cap, rfl, hn, hb⟩))
    go_ret
    exact ⟨rfl, hb⟩
  · have h1 := H1.out c1
    go_enter Try.func6, Try.ntmps6
    go_wp2_with (first
      | (go_at_call 15; refine (sz_call _ _ (by omega) (by omega)).mono ?_; rintro e w' ⟨rfl, rfl⟩)
      | (go_at_call 14; refine (enc_call _ _ (by omega) (by omega)).mono ?_; rintro e w1 ⟨a, n, cap, rfl, hn, hb⟩))
    go_ret
    exact ⟨rfl, hb⟩
  · have h1 := H1.out c1
    go_enter Try.func6, Try.ntmps6
    go_wp2_with (first
      | (go_at_call 15; refine (sz_call _ _ (by omega) (by omega)).mono ?_; rintro e w' ⟨rfl, rfl⟩)
      | (go_at_call 14; refine (enc_call _ _ (by omega) (by omega)).mono ?_; rintro e w1 ⟨a, n, cap, rfl, hn, hb⟩))
    go_ret
    exact ⟨rfl, hb⟩
  · have c0 : 0 < a0 := by omega
    have h2 := H2.out c0 c2
    go_enter Try.func6, Try.ntmps6
    go_wp2_with (first
      | (go_at_call 15; refine (sz_call _ _ (by omega) (by omega)).mono ?_; rintro e w' ⟨rfl, rfl⟩)
      | (go_at_call 14; refine (enc_call _ _ (by omega) (by omega)).mono ?_; rintro e w1 ⟨a, n, cap, rfl, hn, hb⟩))
    go_ret
    exact ⟨rfl, hb⟩
  · go_enter Try.func6, Try.ntmps6
    go_wp2_with (first
      | (go_at_call 15; refine (sz_call _ _ (by omega) (by omega)).mono ?_; rintro e w' ⟨rfl, rfl⟩)
      | (go_at_call 14; refine (enc_call _ _ (by omega) (by omega)).mono ?_; rintro e w1 ⟨a, n, cap, rfl, hn, hb⟩))
    go_ret
    exact ⟨rfl, hb⟩
theorem own : ownKnob Try.prog.godebug = none := by kernel_rfl
theorem laidOut : laidOutB Try.prog = true := by kernel_rfl
set_option maxRecDepth 100000 in
theorem contract (H : Type) (enc : TypeId × Value → H) (W : World) (base : Nat) (args : Array Value) (ds gs : List (DataW H)) (before : List MemPlace)
    (hval : ∀ (j : Nat) t v, Try.f6.params[j]? = some t → args[j]? = some v → Value.okWide Try.prog W .any base t v)
    (hW : DataW.Whole enc Try.prog Try.f6.params.toList Rows.varintRisesSpec.vars false W args.toList ds gs before)
    (hsz : (DataW.weightsEach Try.prog (Try.f6.params.toList ++ Rows.varintRisesSpec.plain.varTypes Try.prog) (ds ++ gs)).all (· ≤ reachBytes) = true) :
    Calls Try.prog 6 args W fun e W' => ∃ v, e = .returned v ∧ Rows.varintRisesSpec.post enc Try.prog Try.f6 false true false false W args v W' := by
  have hW' := hW
  obtain ⟨p, q, hA0, hV, rfl, hfz, hnd⟩ := hW
  have hA : DataW.TrodAll enc Try.prog W 0 (fun _ => true) true Try.f6.params.toList args.toList ds p := hA0
  rw [Try.params6] at hA hval hsz
  obtain ⟨v0, vs0, d0, ds0, p0, q0, hargs, rfl, rfl, h0, r0⟩ := trodAll_cons hA
  obtain ⟨v1, vs1, d1, ds1, p1, q1, rfl, rfl, rfl, h1, r1⟩ := trodAll_cons r0
  obtain ⟨rfl, rfl, rfl⟩ := trodAll_nil r1
  obtain rfl : args = #[v0, v1] := by cases args; simp_all
  obtain ⟨rfl, rfl⟩ := trodVars_none hV
  obtain ⟨a0, rfl, rfl, rfl, w0⟩ := open_int Try.underlying25 (hval 0 25 v0 rfl rfl) h0
  obtain ⟨a1, rfl, rfl, rfl, w1⟩ := open_int Try.underlying25 (hval 1 25 v1 rfl rfl) h1
  clear hA0
  refine (walk a0 a1 W w0 w1).mono fun e W' ⟨he, bel⟩ => ?_
  subst he
  exact ⟨_, rfl, _, _, _, [], _, [], hW', trodAll_mk1 (shut_bool Try.underlying4 _), (trodAll_cons_mk (shut_int Try.underlying25 w0) (trodAll_cons_mk (shut_int Try.underlying25 w1) trodAll_mk0)), rfl, bel.frame _, fun h => by cases h⟩
set_option maxRecDepth 100000 in
theorem lifted (os : Os) (started : os.Started) (H : Type) (enc : TypeId × Value → H) :
    ReturnsInHanded {} Try.checked os 6 .any (Rows.varintRisesSpec.pre6 enc Try.prog Try.f6 Rows.varintRisesRow.domain false) (Rows.varintRisesSpec.post enc Try.prog Try.f6 false true false false) := by
  refine returnsInHanded_of_change_sized (C := Try.checked) own started (by kernel_rfl) Try.func6
    (ChangeSpec.witness6 (enc := enc) (C := Try.checked) false ⟨#[], #[.int .u64 0, .int .u64 0], []⟩ 8 (by kernel_rfl) (by kernel_rfl) (by kernel_rfl) (by kernel_rfl)) ?_
  intro W base args ds gs before hval hW _ hsz _
  exact contract H enc W base args ds gs before hval hW hsz
theorem over : Rows.varintRisesRow.holds Try.pinned (OpenSpec.ofChange Rows.varintRisesSpec) :=
  OpenClaim.holds_of_wide 6 Try.f6 rfl rfl rfl rfl rfl rfl rfl ⟨rfl, rfl, rfl, rfl, rfl⟩ rfl rfl rfl rfl rfl (by kernel_rfl) Try.func6 (by kernel_rfl)
    (of_decide_eq_true (by kernel_rfl)) (by unfold Func.isWrapper; first | (rw [if_pos (by decide +kernel)]; kernel_rfl) | (rw [if_neg (by decide +kernel)]; exact ⟨rfl, rfl⟩))
    (fun os started H enc _ => lifted os started H enc)
theorem proved : Rows.VarintRisesSaid := over
end Go.Proofs.Ytenekcnccmghhab.varintRises
