/- A valid state is written and read as it was; no other is written: for every state. -/
import Derived.Test.YtfdaefhamoeaiaaK47
import Derived.Test.YtfdaefhamoeaiaaJ48
import Derived.SizedLaws
import Derived.ChangeOld
namespace Go.Proofs.Ytfdaefhamoeaiaa.canonBack
open Go.ChangeShapes Go.WideShapes Go.ChangeAt Go.RowKit
set_option linter.unusedVariables false
set_option maxRecDepth 20000 in
set_option maxHeartbeats 4000000 in
theorem walk (s : St) (a : Option Addr) (n cap : Nat) (w : World) (hn : s.lines.length = n) (hl : Lns w a s.lines) (hc : n ≤ cap) (hm : n * 32 ≤ 140737488351232) :
    Calls Try.prog 3 #[.agg (stA s (.slice a n cap))] w fun r w' => r = .returned (.bool true) ∧ Below w.heap.size w w' := by
  have HN : Hid (s.lines.length = n) := hn
  have hlm : n ≤ maxLen := by unfold maxLen; omega
  have HC0 : Hid (StC w w.heap.size s a n cap (w.alloc (.cells (stA s (.slice a n cap)) 25))) := StC.new w s a n cap hl
  have T1 : Hid True := trivial
  have T2 : Hid True := trivial
  cases hv : vldB s with
  | true =>
    have HV : Hid (vldB s = true) := hv
    obtain ⟨l, hE⟩ : ∃ l, cenc s = (l, 0) := ⟨_, if_pos hv⟩
    have HE : Hid (cenc s = (l, 0)) := hE
    have HD : Hid (cdec l = (s, 0)) := by
      have h1 := cdec_back hv
      have h2 : cenc s = (ones (sfs s), 0) := if_pos hv
      rw [hE] at h2
      rw [(Prod.mk.inj h2).1]; exact h1
    obtain ⟨k, hk⟩ : ∃ k, l.length = k := ⟨_, rfl⟩
    have HKL : Hid (l.length = k) := hk
    have hkm : k ≤ maxLen := by have := cenc_len s; rw [hE] at this; simp only at this; unfold maxLen; omega
    clear hn hl hv hE hk
    go_enter Try.func3, Try.ntmps3
    go_wp2_with (first
      | (go_at_call 6; refine (head09_any _).mono ?_; rintro _ x1 ⟨rfl, hb1⟩; have HC1 : Hid (StC w w.heap.size s a n cap x1) := StC.keep HC0.out hb1; clear hb1)
      | ((with_reducible refine guard_load 25 ?_); clear T1; refine wpList_load_st rfl _ rfl HC1.out.1 rfl ?_)
      | (go_at_call 8; clear T2; refine (scopy_any s a n cap _ HN.out HC1.out.2.1 hm).mono ?_; rintro _ x2 ⟨v2, rfl, ho2, hb2⟩; obtain ⟨a2, c2, hv2, _, _, hl2, _⟩ := ho2.shape; simp only [HN.out] at hv2; subst hv2; have HL2 : Hid (Lns x2 a2 s.lines) := hl2; have HC2 : Hid (StC w w.heap.size s a n cap x2) := StC.keep HC1.out hb2; clear hb2 ho2 hl2)
      | (go_at_call 7; refine (cenc_any s a2 n c2 _ HN.out HL2.out hlm).mono ?_; unfold CencPost; rw [HE.out]; rintro _ x3 ⟨v3, rfl, ho3, hb3⟩; obtain ⟨a3, c3, hv3, hc3, _, hy3, _⟩ := ho3.shape; simp only [HKL.out] at hv3 hc3; subst hv3; have HY3 : Hid (Bytes x3 a3 l) := hy3; have HC3 : Hid (StC w w.heap.size s a n cap x3) := StC.keep HC2.out hb3; clear hb3 ho3 hy3)
      | ((with_reducible refine guard_load 25 ?_); refine wpList_load_st rfl _ rfl HC3.out.1 rfl ?_)
      | (go_at_call 8; refine (scopy_any s a n cap _ HN.out HC3.out.2.1 hm).mono ?_; rintro _ x4 ⟨v4, rfl, ho4, hb4⟩; obtain ⟨a4, c4, hv4, _, _, hl4, _⟩ := ho4.shape; simp only [HN.out] at hv4; subst hv4; have HL4 : Hid (Lns x4 a4 s.lines) := hl4; have HY4 : Hid (Bytes x4 a3 l) := HY3.out.keep hb4; have HC4 : Hid (StC w w.heap.size s a n cap x4) := StC.keep HC3.out hb4; clear hb4 ho4 hl4)
      | (go_at_call 9; refine (valid_st s a4 n c4 _ HN.out HL4.out hlm).mono ?_; rw [HV.out]; rintro _ x5 ⟨rfl, hb5⟩; have HY5 : Hid (Bytes x5 a3 l) := HY4.out.keep hb5; have HC5 : Hid (StC w w.heap.size s a n cap x5) := StC.keep HC4.out hb5; clear hb5)
      | (go_at_call 10; refine (cdec_any l a3 k c3 _ HKL.out HY5.out hc3 hkm).mono ?_; unfold CdecPost; rw [HD.out]; rintro _ x6 ⟨v6, rfl, ho6, hb6⟩; obtain ⟨a6, c6, hv6, _, _, hl6, _⟩ := ho6.shape; simp only [HN.out] at hv6; subst hv6; have HL6 : Hid (Lns x6 a6 s.lines) := hl6; have HC6 : Hid (StC w w.heap.size s a n cap x6) := StC.keep HC5.out hb6; clear hb6 ho6 hl6)
      | ((with_reducible refine guard_store 25 ?_); refine wpList_store_st (s := zeroS) (s2 := s) (a2 := a6) (n2 := n) (c2 := c6) rfl _ _ rfl (StAt.new x6 zeroS (.slice none 0 0)) rfl rfl ?_; intro x7 z1 z2 z3 z4; have hu := (z2 _ _ ((Below.refl x6.heap.size x6).alloc (Nat.le_refl _) _) (Nat.le_refl _)); have HC7 : Hid (StC w w.heap.size s a n cap x7) := StC.keep HC6.out hu; have HL7 : Hid (Lns x7 a6 s.lines) := HL6.out.keep hu; have HS7 : Hid (StAt x7 x6.heap.size s (.slice a6 n c6)) := z1; clear z1 z2 z3 z4 hu)
      | ((with_reducible refine guard_loadg 25 ?_); first | refine wpList_load_stg rfl _ rfl HS7.out rfl ?_ | refine wpList_load_stg rfl _ rfl HC7.out.1 rfl ?_)
      | (go_at_call 11; refine (ssame_yes s a6 a n c6 cap _ HN.out HL7.out HC7.out.2.1 hlm).mono ?_; rintro _ x8 ⟨rfl, hb8⟩; have HC8 : Hid (StC w w.heap.size s a n cap x8) := StC.keep HC7.out hb8; clear hb8))
    go_ret
    exact ⟨rfl, HC8.out.2.2⟩
  | false =>
    have HV : Hid (vldB s = false) := hv
    have HE : Hid (cenc s = ([], 40)) := if_neg (by rw [hv]; simp)
    clear hn hl hv
    go_enter Try.func3, Try.ntmps3
    go_wp2_with (first
      | (go_at_call 6; refine (head09_any _).mono ?_; rintro _ x1 ⟨rfl, hb1⟩; have HC1 : Hid (StC w w.heap.size s a n cap x1) := StC.keep HC0.out hb1; clear hb1)
      | ((with_reducible refine guard_load 25 ?_); clear T1; refine wpList_load_st rfl _ rfl HC1.out.1 rfl ?_)
      | (go_at_call 8; clear T2; refine (scopy_any s a n cap _ HN.out HC1.out.2.1 hm).mono ?_; rintro _ x2 ⟨v2, rfl, ho2, hb2⟩; obtain ⟨a2, c2, hv2, _, _, hl2, _⟩ := ho2.shape; simp only [HN.out] at hv2; subst hv2; have HL2 : Hid (Lns x2 a2 s.lines) := hl2; have HC2 : Hid (StC w w.heap.size s a n cap x2) := StC.keep HC1.out hb2; clear hb2 ho2 hl2)
      | (go_at_call 7; refine (cenc_any s a2 n c2 _ HN.out HL2.out hlm).mono ?_; unfold CencPost; rw [HE.out]; rintro _ x3 ⟨v3, rfl, ho3, hb3⟩; obtain ⟨a3, c3, hv3, hc3, _, hy3, _⟩ := ho3.shape; simp only [List.length_nil] at hv3; subst hv3; have HC3 : Hid (StC w w.heap.size s a n cap x3) := StC.keep HC2.out hb3; clear hb3 ho3 hy3)
      | ((with_reducible refine guard_load 25 ?_); refine wpList_load_st rfl _ rfl HC3.out.1 rfl ?_)
      | (go_at_call 8; refine (scopy_any s a n cap _ HN.out HC3.out.2.1 hm).mono ?_; rintro _ x4 ⟨v4, rfl, ho4, hb4⟩; obtain ⟨a4, c4, hv4, _, _, hl4, _⟩ := ho4.shape; simp only [HN.out] at hv4; subst hv4; have HL4 : Hid (Lns x4 a4 s.lines) := hl4; have HC4 : Hid (StC w w.heap.size s a n cap x4) := StC.keep HC3.out hb4; clear hb4 ho4 hl4)
      | (go_at_call 9; refine (valid_st s a4 n c4 _ HN.out HL4.out hlm).mono ?_; rw [HV.out]; rintro _ x5 ⟨rfl, hb5⟩; have HC5 : Hid (StC w w.heap.size s a n cap x5) := StC.keep HC4.out hb5; clear hb5))
    go_ret
    exact ⟨rfl, HC5.out.2.2⟩
theorem own : ownKnob Try.prog.godebug = none := by kernel_rfl
theorem laidOut : laidOutB Try.prog = true := by kernel_rfl
set_option maxRecDepth 100000 in
theorem contract (H : Type) (enc : TypeId × Value → H) (W : World) (base : Nat) (args : Array Value) (ds gs : List (DataW H)) (before : List MemPlace)
    (hval : ∀ (j : Nat) t v, Try.f3.params[j]? = some t → args[j]? = some v → Value.okWide Try.prog W .any base t v)
    (hW : DataW.Whole enc Try.prog Try.f3.params.toList Rows.canonBackSpec.vars false W args.toList ds gs before)
    (hsz : (DataW.weightsEach Try.prog (Try.f3.params.toList ++ Rows.canonBackSpec.plain.varTypes Try.prog) (ds ++ gs)).all (· ≤ reachBytes) = true) :
    Calls Try.prog 3 args W fun e W' => ∃ v, e = .returned v ∧ Rows.canonBackSpec.post enc Try.prog Try.f3 false true false false W args v W' := by
  have hW' := hW
  obtain ⟨p, q, hA0, hV, rfl, hfz, hnd⟩ := hW
  have hA : DataW.TrodAll enc Try.prog W 0 (fun _ => true) true Try.f3.params.toList args.toList ds p := hA0
  rw [Try.params3] at hA hval hsz
  obtain ⟨v0, vs0, d0, ds0, p0, q0, hargs, rfl, rfl, h0, r0⟩ := trodAll_cons hA
  obtain ⟨rfl, rfl, rfl⟩ := trodAll_nil r0
  obtain rfl : args = #[v0] := by cases args; simp_all
  obtain ⟨rfl, rfl⟩ := trodVars_none hV
  have k0 := h0
  have lt0 : ∀ x ∈ p0, x.block < W.heap.size := by obtain ⟨m, hm⟩ := k0; exact DataW.trod_lt m _ _ _ hm
  obtain ⟨st0, a0, n0, cap0, rfl, hlen0, w0, c0, m0⟩ := open_state (hval 0 25 v0 rfl rfl) h0 hsz (j := 0) rfl rfl
  clear hA0
  refine (walk st0 a0 n0 cap0 W hlen0 w0 c0 m0).mono fun e W' ⟨he, bel⟩ => ?_
  subst he
  exact ⟨_, rfl, _, _, _, [], _, [], hW', trodAll_mk1 (shut_bool Try.underlying4 _), (trodAll_cons_mk (Below.trod laidOut (by kernel_rfl) (of_decide_eq_true (by kernel_rfl)) k0 bel lt0) trodAll_mk0), rfl, bel.frame _, fun h => by cases h⟩
set_option maxRecDepth 100000 in
theorem lifted (os : Os) (started : os.Started) (H : Type) (enc : TypeId × Value → H) :
    ReturnsInHanded {} Try.checked os 3 .any (Rows.canonBackSpec.pre6 enc Try.prog Try.f3 Rows.canonBackRow.domain false) (Rows.canonBackSpec.post enc Try.prog Try.f3 false true false false) := by
  refine returnsInHanded_of_change_sized (C := Try.checked) own started (by kernel_rfl) Try.func3
    (ChangeSpec.witness6 (enc := enc) (C := Try.checked) false ⟨#[], #[.agg #[.int .i64 0, .int .i64 0, .int .i64 0, .int .i64 0, .int .i64 0, .slice none 0 0, .int .i64 0, .int .i64 0, .int .i64 0, .int .i64 0, .int .i64 0, .string ⟨#[]⟩]], []⟩ 8 (by kernel_rfl) (by kernel_rfl) (by kernel_rfl) (by kernel_rfl)) ?_
  intro W base args ds gs before hval hW _ hsz _
  exact contract H enc W base args ds gs before hval hW hsz
theorem over : Rows.canonBackRow.holds Try.pinned (OpenSpec.ofChange Rows.canonBackSpec) :=
  OpenClaim.holds_of_wide 3 Try.f3 rfl rfl rfl rfl rfl rfl rfl ⟨rfl, rfl, rfl, rfl, rfl⟩ rfl rfl rfl rfl rfl (by kernel_rfl) Try.func3 (by kernel_rfl)
    (of_decide_eq_true (by kernel_rfl)) (by unfold Func.isWrapper; first | (rw [if_pos (by decide +kernel)]; kernel_rfl) | (rw [if_neg (by decide +kernel)]; exact ⟨rfl, rfl⟩))
    (fun os started H enc _ => lifted os started H enc)
theorem proved : Rows.CanonBackSaid := over
end Go.Proofs.Ytfdaefhamoeaiaa.canonBack
