/- What is read is a valid state, and is what would be written: for every text. -/
import Derived.Test.YtfdaefhamoeaiaaK47
import Derived.SizedLaws
import Derived.ChangeOld
namespace Go.Proofs.Ytfdaefhamoeaiaa.canonOneForm
open Go.ChangeShapes Go.WideShapes Go.ChangeAt Go.RowKit
set_option linter.unusedVariables false
set_option maxRecDepth 20000 in
set_option maxHeartbeats 2000000 in
theorem walk (l : List Nat) (a : Option Addr) (cap : Nat) (w : World) (hb : Bytes w a l) (hc : Came w a l.length cap 1) :
    Calls Try.prog 4 #[.slice a l.length cap] w fun r w' => r = .returned (.bool true) ∧ Below w.heap.size w w' := by
  have HB : Hid (Bytes w a l) := hb
  have hl : l.length ≤ 140737488351232 := by have h1 := hc.1; have h2 := hc.2; omega
  obtain ⟨n, hn⟩ : ∃ n, l.length = n := ⟨_, rfl⟩
  have HN : Hid (l.length = n) := hn
  rw [hn] at hl ⊢
  have hlm : n ≤ maxLen := by unfold maxLen; omega
  obtain ⟨S, c, hP⟩ : ∃ S c, cdec l = (S, c) := ⟨_, _, rfl⟩
  have HP : Hid (_) := hP
  have T1 : Hid True := trivial
  by_cases h0 : c = 0
  · subst h0
    have hform := cdec_form (lt_allC hb.1) (by rw [hP])
    rw [hP] at hform
    simp only at hform
    have HV : Hid (vldB S = true) := hform.1
    have HE : Hid (cenc S = (l, 0)) := by show _ = _; unfold cenc; rw [if_pos hform.1, hform.2]
    have HM : Hid (S.lines.length ≤ maxLen) := by have := (vst_of hform.1).each.1; show _ ≤ _; unfold maxLen; omega
    clear hb hc hn hP hform
    go_enter Try.func4, Try.ntmps4
    go_wp2_with (first
      | (go_at_call 6; refine (head09_any _).mono ?_; rintro _ x1 ⟨rfl, hb1⟩; have HB1 : Hid (Below w.heap.size w x1) := hb1; clear hb1)
      | (go_at_call 12; refine (copy_nn l a n cap _ HN.out (HB.out.keep HB1.out) (by omega)).mono ?_; rintro _ x2 ⟨a2, cap2, rfl, hcap2, hy2, _, hb2⟩; have HY2 : Hid (Bytes x2 a2 l) := hy2; have HB2 : Hid (Below w.heap.size w x2) := below_next HB1.out hb2; clear hy2 hb2)
      | (go_at_call 10; refine (cdec_any l a2 n cap2 _ HN.out HY2.out hcap2 hlm).mono ?_; unfold CdecPost; rw [HP.out]; rintro _ x3 ⟨v3, rfl, ho3, hb3⟩; obtain ⟨a3, c3, hv3, _, _, hl3, _⟩ := ho3.shape; subst hv3; have HB3 : Hid (Below w.heap.size w x3) := below_next HB2.out hb3; have HL3 : Hid (Lns x3 a3 S.lines) := hl3; clear ho3 hb3 hl3)
      | ((with_reducible refine guard_store 25 ?_); clear T1; refine wpList_store_st (s := zeroS) (s2 := S) (a2 := a3) (n2 := S.lines.length) (c2 := c3) rfl _ _ rfl (StAt.new x3 zeroS (.slice none 0 0)) rfl rfl ?_; intro x4 z1 z2 z3 z4; have hu := (z2 _ _ ((Below.refl x3.heap.size x3).alloc (Nat.le_refl _) _) (Nat.le_refl _)); have HB4 : Hid (Below w.heap.size w x4) := below_next HB3.out hu; have HL4 : Hid (Lns x4 a3 S.lines) := HL3.out.keep hu; have HS4 : Hid (StAt x4 x3.heap.size S (.slice a3 S.lines.length c3)) := z1; clear z1 z2 z3 z4 hu)
      | ((with_reducible refine guard_load 25 ?_); refine wpList_load_st rfl _ rfl HS4.out rfl ?_)
      | (go_at_call 7; refine (cenc_any S a3 S.lines.length c3 _ rfl HL4.out HM.out).mono ?_; unfold CencPost; rw [HE.out]; rintro _ x5 ⟨v5, rfl, ho5, hb5⟩; obtain ⟨a5, c5, hv5, _, _, hy5, _⟩ := ho5.shape; simp only [HN.out] at hv5; subst hv5; have HB5 : Hid (Below w.heap.size w x5) := below_next HB4.out hb5; have HY5 : Hid (Bytes x5 a5 l) := hy5; have HL5 : Hid (Lns x5 a3 S.lines) := HL4.out.keep hb5; have HS5 : Hid (StAt x5 x3.heap.size S (.slice a3 S.lines.length c3)) := HS4.out.after hb5; clear ho5 hb5 hy5)
      | ((with_reducible refine guard_loadg 25 ?_); refine wpList_load_stg rfl _ rfl HS5.out rfl ?_)
      | (go_at_call 9; refine (valid_st S a3 S.lines.length c3 _ rfl HL5.out HM.out).mono ?_; rw [HV.out]; rintro _ x6 ⟨rfl, hb6⟩; have HB6 : Hid (Below w.heap.size w x6) := below_next HB5.out hb6; have HY6 : Hid (Bytes x6 a5 l) := HY5.out.keep hb6; clear hb6)
      | (go_at_call 13; refine (same_yes l n n a5 a c5 cap _ HN.out HN.out HY6.out (HB.out.keep HB6.out) hlm).mono ?_; rintro _ x7 ⟨rfl, hb7⟩; have HB7 : Hid (Below w.heap.size w x7) := below_next HB6.out hb7; clear hb7))
    go_ret
    exact ⟨rfl, HB7.out⟩
  · have hS : S = zeroS := by have := cdec_err (l := l) (by rw [hP]; exact h0); rw [hP] at this; exact this
    subst hS
    have hcb : (c != 0) = true := by simpa using h0
    clear hb hc hn hP
    go_enter Try.func4, Try.ntmps4
    go_wp2_with (first
      | (go_at_call 6; refine (head09_any _).mono ?_; rintro _ x1 ⟨rfl, hb1⟩; have HB1 : Hid (Below w.heap.size w x1) := hb1; clear hb1)
      | (go_at_call 12; refine (copy_nn l a n cap _ HN.out (HB.out.keep HB1.out) (by omega)).mono ?_; rintro _ x2 ⟨a2, cap2, rfl, hcap2, hy2, _, hb2⟩; have HY2 : Hid (Bytes x2 a2 l) := hy2; have HB2 : Hid (Below w.heap.size w x2) := below_next HB1.out hb2; clear hy2 hb2)
      | (go_at_call 10; refine (cdec_any l a2 n cap2 _ HN.out HY2.out hcap2 hlm).mono ?_; unfold CdecPost; rw [HP.out]; rintro _ x3 ⟨v3, rfl, ho3, hb3⟩; obtain ⟨a3, c3, hv3, _, _, hl3, _⟩ := ho3.shape; subst hv3; have HB3 : Hid (Below w.heap.size w x3) := below_next HB2.out hb3; clear ho3 hb3 hl3)
      | ((with_reducible refine guard_store 25 ?_); clear T1; refine wpList_store_st (s := zeroS) (s2 := zeroS) (a2 := a3) (n2 := 0) (c2 := c3) rfl _ _ rfl (StAt.new x3 zeroS (.slice none 0 0)) rfl rfl ?_; intro x4 z1 z2 z3 z4; have hu := (z2 _ _ ((Below.refl x3.heap.size x3).alloc (Nat.le_refl _) _) (Nat.le_refl _)); have HB4 : Hid (Below w.heap.size w x4) := below_next HB3.out hu; have HS4 : Hid (StAt x4 x3.heap.size zeroS (.slice a3 0 c3)) := z1; clear z1 z2 z3 z4 hu)
      | ((with_reducible refine guard_load 25 ?_); refine wpList_load_st rfl _ rfl HS4.out rfl ?_)
      | (go_at_call 11; refine (ssame_yes zeroS a3 none 0 c3 0 _ rfl (.inl rfl) (.inl rfl) (by decide)).mono ?_; rintro _ x7 ⟨rfl, hb7⟩; have HB7 : Hid (Below w.heap.size w x7) := below_next HB4.out hb7; clear hb7))
    go_ret
    exact ⟨rfl, HB7.out⟩
theorem own : ownKnob Try.prog.godebug = none := by kernel_rfl
theorem laidOut : laidOutB Try.prog = true := by kernel_rfl
set_option maxRecDepth 100000 in
theorem contract (H : Type) (enc : TypeId × Value → H) (W : World) (base : Nat) (args : Array Value) (ds gs : List (DataW H)) (before : List MemPlace)
    (hval : ∀ (j : Nat) t v, Try.f4.params[j]? = some t → args[j]? = some v → Value.okWide Try.prog W .any base t v)
    (hW : DataW.Whole enc Try.prog Try.f4.params.toList Rows.canonOneFormSpec.vars false W args.toList ds gs before)
    (hsz : (DataW.weightsEach Try.prog (Try.f4.params.toList ++ Rows.canonOneFormSpec.plain.varTypes Try.prog) (ds ++ gs)).all (· ≤ reachBytes) = true) :
    Calls Try.prog 4 args W fun e W' => ∃ v, e = .returned v ∧ Rows.canonOneFormSpec.post enc Try.prog Try.f4 false true false false W args v W' := by
  have hW' := hW
  obtain ⟨p, q, hA0, hV, rfl, hfz, hnd⟩ := hW
  have hA : DataW.TrodAll enc Try.prog W 0 (fun _ => true) true Try.f4.params.toList args.toList ds p := hA0
  rw [Try.params4] at hA hval hsz
  obtain ⟨v0, vs0, d0, ds0, p0, q0, hargs, rfl, rfl, h0, r0⟩ := trodAll_cons hA
  obtain ⟨rfl, rfl, rfl⟩ := trodAll_nil r0
  obtain rfl : args = #[v0] := by cases args; simp_all
  obtain ⟨rfl, rfl⟩ := trodVars_none hV
  obtain ⟨a0, len0, cap0, rfl⟩ := okWide_slice Try.underlying27 (hval 0 27 v0 rfl rfl)
  have k0 := h0
  have lt0 : ∀ x ∈ p0, x.block < W.heap.size := by obtain ⟨m, hm⟩ := k0; exact DataW.trod_lt m _ _ _ hm
  obtain ⟨l0, hlen0, w0, c0⟩ : ∃ l : List Nat, l.length = len0 ∧ Bytes W a0 l ∧ Came W a0 len0 cap0 1 := by
    obtain ⟨fuel, hf⟩ := h0
    rcases open_ints Try.underlying27 Try.underlying5 (by kernel_rfl) hf with ⟨hcs, hx⟩ | ⟨x, l, c, zs, hcs, _, hl, hm, hz, hx, hcell, hwz⟩
    · simp [Value.cells] at hcs
      obtain ⟨rfl, rfl, rfl⟩ := hcs
      exact ⟨[], rfl, ⟨by simp, .inl rfl⟩, ⟨Nat.le_refl _, by simp, fun _ => rfl⟩⟩
    · simp [Value.cells] at hcs
      obtain ⟨rfl, rfl, rfl⟩ := hcs
      have hz2 : zs.length = cap0 := by simpa using hz
      obtain ⟨ll, e1, e2, e3⟩ := row_nats .u8 256 (by decide) wf_u8 W x zs len0 (by omega) hcell hwz
      have hd : d0 = .slice (lits .u8 (zs.take len0)) (lits .u8 (zs.drop len0)) := (Prod.mk.inj hx).1
      have hreach : cap0 * 1 ≤ 140737488351232 := by
        have := sized_slice hsz (j := 0) (t := 27) (e := 5) rfl (by rw [hd]; rfl) Try.underlying27
        rw [show Try.prog.bytesOf 5 = 1 from by kernel_rfl] at this
        simp only [lits, List.length_map, List.length_take, List.length_drop, reachBytes] at this
        have hmin : min len0 zs.length = len0 := Nat.min_eq_left (by omega)
        rw [hmin] at this
        have hcap : len0 + (zs.length - len0) = cap0 := by omega
        rw [hcap] at this
        exact this
      exact ⟨ll, e1, ⟨e2, e3⟩, ⟨hl, hreach, fun h => by cases h⟩⟩
  subst hlen0
  clear hA0
  refine (walk l0 a0 cap0 W w0 c0).mono fun e W' ⟨he, bel⟩ => ?_
  subst he
  exact ⟨_, rfl, _, _, _, [], _, [], hW', trodAll_mk1 (shut_bool Try.underlying4 _), (trodAll_cons_mk (Below.trod laidOut (by kernel_rfl) (of_decide_eq_true (by kernel_rfl)) k0 bel lt0) trodAll_mk0), rfl, bel.frame _, fun h => by cases h⟩
set_option maxRecDepth 100000 in
theorem lifted (os : Os) (started : os.Started) (H : Type) (enc : TypeId × Value → H) :
    ReturnsInHanded {} Try.checked os 4 .any (Rows.canonOneFormSpec.pre6 enc Try.prog Try.f4 Rows.canonOneFormRow.domain false) (Rows.canonOneFormSpec.post enc Try.prog Try.f4 false true false false) := by
  refine returnsInHanded_of_change_sized (C := Try.checked) own started (by kernel_rfl) Try.func4
    (ChangeSpec.witness6 (enc := enc) (C := Try.checked) false ⟨#[], #[.slice none 0 0], []⟩ 8 (by kernel_rfl) (by kernel_rfl) (by kernel_rfl) (by kernel_rfl)) ?_
  intro W base args ds gs before hval hW _ hsz _
  exact contract H enc W base args ds gs before hval hW hsz
theorem over : Rows.canonOneFormRow.holds Try.pinned (OpenSpec.ofChange Rows.canonOneFormSpec) :=
  OpenClaim.holds_of_wide 4 Try.f4 rfl rfl rfl rfl rfl rfl rfl ⟨rfl, rfl, rfl, rfl, rfl⟩ rfl rfl rfl rfl rfl (by kernel_rfl) Try.func4 (by kernel_rfl)
    (of_decide_eq_true (by kernel_rfl)) (by unfold Func.isWrapper; first | (rw [if_pos (by decide +kernel)]; kernel_rfl) | (rw [if_neg (by decide +kernel)]; exact ⟨rfl, rfl⟩))
    (fun os started H enc _ => lifted os started H enc)
theorem proved : Rows.CanonOneFormSaid := over
end Go.Proofs.Ytfdaefhamoeaiaa.canonOneForm
