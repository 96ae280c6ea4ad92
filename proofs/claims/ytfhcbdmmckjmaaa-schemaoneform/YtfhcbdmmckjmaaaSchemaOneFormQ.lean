/- What schema.Decode reads, by every version, is what schema.Encode would write: for every text. -/
import Derived.Test.YtfhcbdmmckjmaaaJ17
import Derived.Test.YtfhcbdmmckjmaaaJ20
import Derived.SizedLaws
import Derived.ChangeOld
namespace Go.Proofs.Ytfhcbdmmckjmaaa.schemaOneForm
open Go.ChangeShapes Go.WideShapes Go.ChangeAt Go.RowKit
set_option linter.unusedVariables false
theorem ev_zero (w : World) : (binOp .neq 24 (.agg (evA zeroE)) (.agg #[.int .i64 0, .int .i64 0, .int .i64 0, .int .i64 0, .int .i64 0, .int .i64 0, .int .i64 0, .string ⟨#[]⟩, .int .i64 0, .string ⟨#[]⟩])).run Try.prog w = .ok (.bool false) w := ev_neq zeroE w
set_option maxRecDepth 20000 in
set_option maxHeartbeats 1000000 in
theorem walk (l : List Nat) (a : Option Addr) (cap : Nat) (w : World) (hb : Bytes w a l) (hc : Came w a l.length cap 1) :
    Calls Try.prog 7 #[.slice a l.length cap] w fun r w' => r = .returned (.bool true) ∧ Below w.heap.size w w' := by
  have HB : Hid (Bytes w a l) := hb
  have hl : l.length ≤ 140737488351232 := by have h1 := hc.1; have h2 := hc.2; omega
  have HM : Hid (∀ x ∈ l, x < 256) := lt_all hb.1
  obtain ⟨n, hn⟩ : ∃ n, l.length = n := ⟨_, rfl⟩
  have HN : Hid (l.length = n) := hn
  rw [hn] at hl ⊢
  have hnI : (n : Int) ≤ 140737488351232 := by omega
  have hlm : n ≤ maxLen := by unfold maxLen; omega
  have hz := ev_zero
  clear hb hc hn
  go_enter Try.func7, Try.ntmps7
  go_wp2_with (go_at_call 9; refine (head06_any _).mono ?_; rintro _ x1 ⟨rfl, hb1⟩; have HB1 : Hid (Below w.heap.size w x1) := hb1; clear hb1)
  go_loopw [3] (fun vi wr => ∃ k : Nat, k ≤ 5 ∧ vi = .int .i64 ((k + 1 : Nat) : Int) ∧ Hid (Below w.heap.size w wr)) (fun vi _ => 6 - (intOf vi).toNat)
  case atStart => exact ⟨0, by omega, rfl, HB1.out⟩
  case round =>
    obtain ⟨k, hk, rfl, HI⟩ := hrel
    by_cases hkl : k < 5
    · have hkI : ((k + 1 : Nat) : Int) ≤ 5 := by omega
      obtain ⟨V, hV⟩ : ∃ V, k + 1 = V := ⟨_, rfl⟩
      rw [hV] at hkI ⊢
      obtain ⟨E, c, hEc⟩ : ∃ E c, sdec V l = (E, c) := ⟨_, _, rfl⟩
      have HE : Hid (_) := hEc
      have hkV : V = k + 1 := hV.symm
      have HKV : Hid (_) := hkV
      have hV5 : V ≤ 5 := by omega
      clear hkV hV hk hkl
      by_cases hc : c = 0
      · subst hc
        have HF : Hid (senc V E = (l, 0)) := by
          obtain ⟨r, ho⟩ := sdec_form HM.out (by rw [hEc])
          rw [hEc] at r ho
          simp only at r ho
          show senc V E = (l, 0)
          rw [show senc V E = (ones (efs V E), 0) from if_neg (by simp [chk_of r]), ho]
        clear hEc
        go_wp2_with (first
          | (go_at_call 15; refine (copy_nn l a n cap _ HN.out (HB.out.keep HI.out) (by omega)).mono ?_; rintro _ x2 ⟨a2, cap2, rfl, hcap2, hy2, _, hb2⟩; have HY2 : Hid (Bytes x2 a2 l) := hy2; have HB2 : Hid (Below w.heap.size w x2) := below_next HI.out hb2; clear hy2 hb2)
          | (go_at_call 17; refine (sdecode_any V l a2 n cap2 _ HN.out HY2.out hcap2 hlm).mono ?_; rw [HE.out]; rintro _ x3 ⟨rfl, hb3⟩; have HB3 : Hid (Below w.heap.size w x3) := below_next HB2.out hb3; clear hb3)
          | ((with_reducible refine guard_store 24 ?_); refine wpList_store_ev (e := zeroE) (e2 := E) rfl _ _ rfl (evAt_new x3 zeroE) rfl rfl ?_; intro x4 z1 z2 z3 z4; have HE4 : Hid (EvAt x4 x3.heap.size E) := z1; have HB4 : Hid (Below w.heap.size w x4) := z2 _ _ (below_next HB3.out ((Below.refl _ _).alloc (Nat.le_refl _) _)) HB3.out.size; clear z1 z2 z3 z4)
          | ((with_reducible refine guard_load 24 ?_); refine wpList_load_ev rfl _ rfl HE4.out rfl ?_)
          | (go_at_call 13; refine (sencode_any V E _).mono ?_; unfold SencPost; rw [HF.out]; rintro _ x5 ⟨v5, rfl, ho5, hb5⟩; obtain ⟨a5, cap5, hv5, _, _, hby5, _⟩ := ho5.shape; simp only [HN.out] at hv5; subst hv5; have HY5 : Hid (Bytes x5 a5 l) := hby5; have HB5 : Hid (Below w.heap.size w x5) := below_next HB4.out hb5; clear hb5 ho5 hby5)
          | (go_at_call 14; refine (same_yes l n n a5 a cap5 cap _ HN.out HN.out HY5.out (HB.out.keep HB5.out) hlm).mono ?_; rintro _ x6 ⟨rfl, hb6⟩; have HB6 : Hid (Below w.heap.size w x6) := below_next HB5.out hb6; clear hb6))
        go_roundw
        case rel => exact ⟨V, hV5, by go_num, HB6.out⟩
        case measure => simp [intOf]; omega
      · have HZ : Hid (E = zeroE) := by
          have h1 := sdec_err (v := (V : Int)) (l := l) (by rw [hEc]; exact hc)
          rw [hEc] at h1
          exact h1
        have hcb : (c != 0) = true := by simpa using hc
        have hE0 := HZ.out
        subst hE0
        clear hEc HZ
        go_wp2_with (first
          | (go_at_call 15; refine (copy_nn l a n cap _ HN.out (HB.out.keep HI.out) (by omega)).mono ?_; rintro _ x2 ⟨a2, cap2, rfl, hcap2, hy2, _, hb2⟩; have HY2 : Hid (Bytes x2 a2 l) := hy2; have HB2 : Hid (Below w.heap.size w x2) := below_next HI.out hb2; clear hy2 hb2)
          | (go_at_call 17; refine (sdecode_any V l a2 n cap2 _ HN.out HY2.out hcap2 hlm).mono ?_; rw [HE.out]; rintro _ x3 ⟨rfl, hb3⟩; have HB3 : Hid (Below w.heap.size w x3) := below_next HB2.out hb3; clear hb3)
          | ((with_reducible refine guard_store 24 ?_); refine wpList_store_ev (e := zeroE) (e2 := zeroE) rfl _ _ rfl (evAt_new x3 zeroE) rfl rfl ?_; intro x4 z1 z2 z3 z4; have HE4 : Hid (EvAt x4 x3.heap.size zeroE) := z1; have HB4 : Hid (Below w.heap.size w x4) := z2 _ _ (below_next HB3.out ((Below.refl _ _).alloc (Nat.le_refl _) _)) HB3.out.size; clear z1 z2 z3 z4)
          | ((with_reducible refine guard_load 24 ?_); refine wpList_load_ev rfl _ rfl HE4.out rfl ?_))
        go_roundw
        case rel => exact ⟨V, hV5, by go_num, HB4.out⟩
        case measure => simp [intOf]; omega
    · obtain rfl : k = 5 := by omega
      go_wp2
      go_ret
      exact ⟨rfl, HI.out⟩
theorem own : ownKnob Try.prog.godebug = none := by kernel_rfl
theorem laidOut : laidOutB Try.prog = true := by kernel_rfl
set_option maxRecDepth 100000 in
theorem contract (H : Type) (enc : TypeId × Value → H) (W : World) (base : Nat) (args : Array Value) (ds gs : List (DataW H)) (before : List MemPlace)
    (hval : ∀ (j : Nat) t v, Try.f7.params[j]? = some t → args[j]? = some v → Value.okWide Try.prog W .any base t v)
    (hW : DataW.Whole enc Try.prog Try.f7.params.toList Rows.schemaOneFormSpec.vars false W args.toList ds gs before)
    (hsz : (DataW.weightsEach Try.prog (Try.f7.params.toList ++ Rows.schemaOneFormSpec.plain.varTypes Try.prog) (ds ++ gs)).all (· ≤ reachBytes) = true) :
    Calls Try.prog 7 args W fun e W' => ∃ v, e = .returned v ∧ Rows.schemaOneFormSpec.post enc Try.prog Try.f7 false true false false W args v W' := by
  have hW' := hW
  obtain ⟨p, q, hA0, hV, rfl, hfz, hnd⟩ := hW
  have hA : DataW.TrodAll enc Try.prog W 0 (fun _ => true) true Try.f7.params.toList args.toList ds p := hA0
  rw [Try.params7] at hA hval hsz
  obtain ⟨v0, vs0, d0, ds0, p0, q0, hargs, rfl, rfl, h0, r0⟩ := trodAll_cons hA
  obtain ⟨rfl, rfl, rfl⟩ := trodAll_nil r0
  obtain rfl : args = #[v0] := by cases args; simp_all
  obtain ⟨rfl, rfl⟩ := trodVars_none hV
  obtain ⟨a0, len0, cap0, rfl⟩ := okWide_slice Try.underlying30 (hval 0 30 v0 rfl rfl)
  have k0 := h0
  have lt0 : ∀ x ∈ p0, x.block < W.heap.size := by obtain ⟨m, hm⟩ := k0; exact DataW.trod_lt m _ _ _ hm
  obtain ⟨l0, hlen0, w0, c0⟩ : ∃ l : List Nat, l.length = len0 ∧ Bytes W a0 l ∧ Came W a0 len0 cap0 1 := by
    obtain ⟨fuel, hf⟩ := h0
    rcases open_ints Try.underlying30 Try.underlying5 (by kernel_rfl) hf with ⟨hcs, hx⟩ | ⟨x, l, c, zs, hcs, _, hl, hm, hz, hx, hcell, hwz⟩
    · simp [Value.cells] at hcs
      obtain ⟨rfl, rfl, rfl⟩ := hcs
      exact ⟨[], rfl, ⟨by simp, .inl rfl⟩, ⟨Nat.le_refl _, by simp, fun _ => rfl⟩⟩
    · simp [Value.cells] at hcs
      obtain ⟨rfl, rfl, rfl⟩ := hcs
      have hz2 : zs.length = cap0 := by simpa using hz
      obtain ⟨ll, e1, e2, e3⟩ := row_nats .u8 256 (by decide) wf_u8 W x zs len0 (by omega) hcell hwz
      have hd : d0 = .slice (lits .u8 (zs.take len0)) (lits .u8 (zs.drop len0)) := (Prod.mk.inj hx).1
      have hreach : cap0 * 1 ≤ 140737488351232 := by
        have := sized_slice hsz (j := 0) (t := 30) (e := 5) rfl (by rw [hd]; rfl) Try.underlying30
        rw [show Try.prog.bytesOf 5 = 1 from by kernel_rfl] at this
        simp only [lits, List.length_map, List.length_take, List.length_drop, reachBytes] at this
        have hmin : min len0 zs.length = len0 := Nat.min_eq_left (by omega)
        rw [hmin] at this
        have hcap : len0 + (zs.length - len0) = cap0 := by omega
        rw [hcap] at this
        exact this
      exact ⟨ll, e1, ⟨e2, e3⟩, ⟨hl, hreach, fun h => by cases h⟩⟩
  subst hlen0
  clear hA0
  refine (walk l0 a0 cap0 W w0 c0).mono fun e W' ⟨he, bel⟩ => ?_
  subst he
  exact ⟨_, rfl, _, _, _, [], _, [], hW', trodAll_mk1 (shut_bool Try.underlying4 _), (trodAll_cons_mk (Below.trod laidOut (by kernel_rfl) (of_decide_eq_true (by kernel_rfl)) k0 bel lt0) trodAll_mk0), rfl, bel.frame _, fun h => by cases h⟩
set_option maxRecDepth 100000 in
theorem lifted (os : Os) (started : os.Started) (H : Type) (enc : TypeId × Value → H) :
    ReturnsInHanded {} Try.checked os 7 .any (Rows.schemaOneFormSpec.pre6 enc Try.prog Try.f7 Rows.schemaOneFormRow.domain false) (Rows.schemaOneFormSpec.post enc Try.prog Try.f7 false true false false) := by
  refine returnsInHanded_of_change_sized (C := Try.checked) own started (by kernel_rfl) Try.func7
    (ChangeSpec.witness6 (enc := enc) (C := Try.checked) false ⟨#[], #[.slice none 0 0], []⟩ 8 (by kernel_rfl) (by kernel_rfl) (by kernel_rfl) (by kernel_rfl)) ?_
  intro W base args ds gs before hval hW _ hsz _
  exact contract H enc W base args ds gs before hval hW hsz
theorem over : Rows.schemaOneFormRow.holds Try.pinned (OpenSpec.ofChange Rows.schemaOneFormSpec) :=
  OpenClaim.holds_of_wide 7 Try.f7 rfl rfl rfl rfl rfl rfl rfl ⟨rfl, rfl, rfl, rfl, rfl⟩ rfl rfl rfl rfl rfl (by kernel_rfl) Try.func7 (by kernel_rfl)
    (of_decide_eq_true (by kernel_rfl)) (by unfold Func.isWrapper; first | (rw [if_pos (by decide +kernel)]; kernel_rfl) | (rw [if_neg (by decide +kernel)]; exact ⟨rfl, rfl⟩))
    (fun os started H enc _ => lifted os started H enc)
theorem proved : Rows.SchemaOneFormSaid := over
end Go.Proofs.Ytfhcbdmmckjmaaa.schemaOneForm
