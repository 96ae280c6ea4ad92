/- What schema.Decode answers is what the reference answers, by every version: for every text. -/
import Derived.Test.YtfhcbdmmckjmaaaJ17
import Derived.Test.YtfhcbdmmckjmaaaJ25
import Derived.Test.YtfhcbdmmckjmaaaJ20
import Derived.SizedLaws
import Derived.ChangeOld
namespace Go.Proofs.Ytfhcbdmmckjmaaa.schemaDecodes
open Go.ChangeShapes Go.WideShapes Go.ChangeAt Go.RowKit
set_option linter.unusedVariables false
set_option maxRecDepth 20000 in
set_option maxHeartbeats 1000000 in
theorem walk (l : List Nat) (a : Option Addr) (cap : Nat) (v : Int) (w : World) (hb : Bytes w a l) (hc : Came w a l.length cap 1) (hr : (Lit.int .i64 v).wf = true) :
    Calls Try.prog 5 #[.slice a l.length cap, .int .i64 v] w fun r w' => r = .returned (.bool true) ∧ Below w.heap.size w w' := by
  have HB : Hid (Bytes w a l) := hb
  have hl : l.length ≤ 140737488351232 := by have h1 := hc.1; have h2 := hc.2; omega
  have hlc : l.length ≤ cap := hc.1
  obtain ⟨n, hn⟩ : ∃ n, l.length = n := ⟨_, rfl⟩
  have HN : Hid (l.length = n) := hn
  rw [hn] at hl hlc ⊢
  have hnI : (n : Int) ≤ 140737488351232 := by omega
  have hlm : n ≤ maxLen := by unfold maxLen; omega
  clear hb hc hn
  go_enter Try.func5, Try.ntmps5
  go_wp2_with (first
    | (go_at_call 9; refine (head06_any _).mono ?_; rintro _ x1 ⟨rfl, hb1⟩; have HB1 : Hid (Below w.heap.size w x1) := hb1; clear hb1)
    | (go_at_call 15; refine (copy_nn l a n cap _ HN.out (HB.out.keep HB1.out) (by omega)).mono ?_; rintro _ x2 ⟨a2, cap2, rfl, hcap2, hy2, _, hb2⟩; have HY2 : Hid (Bytes x2 a2 l) := hy2; have HB2 : Hid (Below w.heap.size w x2) := below_next HB1.out hb2; clear hy2 hb2))
  go_loopw [6] (fun vi wr => ∃ k : Nat, k ≤ 7 ∧ vi = .int .i64 (k : Int) ∧ Hid (Below w.heap.size w wr ∧ Bytes wr a2 l)) (fun vi _ => 7 - (intOf vi).toNat)
  case atStart => exact ⟨0, by omega, rfl, HB2.out, HY2.out⟩
  case round =>
    obtain ⟨k, hk, rfl, HI⟩ := hrel
    by_cases hkl : k < 7
    · have hkI : (k : Int) < 7 := by omega
      obtain ⟨E, c, hEc⟩ : ∃ E c, sdec k l = (E, c) := ⟨_, _, rfl⟩
      have HE : Hid (_) := hEc
      have hz := fun w => ev_neq E w
      have T1 : Hid True := trivial
      clear hEc
      go_wp2_with (first
        | (go_at_call 16; refine (rdec06_any k l a n cap _ HN.out (HB.out.keep HI.out.1) hlc hlm).mono ?_; rw [HE.out]; rintro _ x3 ⟨rfl, hb3⟩; have HB3 : Hid (Below w.heap.size w x3) := below_next HI.out.1 hb3; have HY3 : Hid (Bytes x3 a2 l) := HI.out.2.keep hb3; clear hb3)
        | ((with_reducible refine guard_store 24 ?_); clear T1; refine wpList_store_ev (e := zeroE) (e2 := E) rfl _ _ rfl (evAt_new x3 zeroE) rfl rfl ?_; intro x4 z1 z2 z3 z4; have HE4 : Hid (EvAt x4 x3.heap.size E) := z1; have HU4 : Hid (Below x3.heap.size x3 x4) := z2 _ _ ((Below.refl _ _).alloc (Nat.le_refl _) _) (Nat.le_refl _); have HB4 : Hid (Below w.heap.size w x4) := below_next HB3.out HU4.out; have HY4 : Hid (Bytes x4 a2 l) := HY3.out.keep HU4.out; clear z1 z2 z3 z4)
        | (go_at_call 17; refine (sdecode_any k l a2 n cap2 _ HN.out HY4.out hcap2 hlm).mono ?_; rw [HE.out]; rintro _ x5 ⟨rfl, hb5⟩; have HB5 : Hid (Below w.heap.size w x5) := below_next HB4.out hb5; have HE5 : Hid (EvAt x5 x3.heap.size E) := HE4.out.after hb5; have HY5 : Hid (Bytes x5 a2 l) := HY4.out.keep hb5; clear hb5)
        | ((with_reducible refine guard_store 24 ?_); refine wpList_store_ev (e := zeroE) (e2 := E) rfl _ _ rfl (evAt_new x5 zeroE) rfl rfl ?_; intro x6 z1 z2 z3 z4; have HE6 : Hid (EvAt x6 x5.heap.size E) := z1; have HU6 : Hid (Below x5.heap.size x5 x6) := z2 _ _ ((Below.refl _ _).alloc (Nat.le_refl _) _) (Nat.le_refl _); have HB6 : Hid (Below w.heap.size w x6) := below_next HB5.out HU6.out; have HF6 : Hid (EvAt x6 x3.heap.size E) := HE5.out.after HU6.out; have HY6 : Hid (Bytes x6 a2 l) := HY5.out.keep HU6.out; clear z1 z2 z3 z4)
        | ((with_reducible refine guard_loadg 24 ?_); first | refine wpList_load_evg rfl _ rfl HE6.out rfl ?_ | refine wpList_load_evg rfl _ rfl HF6.out rfl ?_))
      go_roundw
      case rel => exact ⟨k + 1, by omega, by go_num, HB6.out, HY6.out⟩
      case measure => simp [intOf]; omega
    · obtain rfl : k = 7 := by omega
      obtain ⟨E, c, hEc⟩ : ∃ E c, sdec v l = (E, c) := ⟨_, _, rfl⟩
      have HE : Hid (_) := hEc
      by_cases hv : 1 ≤ v ∧ v ≤ 5
      · obtain ⟨hv1, hv5⟩ := hv
        clear hEc
        go_wp2_with (first
          | (go_at_call 17; refine (sdecode_any v l a2 n cap2 _ HN.out HI.out.2 hcap2 hlm).mono ?_; rw [HE.out]; rintro _ x5 ⟨rfl, hb5⟩; have HB5 : Hid (Below w.heap.size w x5) := below_next HI.out.1 hb5; have HY5 : Hid (Bytes x5 a2 l) := HI.out.2.keep hb5; clear hb5)
          | ((with_reducible refine guard_store 24 ?_); refine wpList_store_ev (e := zeroE) (e2 := E) rfl _ _ rfl (evAt_new x5 zeroE) rfl rfl ?_; intro x7 z1 z2 z3 z4; have HU7 : Hid (Below x5.heap.size x5 x7) := z2 _ _ ((Below.refl _ _).alloc (Nat.le_refl _) _) (Nat.le_refl _); have HB7 : Hid (Below w.heap.size w x7) := below_next HB5.out HU7.out; have HY7 : Hid (Bytes x7 a2 l) := HY5.out.keep HU7.out; clear z1 z2 z3 z4)
          | (go_at_call 14; refine (same_yes l n n a2 a cap2 cap _ HN.out HN.out HY7.out (HB.out.keep HB7.out) hlm).mono ?_; rintro _ x6 ⟨rfl, hb6⟩; have HB6 : Hid (Below w.heap.size w x6) := below_next HB7.out hb6; clear hb6))
        go_ret
        exact ⟨rfl, HB6.out⟩
      · have hc30 : c = 30 := by
          have h1 : sdec v l = (zeroE, 30) := if_pos (by omega)
          rw [hEc] at h1
          exact (Prod.mk.inj h1).2
        subst hc30
        clear hEc
        by_cases hv1 : v < 1
        · have d1 : decide (1 ≤ v) = false := by simp; omega
          go_wp2_with (first
            | (go_at_call 17; refine (sdecode_any v l a2 n cap2 _ HN.out HI.out.2 hcap2 hlm).mono ?_; rw [HE.out]; rintro _ x5 ⟨rfl, hb5⟩; have HB5 : Hid (Below w.heap.size w x5) := below_next HI.out.1 hb5; have HY5 : Hid (Bytes x5 a2 l) := HI.out.2.keep hb5; clear hb5)
            | ((with_reducible refine guard_store 24 ?_); refine wpList_store_ev (e := zeroE) (e2 := E) rfl _ _ rfl (evAt_new x5 zeroE) rfl rfl ?_; intro x7 z1 z2 z3 z4; have HU7 : Hid (Below x5.heap.size x5 x7) := z2 _ _ ((Below.refl _ _).alloc (Nat.le_refl _) _) (Nat.le_refl _); have HB7 : Hid (Below w.heap.size w x7) := below_next HB5.out HU7.out; have HY7 : Hid (Bytes x7 a2 l) := HY5.out.keep HU7.out; clear z1 z2 z3 z4)
            | (go_at_call 14; refine (same_yes l n n a2 a cap2 cap _ HN.out HN.out HY7.out (HB.out.keep HB7.out) hlm).mono ?_; rintro _ x6 ⟨rfl, hb6⟩; have HB6 : Hid (Below w.heap.size w x6) := below_next HB7.out hb6; clear hb6))
          go_ret
          exact ⟨rfl, HB6.out⟩
        · have d1 : 1 ≤ v := by omega
          have d5 : decide (v ≤ 5) = false := by simp; omega
          go_wp2_with (first
            | (go_at_call 17; refine (sdecode_any v l a2 n cap2 _ HN.out HI.out.2 hcap2 hlm).mono ?_; rw [HE.out]; rintro _ x5 ⟨rfl, hb5⟩; have HB5 : Hid (Below w.heap.size w x5) := below_next HI.out.1 hb5; have HY5 : Hid (Bytes x5 a2 l) := HI.out.2.keep hb5; clear hb5)
            | ((with_reducible refine guard_store 24 ?_); refine wpList_store_ev (e := zeroE) (e2 := E) rfl _ _ rfl (evAt_new x5 zeroE) rfl rfl ?_; intro x7 z1 z2 z3 z4; have HU7 : Hid (Below x5.heap.size x5 x7) := z2 _ _ ((Below.refl _ _).alloc (Nat.le_refl _) _) (Nat.le_refl _); have HB7 : Hid (Below w.heap.size w x7) := below_next HB5.out HU7.out; have HY7 : Hid (Bytes x7 a2 l) := HY5.out.keep HU7.out; clear z1 z2 z3 z4)
            | (go_at_call 14; refine (same_yes l n n a2 a cap2 cap _ HN.out HN.out HY7.out (HB.out.keep HB7.out) hlm).mono ?_; rintro _ x6 ⟨rfl, hb6⟩; have HB6 : Hid (Below w.heap.size w x6) := below_next HB7.out hb6; clear hb6))
          go_ret
          exact ⟨rfl, HB6.out⟩
theorem own : ownKnob Try.prog.godebug = none := by kernel_rfl
theorem laidOut : laidOutB Try.prog = true := by kernel_rfl
set_option maxRecDepth 100000 in
theorem contract (H : Type) (enc : TypeId × Value → H) (W : World) (base : Nat) (args : Array Value) (ds gs : List (DataW H)) (before : List MemPlace)
    (hval : ∀ (j : Nat) t v, Try.f5.params[j]? = some t → args[j]? = some v → Value.okWide Try.prog W .any base t v)
    (hW : DataW.Whole enc Try.prog Try.f5.params.toList Rows.schemaDecodesSpec.vars false W args.toList ds gs before)
    (hsz : (DataW.weightsEach Try.prog (Try.f5.params.toList ++ Rows.schemaDecodesSpec.plain.varTypes Try.prog) (ds ++ gs)).all (· ≤ reachBytes) = true) :
    Calls Try.prog 5 args W fun e W' => ∃ v, e = .returned v ∧ Rows.schemaDecodesSpec.post enc Try.prog Try.f5 false true false false W args v W' := by
  have hW' := hW
  obtain ⟨p, q, hA0, hV, rfl, hfz, hnd⟩ := hW
  have hA : DataW.TrodAll enc Try.prog W 0 (fun _ => true) true Try.f5.params.toList args.toList ds p := hA0
  rw [Try.params5] at hA hval hsz
  obtain ⟨v0, vs0, d0, ds0, p0, q0, hargs, rfl, rfl, h0, r0⟩ := trodAll_cons hA
  obtain ⟨v1, vs1, d1, ds1, p1, q1, rfl, rfl, rfl, h1, r1⟩ := trodAll_cons r0
  obtain ⟨rfl, rfl, rfl⟩ := trodAll_nil r1
  obtain rfl : args = #[v0, v1] := by cases args; simp_all
  obtain ⟨rfl, rfl⟩ := trodVars_none hV
  obtain ⟨a0, len0, cap0, rfl⟩ := okWide_slice Try.underlying30 (hval 0 30 v0 rfl rfl)
  have k0 := h0
  have lt0 : ∀ x ∈ p0, x.block < W.heap.size := by obtain ⟨m, hm⟩ := k0; exact DataW.trod_lt m _ _ _ hm
  obtain ⟨l0, hlen0, w0, c0⟩ : ∃ l : List Nat, l.length = len0 ∧ Bytes W a0 l ∧ Came W a0 len0 cap0 1 := by
    obtain ⟨fuel, hf⟩ := h0
    rcases open_ints Try.underlying30 Try.underlying5 (by kernel_rfl) hf with ⟨hcs, hx⟩ | ⟨x, l, c, zs, hcs, _, hl, hm, hz, hx, hcell, hwz⟩
    · simp [Value.cells] at hcs
      obtain ⟨rfl, rfl, rfl⟩ := hcs
      exact ⟨[], rfl, ⟨by simp, .inl rfl⟩, ⟨Nat.le_refl _, by simp, fun _ => rfl⟩⟩
    · simp [Value.cells] at hcs
      obtain ⟨rfl, rfl, rfl⟩ := hcs
      have hz2 : zs.length = cap0 := by simpa using hz
      obtain ⟨ll, e1, e2, e3⟩ := row_nats .u8 256 (by decide) wf_u8 W x zs len0 (by omega) hcell hwz
      have hd : d0 = .slice (lits .u8 (zs.take len0)) (lits .u8 (zs.drop len0)) := (Prod.mk.inj hx).1
      have hreach : cap0 * 1 ≤ 140737488351232 := by
        have := sized_slice hsz (j := 0) (t := 30) (e := 5) rfl (by rw [hd]; rfl) Try.underlying30
        rw [show Try.prog.bytesOf 5 = 1 from by kernel_rfl] at this
        simp only [lits, List.length_map, List.length_take, List.length_drop, reachBytes] at this
        have hmin : min len0 zs.length = len0 := Nat.min_eq_left (by omega)
        rw [hmin] at this
        have hcap : len0 + (zs.length - len0) = cap0 := by omega
        rw [hcap] at this
        exact this
      exact ⟨ll, e1, ⟨e2, e3⟩, ⟨hl, hreach, fun h => by cases h⟩⟩
  subst hlen0
  obtain ⟨a1, rfl, rfl, rfl, w1⟩ := open_int Try.underlying3 (hval 1 3 v1 rfl rfl) h1
  clear hA0
  refine (walk l0 a0 cap0 a1 W w0 c0 w1).mono fun e W' ⟨he, bel⟩ => ?_
  subst he
  exact ⟨_, rfl, _, _, _, [], _, [], hW', trodAll_mk1 (shut_bool Try.underlying4 _), (trodAll_cons_mk (Below.trod laidOut (by kernel_rfl) (of_decide_eq_true (by kernel_rfl)) k0 bel lt0) (trodAll_cons_mk (shut_int Try.underlying3 w1) trodAll_mk0)), rfl, bel.frame _, fun h => by cases h⟩
set_option maxRecDepth 100000 in
theorem lifted (os : Os) (started : os.Started) (H : Type) (enc : TypeId × Value → H) :
    ReturnsInHanded {} Try.checked os 5 .any (Rows.schemaDecodesSpec.pre6 enc Try.prog Try.f5 Rows.schemaDecodesRow.domain false) (Rows.schemaDecodesSpec.post enc Try.prog Try.f5 false true false false) := by
  refine returnsInHanded_of_change_sized (C := Try.checked) own started (by kernel_rfl) Try.func5
    (ChangeSpec.witness6 (enc := enc) (C := Try.checked) false ⟨#[], #[.slice none 0 0, .int .i64 0], []⟩ 8 (by kernel_rfl) (by kernel_rfl) (by kernel_rfl) (by kernel_rfl)) ?_
  intro W base args ds gs before hval hW _ hsz _
  exact contract H enc W base args ds gs before hval hW hsz
theorem over : Rows.schemaDecodesRow.holds Try.pinned (OpenSpec.ofChange Rows.schemaDecodesSpec) :=
  OpenClaim.holds_of_wide 5 Try.f5 rfl rfl rfl rfl rfl rfl rfl ⟨rfl, rfl, rfl, rfl, rfl⟩ rfl rfl rfl rfl rfl (by kernel_rfl) Try.func5 (by kernel_rfl)
    (of_decide_eq_true (by kernel_rfl)) (by unfold Func.isWrapper; first | (rw [if_pos (by decide +kernel)]; kernel_rfl) | (rw [if_neg (by decide +kernel)]; exact ⟨rfl, rfl⟩))
    (fun os started H enc _ => lifted os started H enc)
theorem proved : Rows.SchemaDecodesSaid := over
end Go.Proofs.Ytfhcbdmmckjmaaa.schemaDecodes
