/- For every text: what index.Decode reads is an index, and is what index.Encode would write. No condition. -/
import Derived.Test.YtifackbilmkjlaaMkH
import Derived.Test.YtifackbilmkjlaaMkn
import Derived.Test.YtifackbilmkjlaaMky
import Derived.Test.YtifackbilmkjlaaCopy
import Derived.SizedLaws
import Derived.ChangeOld
namespace Go.Proofs.Ytifackbilmkjlaa.indexOneForm
open Go.ChangeShapes Go.WideShapes Go.ChangeAt Go.RowKit
set_option linter.unusedVariables false
set_option maxRecDepth 20000 in
set_option maxHeartbeats 2000000 in
theorem walk (l : List Nat) (a : Option Addr) (cap : Nat) (w : World) (hb : Bytes w a l) (hc : Came w a l.length cap 1) :
    Calls Try.prog 8 #[.slice a l.length cap] w fun e w' => e = .returned (.bool true) ∧ Below w.heap.size w w' := by
  obtain ⟨hf, hr, hn⟩ := hc
  obtain ⟨n, hln⟩ : ∃ n, l.length = n := ⟨_, rfl⟩
  have hco : ∀ (w' : World), Bytes w' a l → Calls Try.prog 24 #[.slice a n cap] w' fun e w2 => ∃ v, e = .returned v ∧ Own w2 w'.heap.size v l ∧ Below w'.heap.size w' w2 := fun w' h => by
    have h2 := copy_any l a cap w' h (by omega)
    rw [hln] at h2
    exact h2
  have HCO : Hid (∀ (w' : World), Bytes w' a l → Calls Try.prog 24 #[.slice a n cap] w' fun e w2 => ∃ v, e = .returned v ∧ Own w2 w'.heap.size v l ∧ Below w'.heap.size w' w2) := hco
  rw [hln]
  have HB : Hid (Bytes w a l) := hb
  have HL : Hid (l.length = n ∧ n ≤ 140737488351232 ∧ n ≤ maxLen) := ⟨hln, by omega, by unfold maxLen; omega⟩
  obtain ⟨L, e, hd⟩ : ∃ L e, mDec l = (L, e) := ⟨_, _, rfl⟩
  have HD : Hid (mDec l = (L, e)) := hd
  obtain ⟨k, hk⟩ : ∃ k, L.length = k := ⟨_, rfl⟩
  have HK : Hid (L.length = k) := hk
  by_cases he : e = 0
  · subst he
    obtain ⟨hv, hen⟩ := mDec_ok l L hb.mem hd
    have HV : Hid (validB L = true ∧ mEnc L = l ∧ k ≤ maxLen) := ⟨hv, hen, by have := valid_len hv; rw [hk] at this; unfold maxLen; omega⟩
    clear hd hk hb hln hf hr hn hv hen hco
    go_enter Try.func8, Try.ntmps8
    go_wp2_with (first
      | (go_at_call 12; refine (head13_any w).mono ?_; rintro e w1 ⟨rfl, hb1⟩)
      | (go_at_call 24; refine (HCO.out _ (HB.out.keep hb1)).mono ?_; rintro e w2 ⟨v2, rfl, ho2, hb2⟩; obtain ⟨a2, c2, rfl, hc2, hby2⟩ := own_len ho2 n HL.out.1; clear ho2; have hb2w := below_next hb1 hb2)
      | (go_at_call 26; refine (idec_any l _ _ _ _ HL.out.1 hby2 hc2 HL.out.2.1).mono ?_; rw [HD.out]; rintro e w3 ⟨v3, rfl, ho3, hb3⟩; obtain ⟨a3, c3, rfl, hm3⟩ := marks_len ho3 k HK.out; clear ho3; have hb3w := below_next hb2w hb3)
      | (go_at_call 22; refine (ienc_any L _ _ _ _ HK.out hm3 HV.out.2.2).mono ?_; rw [if_pos HV.out.1, if_pos HV.out.1, HV.out.2.1]; rintro e w4 ⟨v4, rfl, ho4, hb4⟩; obtain ⟨a4, c4, rfl, hc4, hby4⟩ := own_len ho4 n HL.out.1; clear ho4; have hb4w := below_next hb3w hb4)
      | (go_at_call 16; refine (valid_any L _ _ _ _ HK.out (hm3.keep hb4) HV.out.2.2).mono ?_; rw [HV.out.1]; rintro e w5 ⟨rfl, hb5⟩; have hb5w := below_next hb4w hb5)
      | (go_at_call 23; refine (same_at l l _ _ _ _ _ _ _ HL.out.1 HL.out.1 (hby4.keep hb5) (HB.out.keep hb5w) (by rw [HL.out.1]; exact HL.out.2.2) (by rw [HL.out.1]; exact HL.out.2.2)).mono ?_; rw [decide_eq_true (rfl : l = l)]; rintro e w6 ⟨rfl, n6, rfl⟩))
    go_ret
    exact ⟨rfl, below_drewN hb5w _⟩
  · have hL := mDec_err l (by rw [hd]; exact he)
    rw [hd] at hL
    simp only at hL
    subst hL
    obtain rfl : k = 0 := hk.symm
    have heb : ((e : Int) != 0) = true := by simp; omega
    clear hd hk hb hln hf hr hn hco he
    go_enter Try.func8, Try.ntmps8
    go_wp2_with (first
      | (go_at_call 12; refine (head13_any w).mono ?_; rintro e w1 ⟨rfl, hb1⟩)
      | (go_at_call 24; refine (HCO.out _ (HB.out.keep hb1)).mono ?_; rintro e w2 ⟨v2, rfl, ho2, hb2⟩; obtain ⟨a2, c2, rfl, hc2, hby2⟩ := own_len ho2 n HL.out.1; clear ho2; have hb2w := below_next hb1 hb2)
      | (go_at_call 26; refine (idec_any l _ _ _ _ HL.out.1 hby2 hc2 HL.out.2.1).mono ?_; rw [HD.out]; rintro e w3 ⟨v3, rfl, ho3, hb3⟩; obtain ⟨a3, c3, rfl, hm3⟩ := marks_len ho3 0 HK.out; clear ho3; have hb3w := below_next hb2w hb3))
    go_ret
    exact ⟨rfl, hb3w⟩
theorem own : ownKnob Try.prog.godebug = none := by kernel_rfl
theorem laidOut : laidOutB Try.prog = true := by kernel_rfl
set_option maxRecDepth 100000 in
theorem contract (H : Type) (enc : TypeId × Value → H) (W : World) (base : Nat) (args : Array Value) (ds gs : List (DataW H)) (before : List MemPlace)
    (hval : ∀ (j : Nat) t v, Try.f8.params[j]? = some t → args[j]? = some v → Value.okWide Try.prog W .any base t v)
    (hW : DataW.Whole enc Try.prog Try.f8.params.toList Rows.indexOneFormSpec.vars false W args.toList ds gs before)
    (hsz : (DataW.weightsEach Try.prog (Try.f8.params.toList ++ Rows.indexOneFormSpec.plain.varTypes Try.prog) (ds ++ gs)).all (· ≤ reachBytes) = true) :
    Calls Try.prog 8 args W fun e W' => ∃ v, e = .returned v ∧ Rows.indexOneFormSpec.post enc Try.prog Try.f8 false true false false W args v W' := by
  have hW' := hW
  obtain ⟨p, q, hA0, hV, rfl, hfz, hnd⟩ := hW
  have hA : DataW.TrodAll enc Try.prog W 0 (fun _ => true) true Try.f8.params.toList args.toList ds p := hA0
  rw [Try.params8] at hA hval hsz
  obtain ⟨v0, vs0, d0, ds0, p0, q0, hargs, rfl, rfl, h0, r0⟩ := trodAll_cons hA
  obtain ⟨rfl, rfl, rfl⟩ := trodAll_nil r0
  obtain rfl : args = #[v0] := by cases args; simp_all
  obtain ⟨rfl, rfl⟩ := trodVars_none hV
  obtain ⟨a0, len0, cap0, rfl⟩ := okWide_slice Try.underlying39 (hval 0 39 v0 rfl rfl)
  have k0 := h0
  have lt0 : ∀ x ∈ p0, x.block < W.heap.size := by obtain ⟨m, hm⟩ := k0; exact DataW.trod_lt m _ _ _ hm
  obtain ⟨l0, hlen0, w0, c0⟩ : ∃ l : List Nat, l.length = len0 ∧ Bytes W a0 l ∧ Came W a0 len0 cap0 1 := by
    obtain ⟨fuel, hf⟩ := h0
    rcases open_ints Try.underlying39 Try.underlying5 (by kernel_rfl) hf with ⟨hcs, hx⟩ | ⟨x, l, c, zs, hcs, _, hl, hm, hz, hx, hcell, hwz⟩
    · simp [Value.cells] at hcs
      obtain ⟨rfl, rfl, rfl⟩ := hcs
      exact ⟨[], rfl, ⟨by simp, .inl rfl⟩, ⟨Nat.le_refl _, by simp, fun _ => rfl⟩⟩
    · simp [Value.cells] at hcs
      obtain ⟨rfl, rfl, rfl⟩ := hcs
      have hz2 : zs.length = cap0 := by simpa using hz
      obtain ⟨ll, e1, e2, e3⟩ := row_nats .u8 256 (by decide) wf_u8 W x zs len0 (by omega) hcell hwz
      have hd : d0 = .slice (lits .u8 (zs.take len0)) (lits .u8 (zs.drop len0)) := (Prod.mk.inj hx).1
      have hreach : cap0 * 1 ≤ 140737488351232 := by
        have := sized_slice hsz (j := 0) (t := 39) (e := 5) rfl (by rw [hd]; rfl) Try.underlying39
        rw [show Try.prog.bytesOf 5 = 1 from by kernel_rfl] at this
        simp only [lits, List.length_map, List.length_take, List.length_drop, reachBytes] at this
        have hmin : min len0 zs.length = len0 := Nat.min_eq_left (by omega)
        rw [hmin] at this
        have hcap : len0 + (zs.length - len0) = cap0 := by omega
        rw [hcap] at this
        exact this
      exact ⟨ll, e1, ⟨e2, e3⟩, ⟨hl, hreach, fun h => by cases h⟩⟩
  subst hlen0
  clear hA0
  refine (walk l0 a0 cap0 W w0 c0).mono fun e W' ⟨he, bel⟩ => ?_
  subst he
  exact ⟨_, rfl, _, _, _, [], _, [], hW', trodAll_mk1 (shut_bool Try.underlying4 _), (trodAll_cons_mk (Below.trod laidOut (by kernel_rfl) (of_decide_eq_true (by kernel_rfl)) k0 bel lt0) trodAll_mk0), rfl, bel.frame _, fun h => by cases h⟩
set_option maxRecDepth 100000 in
theorem lifted (os : Os) (started : os.Started) (H : Type) (enc : TypeId × Value → H) :
    ReturnsInHanded {} Try.checked os 8 .any (Rows.indexOneFormSpec.pre6 enc Try.prog Try.f8 Rows.indexOneFormRow.domain false) (Rows.indexOneFormSpec.post enc Try.prog Try.f8 false true false false) := by
  refine returnsInHanded_of_change_sized (C := Try.checked) own started (by kernel_rfl) Try.func8
    (ChangeSpec.witness6 (enc := enc) (C := Try.checked) false ⟨#[], #[.slice none 0 0], []⟩ 8 (by kernel_rfl) (by kernel_rfl) (by kernel_rfl) (by kernel_rfl)) ?_
  intro W base args ds gs before hval hW _ hsz _
  exact contract H enc W base args ds gs before hval hW hsz
theorem over : Rows.indexOneFormRow.holds Try.pinned (OpenSpec.ofChange Rows.indexOneFormSpec) :=
  OpenClaim.holds_of_wide 8 Try.f8 rfl rfl rfl rfl rfl rfl rfl ⟨rfl, rfl, rfl, rfl, rfl⟩ rfl rfl rfl rfl rfl (by kernel_rfl) Try.func8 (by kernel_rfl)
    (of_decide_eq_true (by kernel_rfl)) (by unfold Func.isWrapper; first | (rw [if_pos (by decide +kernel)]; kernel_rfl) | (rw [if_neg (by decide +kernel)]; exact ⟨rfl, rfl⟩))
    (fun os started H enc _ => lifted os started H enc)
theorem proved : Rows.IndexOneFormSaid := over
end Go.Proofs.Ytifackbilmkjlaa.indexOneForm
