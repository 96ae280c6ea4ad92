/- For every list of marks: what index.Encode writes index.Decode reads; what is no index is not written. No condition. -/
import Derived.Test.YtifackbilmkjlaaMkH
import Derived.Test.YtifackbilmkjlaaMkn
import Derived.Test.YtifackbilmkjlaaMky
import Derived.SizedLaws
import Derived.ChangeOld
namespace Go.Proofs.Ytifackbilmkjlaa.indexBack
open Go.ChangeShapes Go.WideShapes Go.ChangeAt Go.RowKit
set_option linter.unusedVariables false
set_option maxRecDepth 20000 in
set_option maxHeartbeats 2000000 in
theorem walk (l : List Mk) (a : Option Addr) (cap : Nat) (w : World) (hm : Marks w a l) (hc : l.length ≤ cap ∧ cap * 16 ≤ 140737488351232 ∧ (a = none → l = [])) :
    Calls Try.prog 7 #[.slice a l.length cap] w fun e w' => e = .returned (.bool true) ∧ Below w.heap.size w w' := by
  obtain ⟨n, hn⟩ : ∃ n, l.length = n := ⟨_, rfl⟩
  rw [hn] at hc ⊢
  obtain ⟨hc1, hc2, hc3⟩ := hc
  have HN : Hid (l.length = n) := hn
  have HM : Hid (Marks w a l) := hm
  have H3 : Hid (a = none → l = []) := hc3
  have hl16 : n * 16 ≤ 140737488351232 := by omega
  have hlm : n ≤ maxLen := by unfold maxLen; omega
  have HL : Hid (n * 16 ≤ 140737488351232 ∧ n ≤ maxLen ∧ n ≤ 140737488351232) := ⟨hl16, hlm, by omega⟩
  have T1 : Hid True := trivial
  clear hn hm hc1 hc2 hc3 hl16 hlm
  cases hV : validB l with
  | true =>
    have HV : Hid (validB l = true) := hV
    have HBK : Hid (mDec (mEnc l) = (l, 0)) := mDec_back l hV
    obtain ⟨E, hE⟩ : ∃ E, mEnc l = E := ⟨_, rfl⟩
    obtain ⟨m, hEm⟩ : ∃ m, E.length = m := ⟨_, rfl⟩
    have hm2 : m ≤ 140737488351232 := by have := mEnc_len l hV; rw [hE, hEm] at this; omega
    have HE : Hid (mEnc l = E ∧ E.length = m ∧ m ≤ 140737488351232) := ⟨hE, hEm, hm2⟩
    clear hV hE hEm hm2
    go_enter Try.func7, Try.ntmps7
    go_wp2_with (first
      | (go_at_call 12; refine (head13_any w).mono ?_; rintro e w1 ⟨rfl, hb1⟩)
      | (go_at_call 17; clear T1; refine (copyOf_any l _ _ _ _ HN.out (HM.out.keep hb1) H3.out HL.out.1).mono ?_; rintro e w3 ⟨v3, rfl, ho3, hb3⟩; obtain ⟨a3, c3, rfl, hm3⟩ := marks_len ho3 n HN.out; clear ho3; have hb3w := below_next hb1 hb3)
      | (go_at_call 22; refine (ienc_any l _ _ _ _ HN.out hm3 HL.out.2.1).mono ?_; rw [if_pos HV.out, if_pos HV.out, HE.out.1]; rintro e w4 ⟨v4, rfl, ho4, hb4⟩; obtain ⟨a4, c4, rfl, hc4, hby4⟩ := own_len ho4 m HE.out.2.1; clear ho4; have hb4w := below_next hb3w hb4)
      | (go_at_call 17; refine (copyOf_any l _ _ _ _ HN.out (HM.out.keep hb4w) H3.out HL.out.1).mono ?_; rintro e w5 ⟨v5, rfl, ho5, hb5⟩; obtain ⟨a5, c5, rfl, hm5⟩ := marks_len ho5 n HN.out; clear ho5; have hb5w := below_next hb4w hb5)
      | (go_at_call 16; refine (valid_any l _ _ _ _ HN.out hm5 HL.out.2.1).mono ?_; rw [HV.out]; rintro e w6 ⟨rfl, hb6⟩; have hb6w := below_next hb5w hb6; have HBY : Hid (Bytes w6 a4 E) := (hby4.keep hb5).keep hb6)
      | (go_at_call 26; refine (idec_any E _ _ _ _ HE.out.2.1 HBY.out hc4 HE.out.2.2).mono ?_; rw [← HE.out.1, HBK.out]; rintro e w7 ⟨v7, rfl, ho7, hb7⟩; obtain ⟨a7, c7, rfl, hm7⟩ := marks_len ho7 n HN.out; clear ho7; have hb7w := below_next hb6w hb7)
      | (go_at_call 15; refine (msame_any l l _ _ _ _ _ _ _ HN.out HN.out hm7 (HM.out.keep hb7w) HL.out.2.1 HL.out.2.1).mono ?_; rw [decide_eq_true (rfl : l = l)]; rintro e w8 ⟨rfl, hb8⟩; have hb8w := below_next hb7w hb8))
    go_ret
    exact ⟨rfl, hb8w⟩
  | false =>
    have HV : Hid (validB l = false) := hV
    have HV2 : Hid (¬ validB l = true) := by show ¬ _; rw [hV]; simp
    clear hV
    go_enter Try.func7, Try.ntmps7
    go_wp2_with (first
      | (go_at_call 12; refine (head13_any w).mono ?_; rintro e w1 ⟨rfl, hb1⟩)
      | (go_at_call 17; clear T1; refine (copyOf_any l _ _ _ _ HN.out (HM.out.keep hb1) H3.out HL.out.1).mono ?_; rintro e w3 ⟨v3, rfl, ho3, hb3⟩; obtain ⟨a3, c3, rfl, hm3⟩ := marks_len ho3 n HN.out; clear ho3; have hb3w := below_next hb1 hb3)
      | (go_at_call 22; refine (ienc_any l _ _ _ _ HN.out hm3 HL.out.2.1).mono ?_; rw [if_neg HV2.out, if_neg HV2.out]; rintro e w4 ⟨v4, rfl, ho4, hb4⟩; obtain ⟨a4, c4, rfl, hc4, hby4⟩ := own_len ho4 0 rfl; clear ho4; have hb4w := below_next hb3w hb4)
      | (go_at_call 17; refine (copyOf_any l _ _ _ _ HN.out (HM.out.keep hb4w) H3.out HL.out.1).mono ?_; rintro e w5 ⟨v5, rfl, ho5, hb5⟩; obtain ⟨a5, c5, rfl, hm5⟩ := marks_len ho5 n HN.out; clear ho5; have hb5w := below_next hb4w hb5)
      | (go_at_call 16; refine (valid_any l _ _ _ _ HN.out hm5 HL.out.2.1).mono ?_; rw [HV.out]; rintro e w6 ⟨rfl, hb6⟩; have hb6w := below_next hb5w hb6))
    go_ret
    exact ⟨rfl, hb6w⟩
theorem own : ownKnob Try.prog.godebug = none := by kernel_rfl
theorem laidOut : laidOutB Try.prog = true := by kernel_rfl
set_option maxRecDepth 100000 in
theorem contract (H : Type) (enc : TypeId × Value → H) (W : World) (base : Nat) (args : Array Value) (ds gs : List (DataW H)) (before : List MemPlace)
    (hval : ∀ (j : Nat) t v, Try.f7.params[j]? = some t → args[j]? = some v → Value.okWide Try.prog W .any base t v)
    (hW : DataW.Whole enc Try.prog Try.f7.params.toList Rows.indexBackSpec.vars false W args.toList ds gs before)
    (hsz : (DataW.weightsEach Try.prog (Try.f7.params.toList ++ Rows.indexBackSpec.plain.varTypes Try.prog) (ds ++ gs)).all (· ≤ reachBytes) = true) :
    Calls Try.prog 7 args W fun e W' => ∃ v, e = .returned v ∧ Rows.indexBackSpec.post enc Try.prog Try.f7 false true false false W args v W' := by
  have hW' := hW
  obtain ⟨p, q, hA0, hV, rfl, hfz, hnd⟩ := hW
  have hA : DataW.TrodAll enc Try.prog W 0 (fun _ => true) true Try.f7.params.toList args.toList ds p := hA0
  rw [Try.params7] at hA hval hsz
  obtain ⟨v0, vs0, d0, ds0, p0, q0, hargs, rfl, rfl, h0, r0⟩ := trodAll_cons hA
  obtain ⟨rfl, rfl, rfl⟩ := trodAll_nil r0
  obtain rfl : args = #[v0] := by cases args; simp_all
  obtain ⟨rfl, rfl⟩ := trodVars_none hV
  obtain ⟨a0, len0, cap0, rfl⟩ := okWide_slice Try.underlying27 (hval 0 27 v0 rfl rfl)
  have k0 := h0
  have lt0 : ∀ x ∈ p0, x.block < W.heap.size := by obtain ⟨m, hm⟩ := k0; exact DataW.trod_lt m _ _ _ hm
  obtain ⟨l0, hlen0, w0, c0⟩ : ∃ L : List Mk, L.length = len0 ∧ Marks W a0 L ∧ (len0 ≤ cap0 ∧ cap0 * 16 ≤ 140737488351232 ∧ (a0 = none → L = [])) := by
    obtain ⟨fuel, hf⟩ := h0
    rcases open_marks hf with ⟨hcs, hx⟩ | ⟨x, l, c, L, D, hcs, hl, hm, hLl, hfs, hx⟩
    · simp [Value.cells] at hcs
      obtain ⟨rfl, rfl, rfl⟩ := hcs
      exact ⟨[], rfl, .inl rfl, Nat.le_refl _, by simp, fun _ => rfl⟩
    · simp [Value.cells] at hcs
      obtain ⟨rfl, rfl, rfl⟩ := hcs
      have hd : d0 = _ := hx
      exact ⟨L, hLl, hfs, hl, sized_marks hsz (j := 0) rfl (by rw [hd]; rfl) hl, fun h => by cases h⟩
  subst hlen0
  clear hA0
  refine (walk l0 a0 cap0 W w0 c0).mono fun e W' ⟨he, bel⟩ => ?_
  subst he
  exact ⟨_, rfl, _, _, _, [], _, [], hW', trodAll_mk1 (shut_bool Try.underlying4 _), (trodAll_cons_mk (Below.trod laidOut (by kernel_rfl) (of_decide_eq_true (by kernel_rfl)) k0 bel lt0) trodAll_mk0), rfl, bel.frame _, fun h => by cases h⟩
set_option maxRecDepth 100000 in
theorem lifted (os : Os) (started : os.Started) (H : Type) (enc : TypeId × Value → H) :
    ReturnsInHanded {} Try.checked os 7 .any (Rows.indexBackSpec.pre6 enc Try.prog Try.f7 Rows.indexBackRow.domain false) (Rows.indexBackSpec.post enc Try.prog Try.f7 false true false false) := by
  refine returnsInHanded_of_change_sized (C := Try.checked) own started (by kernel_rfl) Try.func7
    (ChangeSpec.witness6 (enc := enc) (C := Try.checked) false ⟨#[], #[.slice none 0 0], []⟩ 8 (by kernel_rfl) (by kernel_rfl) (by kernel_rfl) (by kernel_rfl)) ?_
  intro W base args ds gs before hval hW _ hsz _
  exact contract H enc W base args ds gs before hval hW hsz
theorem over : Rows.indexBackRow.holds Try.pinned (OpenSpec.ofChange Rows.indexBackSpec) :=
  OpenClaim.holds_of_wide 7 Try.f7 rfl rfl rfl rfl rfl rfl rfl ⟨rfl, rfl, rfl, rfl, rfl⟩ rfl rfl rfl rfl rfl (by kernel_rfl) Try.func7 (by kernel_rfl)
    (of_decide_eq_true (by kernel_rfl)) (by unfold Func.isWrapper; first | (rw [if_pos (by decide +kernel)]; kernel_rfl) | (rw [if_neg (by decide +kernel)]; exact ⟨rfl, rfl⟩))
    (fun os started H enc _ => lifted os started H enc)
theorem proved : Rows.IndexBackSaid := over
end Go.Proofs.Ytifackbilmkjlaa.indexBack
