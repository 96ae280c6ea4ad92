/- For every text: whatever Decode takes is what Encode writes. No condition. -/
import Derived.Test.YtenekcnccmghhabHead02
import Derived.Test.YtenekcnccmghhabSame
import Derived.Test.YtenekcnccmghhabVmath
import Derived.SizedLaws
import Derived.ChangeOld
import Derived.Deep.RegionWith
namespace Go.Proofs.Ytenekcnccmghhab.varintOneForm
open Go.ChangeShapes Go.WideShapes Go.ChangeAt Go.RowKit
set_option linter.unusedVariables false
set_option maxRecDepth 20000 in
set_option maxHeartbeats 1000000 in
theorem walk (l : List Nat) (a : Option Addr) (cap : Nat) (w : World) (hb : Bytes w a l) (hc : Came w a l.length cap 1) :
    Calls Try.prog 5 #[.slice a l.length cap] w fun e w' => e = .returned (.bool true) ∧ Below w.heap.size w w' := by
  obtain ⟨hf, hr, hn⟩ := hc
  obtain ⟨u, n, e, hd⟩ : ∃ u n e, dec 0 0 l = (u, n, e) := ⟨_, _, _, rfl⟩
  have hl : l.length ≤ maxLen := by unfold maxLen; omega
  by_cases he : e = 0
  · subst he
    have hform := dec_form l hb.mem (by rw [hd])
    rw [hd] at hform
    simp only at hform
    obtain ⟨f1, f2, f3, f4, f5⟩ := hform
    have hne : l ≠ [] := by intro h; subst h; simp at f2; omega
    obtain ⟨b, off, rfl, hlt, hcell⟩ := hb.nonempty hne
    have HB : Hid (Bytes w (some ⟨b, off, none⟩) l) := hb
    have HD : Hid (_ = _) := hd
    have H5 : Hid (_ = _) := f5
    have hlen : ((l.length : Int)) ≤ 140737488351232 := by omega
    have hn1 : (1 : Int) ≤ n := by omega
    have hn2 : (n : Int) ≤ l.length := by omega
    have hn3 : (n : Int) ≤ cap := by omega
    clear hb hd f5 hcell hn
    go_enter Try.func5, Try.ntmps5
    go_wp2_with (first
      | (go_at_call 9; refine (head02_any w).mono ?_; rintro e w1 ⟨rfl, hb1⟩)
      | (go_at_call 12; refine (dec_at l _ u n 0 _ _ _ rfl HD.out (HB.out.keep hb1) hl).mono ?_; rintro e w2 ⟨rfl, rfl⟩))
    have hm1 : (enc u).length ≤ maxLen := by have := enc_length_le u f4; unfold maxLen; omega
    have hm2 : (l.take n).length ≤ maxLen := by rw [List.length_take]; omega
    have hq : (l.take n).length = n := by rw [List.length_take]; omega
    have HQ : Hid (_ = _) := hq
    have HT : Hid (decide (enc u = l.take n) = true) := by show _ = _; rw [H5.out]; exact decide_eq_true rfl
    clear hq
    go_region_with (first
      | (go_at_call 14; refine (encode_any u _ f4).mono ?_; rintro e w3 ⟨v, rfl, ho, hb3⟩; obtain ⟨a3, cap3, rfl, _, _, hby3, hs3⟩ := ho.shape)
      | (go_at_call 13; refine (same_at (enc u) (l.take n) _ _ _ _ _ _ _ rfl HQ.out hby3 ((((HB.out.keep hb1).drewN 1).keep hb3).take n) hm1 hm2).mono ?_; rw [HT.out]; rintro e w4 ⟨rfl, nq, rfl⟩))
    all_goals go_wp2
    all_goals go_ret
    all_goals exact ⟨rfl, below_drewN (hb1.trans ((below_drewN (Below.refl _ _) 1).trans (hb3.mono hb1.size))) nq⟩
  · have hz := dec_zero 0 0 l (by rw [hd]; exact he)
    rw [hd] at hz
    simp only at hz
    obtain ⟨rfl, rfl⟩ := hz
    have heb : ((e : Int) != 0) = true := by simp; omega
    have HB : Hid (Bytes w a l) := hb
    have HD : Hid (_ = _) := hd
    clear hb hd hn he
    go_enter Try.func5, Try.ntmps5
    go_wp2_with (first
      | (go_at_call 9; refine (head02_any w).mono ?_; rintro e w1 ⟨rfl, hb1⟩)
      | (go_at_call 12; refine (dec_at l _ 0 0 e _ _ _ rfl HD.out (HB.out.keep hb1) hl).mono ?_; rintro e w2 ⟨rfl, rfl⟩))
    go_ret
    exact ⟨rfl, hb1⟩
theorem own : ownKnob Try.prog.godebug = none := by kernel_rfl
theorem laidOut : laidOutB Try.prog = true := by kernel_rfl
set_option maxRecDepth 100000 in
theorem contract (H : Type) (enc : TypeId × Value → H) (W : World) (base : Nat) (args : Array Value) (ds gs : List (DataW H)) (before : List MemPlace)
    (hval : ∀ (j : Nat) t v, Try.f5.params[j]? = some t → args[j]? = some v → Value.okWide Try.prog W .any base t v)
    (hW : DataW.Whole enc Try.prog Try.f5.params.toList Rows.varintOneFormSpec.vars false W args.toList ds gs before)
    (hsz : (DataW.weightsEach Try.prog (Try.f5.params.toList ++ Rows.varintOneFormSpec.plain.varTypes Try.prog) (ds ++ gs)).all (· ≤ reachBytes) = true) :
    Calls Try.prog 5 args W fun e W' => ∃ v, e = .returned v ∧ Rows.varintOneFormSpec.post enc Try.prog Try.f5 false true false false W args v W' := by
  have hW' := hW
  obtain ⟨p, q, hA0, hV, rfl, hfz, hnd⟩ := hW
  have hA : DataW.TrodAll enc Try.prog W 0 (fun _ => true) true Try.f5.params.toList args.toList ds p := hA0
  rw [Try.params5] at hA hval hsz
  obtain ⟨v0, vs0, d0, ds0, p0, q0, hargs, rfl, rfl, h0, r0⟩ := trodAll_cons hA
  obtain ⟨rfl, rfl, rfl⟩ := trodAll_nil r0
  obtain rfl : args = #[v0] := by cases args; simp_all
  obtain ⟨rfl, rfl⟩ := trodVars_none hV
  obtain ⟨a0, len0, cap0, rfl⟩ := okWide_slice Try.underlying22 (hval 0 22 v0 rfl rfl)
  have k0 := h0
  have lt0 : ∀ x ∈ p0, x.block < W.heap.size := by obtain ⟨m, hm⟩ := k0; exact DataW.trod_lt m _ _ _ hm
  obtain ⟨l0, hlen0, w0, c0⟩ : ∃ l : List Nat, l.length = len0 ∧ Bytes W a0 l ∧ Came W a0 len0 cap0 1 := by
    obtain ⟨fuel, hf⟩ := h0
    rcases open_ints Try.underlying22 Try.underlying5 (by kernel_rfl) hf with ⟨hcs, hx⟩ | ⟨x, l, c, zs, hcs, _, hl, hm, hz, hx, hcell, hwz⟩
    · simp [Value.cells] at hcs
      obtain ⟨rfl, rfl, rfl⟩ := hcs
      exact ⟨[], rfl, ⟨by simp, .inl rfl⟩, ⟨Nat.le_refl _, by simp, fun _ => rfl⟩⟩
    · simp [Value.cells] at hcs
      obtain ⟨rfl, rfl, rfl⟩ := hcs
      have hz2 : zs.length = cap0 := by simpa using hz
      obtain ⟨ll, e1, e2, e3⟩ := row_nats .u8 256 (by decide) wf_u8 W x zs len0 (by omega) hcell hwz
      have hd : d0 = .slice (lits .u8 (zs.take len0)) (lits .u8 (zs.drop len0)) := (Prod.mk.inj hx).1
      have hreach : cap0 * 1 ≤ 140737488351232 := by
        have := sized_slice hsz (j := 0) (t := 22) (e := 5) rfl (by rw [hd]; rfl) Try.underlying22
        rw [show Try.prog.bytesOf 5 = 1 from by kernel_rfl] at this
        simp only [lits, List.length_map, List.length_take, List.length_drop, reachBytes] at this
        have hmin : min len0 zs.length = len0 := Nat.min_eq_left (by omega)
        rw [hmin] at this
        have hcap : len0 + (zs.length - len0) = cap0 := by omega
        rw [hcap] at this
        exact this
      exact ⟨ll, e1, ⟨e2, e3⟩, ⟨hl, hreach, fun h => by cases h⟩⟩
  subst hlen0
  clear hA0
  refine (walk l0 a0 cap0 W w0 c0).mono fun e W' ⟨he, bel⟩ => ?_
  subst he
  exact ⟨_, rfl, _, _, _, [], _, [], hW', trodAll_mk1 (shut_bool Try.underlying4 _), (trodAll_cons_mk (Below.trod laidOut (by kernel_rfl) (of_decide_eq_true (by kernel_rfl)) k0 bel lt0) trodAll_mk0), rfl, bel.frame _, fun h => by cases h⟩
set_option maxRecDepth 100000 in
theorem lifted (os : Os) (started : os.Started) (H : Type) (enc : TypeId × Value → H) :
    ReturnsInHanded {} Try.checked os 5 .any (Rows.varintOneFormSpec.pre6 enc Try.prog Try.f5 Rows.varintOneFormRow.domain false) (Rows.varintOneFormSpec.post enc Try.prog Try.f5 false true false false) := by
  refine returnsInHanded_of_change_sized (C := Try.checked) own started (by kernel_rfl) Try.func5
    (ChangeSpec.witness6 (enc := enc) (C := Try.checked) false ⟨#[], #[.slice none 0 0], []⟩ 8 (by kernel_rfl) (by kernel_rfl) (by kernel_rfl) (by kernel_rfl)) ?_
  intro W base args ds gs before hval hW _ hsz _
  exact contract H enc W base args ds gs before hval hW hsz
theorem over : Rows.varintOneFormRow.holds Try.pinned (OpenSpec.ofChange Rows.varintOneFormSpec) :=
  OpenClaim.holds_of_wide 5 Try.f5 rfl rfl rfl rfl rfl rfl rfl ⟨rfl, rfl, rfl, rfl, rfl⟩ rfl rfl rfl rfl rfl (by kernel_rfl) Try.func5 (by kernel_rfl)
    (of_decide_eq_true (by kernel_rfl)) (by unfold Func.isWrapper; first | (rw [if_pos (by decide +kernel)]; kernel_rfl) | (rw [if_neg (by decide +kernel)]; exact ⟨rfl, rfl⟩))
    (fun os started H enc _ => lifted os started H enc)
theorem proved : Rows.VarintOneFormSaid := over
end Go.Proofs.Ytenekcnccmghhab.varintOneForm
