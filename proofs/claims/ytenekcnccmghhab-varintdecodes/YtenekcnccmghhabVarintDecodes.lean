/- For every text: Decode answers as the reference at every place of it, and the text stays as it was. No condition. -/
import Derived.Test.YtenekcnccmghhabHead02
import Derived.Test.YtenekcnccmghhabCopy
import Derived.Test.YtenekcnccmghhabSame
import Derived.Test.YtenekcnccmghhabRdec
import Derived.SizedLaws
import Derived.ChangeOld
namespace Go.Proofs.Ytenekcnccmghhab.varintDecodes
open Go.ChangeShapes Go.WideShapes Go.ChangeAt Go.RowKit
set_option linter.unusedVariables false
set_option maxRecDepth 20000 in
set_option maxHeartbeats 2000000 in
theorem walk (l : List Nat) (a : Option Addr) (cap : Nat) (w : World) (hb : Bytes w a l) (hc : Came w a l.length cap 1) :
    Calls Try.prog 3 #[.slice a l.length cap] w fun e w' => e = .returned (.bool true) ∧ Below w.heap.size w w' := by
  obtain ⟨hf, hr, hn⟩ := hc
  have hl : l.length ≤ maxLen := by unfold maxLen; omega
  have HB : Hid (Bytes w a l) := hb
  by_cases hne : l = []
  · subst hne
    have hm0 : ([] : List Nat).length ≤ maxLen := hl
    have HD0 : Hid (dec 0 0 [] = (0, 0, 10)) := rfl
    have ha : (a = none ∧ cap = 0) ∨ ∃ x, a = some x := by
      cases a with
      | none => exact .inl ⟨rfl, hn rfl⟩
      | some x => exact .inr ⟨x, rfl⟩
    clear hb hn hf HB hl
    rcases ha with ⟨rfl, rfl⟩ | ⟨x, rfl⟩
    all_goals
      go_enter Try.func3, Try.ntmps3
      go_wp2_with (first
        | (go_at_call 9; refine (head02_any w).mono ?_; rintro e w1 ⟨rfl, hb1⟩)
        | (go_at_call 10; refine (copy_any [] _ _ _ (Bytes.none _ _) (by simp)).mono ?_; rintro e w2 ⟨v, rfl, ho, hb2⟩; have hsh := ho.shape; clear ho; obtain ⟨a3, cap3, rfl, _, _, _, h3⟩ := hsh))
      have h3' : (a3 = none ∧ cap3 = 0) ∨ ∃ g, a3 = some (⟨g, 0, none⟩ : Addr) := by
        rcases h3 with ⟨h, _, h'⟩ | ⟨g, h, _⟩
        · exact .inl ⟨h, h'⟩
        · exact .inr ⟨g, h⟩
      clear h3
      rcases h3' with ⟨rfl, rfl⟩ | ⟨g, rfl⟩
      all_goals
        go_loop [4] (fun i => ∃ k : Nat, k ≤ 1 ∧ i = .int .i64 k) (fun i => 1 - (intOf i).toNat)
        case atStart => exact ⟨0, Nat.zero_le _, rfl⟩
        case round =>
          obtain ⟨k, hk, rfl⟩ := hrel
          have hk2 : k = 0 ∨ k = 1 := by omega
          rcases hk2 with rfl | rfl
          · go_wp2_with (first
              | (go_at_call 11; refine (rdec_at [] _ 0 0 10 _ _ _ rfl HD0.out (Bytes.none _ _) hm0).mono ?_; rintro e w3 ⟨rfl, rfl⟩)
              | (go_at_call 12; refine (dec_at [] _ 0 0 10 _ _ _ rfl HD0.out (Bytes.none _ _) hm0).mono ?_; rintro e w3 ⟨rfl, rfl⟩))
            all_goals
              go_round
              case rel => exact ⟨1, by omega, rfl⟩
              case measure => simp [intOf]
          · go_wp2_with (go_at_call 13; refine (same_at [] [] _ _ _ _ _ _ _ rfl rfl (Bytes.none _ _) (Bytes.none _ _) hm0 hm0).mono ?_; rintro e w3 ⟨rfl, nq, rfl⟩)
            go_ret
            exact ⟨rfl, below_drewN (hb1.trans (hb2.mono hb1.size)) nq⟩
  · obtain ⟨b, off, rfl, hlt, hcl⟩ := hb.nonempty hne
    clear hb hn hcl
    go_enter Try.func3, Try.ntmps3
    go_wp2_with (first
      | (go_at_call 9; refine (head02_any w).mono ?_; rintro e w1 ⟨rfl, hb1⟩)
      | (go_at_call 10; refine (copy_any l _ _ _ (HB.out.keep hb1) (by omega)).mono ?_; rintro e w2 ⟨v, rfl, ho, hb2⟩; obtain ⟨g, cap2, rfl, hcap2, hby2⟩ := ho.row hne; clear ho))
    have HB1 : Hid (Bytes w2 (some ⟨b, off, none⟩) l) := (HB.out.keep hb1).keep hb2
    have HB2 : Hid (Bytes w2 (some ⟨g, 0, none⟩) l) := hby2
    clear hby2
    go_loop [4] (fun i => ∃ k : Nat, k ≤ l.length + 1 ∧ i = .int .i64 k) (fun i => l.length + 1 - (intOf i).toNat)
    case atStart => exact ⟨0, Nat.zero_le _, rfl⟩
    case round =>
      obtain ⟨k, hk, rfl⟩ := hrel
      have h3 : k < l.length ∨ k = l.length ∨ k = l.length + 1 := by omega
      rcases h3 with hkl | rfl | rfl
      · obtain ⟨u, n, e, hd⟩ : ∃ u n e, dec 0 0 (l.drop k) = (u, n, e) := ⟨_, _, _, rfl⟩
        have HD : Hid (_ = _) := hd
        have HL : Hid ((l.drop k).length = l.length - k) := List.length_drop
        have HM : Hid ((l.drop k).length ≤ maxLen) := by show _ ≤ _; rw [List.length_drop]; omega
        have HB3 : Hid (Bytes w2 (some ⟨g, k, none⟩) (l.drop k)) := by
          have h := HB2.out.drop k
          rw [Nat.zero_add] at h
          exact h
        clear hd hne
        go_wp2_with (first
          | (go_at_call 11; refine (rdec_at (l.drop k) _ u n e _ _ _ HL.out HD.out (HB1.out.drop k) HM.out).mono ?_; rintro e w3 ⟨rfl, rfl⟩)
          | (go_at_call 12; refine (dec_at (l.drop k) _ u n e _ _ _ HL.out HD.out HB3.out HM.out).mono ?_; rintro e w3 ⟨rfl, rfl⟩))
        go_round
        case rel => exact ⟨k + 1, by omega, by go_num⟩
        case measure => simp [intOf]; omega
      · have HD0 : Hid (dec 0 0 [] = (0, 0, 10)) := rfl
        have hm0 : ([] : List Nat).length ≤ maxLen := by simp
        clear hne
        go_wp2_with (first
          | (go_at_call 11; refine (rdec_at [] _ 0 0 10 _ _ _ (by simp) HD0.out (Bytes.none _ _) hm0).mono ?_; rintro e w3 ⟨rfl, rfl⟩)
          | (go_at_call 12; refine (dec_at [] _ 0 0 10 _ _ _ (by simp) HD0.out (Bytes.none _ _) hm0).mono ?_; rintro e w3 ⟨rfl, rfl⟩))
        all_goals
          go_round
          case rel => exact ⟨l.length + 1, by omega, by go_num⟩
          case measure => first | (simp [intOf]; done) | (simp [intOf]; omega)
      · clear hne
        go_wp2_with (go_at_call 13; refine (same_at l l _ _ _ _ _ _ _ rfl rfl HB1.out HB2.out hl hl).mono ?_; rw [decide_eq_true (rfl : l = l)]; rintro e w3 ⟨rfl, nq, rfl⟩)
        go_ret
        exact ⟨rfl, below_drewN (hb1.trans (hb2.mono hb1.size)) nq⟩
theorem own : ownKnob Try.prog.godebug = none := by kernel_rfl
theorem laidOut : laidOutB Try.prog = true := by kernel_rfl
set_option maxRecDepth 100000 in
theorem contract (H : Type) (enc : TypeId × Value → H) (W : World) (base : Nat) (args : Array Value) (ds gs : List (DataW H)) (before : List MemPlace)
    (hval : ∀ (j : Nat) t v, Try.f3.params[j]? = some t → args[j]? = some v → Value.okWide Try.prog W .any base t v)
    (hW : DataW.Whole enc Try.prog Try.f3.params.toList Rows.varintDecodesSpec.vars false W args.toList ds gs before)
    (hsz : (DataW.weightsEach Try.prog (Try.f3.params.toList ++ Rows.varintDecodesSpec.plain.varTypes Try.prog) (ds ++ gs)).all (· ≤ reachBytes) = true) :
    Calls Try.prog 3 args W fun e W' => ∃ v, e = .returned v ∧ Rows.varintDecodesSpec.post enc Try.prog Try.f3 false true false false W args v W' := by
  have hW' := hW
  obtain ⟨p, q, hA0, hV, rfl, hfz, hnd⟩ := hW
  have hA : DataW.TrodAll enc Try.prog W 0 (fun _ => true) true Try.f3.params.toList args.toList ds p := hA0
  rw [Try.params3] at hA hval hsz
  obtain ⟨v0, vs0, d0, ds0, p0, q0, hargs, rfl, rfl, h0, r0⟩ := trodAll_cons hA
  obtain ⟨rfl, rfl, rfl⟩ := trodAll_nil r0
  obtain rfl : args = #[v0] := by cases args; simp_all
  obtain ⟨rfl, rfl⟩ := trodVars_none hV
  obtain ⟨a0, len0, cap0, rfl⟩ := okWide_slice Try.underlying22 (hval 0 22 v0 rfl rfl)
  have k0 := h0
  have lt0 : ∀ x ∈ p0, x.block < W.heap.size := by obtain ⟨m, hm⟩ := k0; exact DataW.trod_lt m _ _ _ hm
  obtain ⟨l0, hlen0, w0, c0⟩ : ∃ l : List Nat, l.length = len0 ∧ Bytes W a0 l ∧ Came W a0 len0 cap0 1 := by
    obtain ⟨fuel, hf⟩ := h0
    rcases open_ints Try.underlying22 Try.underlying5 (by kernel_rfl) hf with ⟨hcs, hx⟩ | ⟨x, l, c, zs, hcs, _, hl, hm, hz, hx, hcell, hwz⟩
    · simp [Value.cells] at hcs
      obtain ⟨rfl, rfl, rfl⟩ := hcs
      exact ⟨[], rfl, ⟨by simp, .inl rfl⟩, ⟨Nat.le_refl _, by simp, fun _ => rfl⟩⟩
    · simp [Value.cells] at hcs
      obtain ⟨rfl, rfl, rfl⟩ := hcs
      have hz2 : zs.length = cap0 := by simpa using hz
      obtain ⟨ll, e1, e2, e3⟩ := row_nats .u8 256 (by decide) wf_u8 W x zs len0 (by omega) hcell hwz
      have hd : d0 = .slice (lits .u8 (zs.take len0)) (lits .u8 (zs.drop len0)) := (Prod.mk.inj hx).1
      have hreach : cap0 * 1 ≤ 140737488351232 := by
        have := sized_slice hsz (j := 0) (t := 22) (e := 5) rfl (by rw [hd]; rfl) Try.underlying22
        rw [show Try.prog.bytesOf 5 = 1 from by kernel_rfl] at this
        simp only [lits, List.length_map, List.length_take, List.length_drop, reachBytes] at this
        have hmin : min len0 zs.length = len0 := Nat.min_eq_left (by omega)
        rw [hmin] at this
        have hcap : len0 + (zs.length - len0) = cap0 := by omega
        rw [hcap] at this
        exact this
      exact ⟨ll, e1, ⟨e2, e3⟩, ⟨hl, hreach, fun h => by cases h⟩⟩
  subst hlen0
  clear hA0
  refine (walk l0 a0 cap0 W w0 c0).mono fun e W' ⟨he, bel⟩ => ?_
  subst he
  exact ⟨_, rfl, _, _, _, [], _, [], hW', trodAll_mk1 (shut_bool Try.underlying4 _), (trodAll_cons_mk (Below.trod laidOut (by kernel_rfl) (of_decide_eq_true (by kernel_rfl)) k0 bel lt0) trodAll_mk0), rfl, bel.frame _, fun h => by cases h⟩
set_option maxRecDepth 100000 in
theorem lifted (os : Os) (started : os.Started) (H : Type) (enc : TypeId × Value → H) :
    ReturnsInHanded {} Try.checked os 3 .any (Rows.varintDecodesSpec.pre6 enc Try.prog Try.f3 Rows.varintDecodesRow.domain false) (Rows.varintDecodesSpec.post enc Try.prog Try.f3 false true false false) := by
  refine returnsInHanded_of_change_sized (C := Try.checked) own started (by kernel_rfl) Try.func3
    (ChangeSpec.witness6 (enc := enc) (C := Try.checked) false ⟨#[], #[.slice none 0 0], []⟩ 8 (by kernel_rfl) (by kernel_rfl) (by kernel_rfl) (by kernel_rfl)) ?_
  intro W base args ds gs before hval hW _ hsz _
  exact contract H enc W base args ds gs before hval hW hsz
theorem over : Rows.varintDecodesRow.holds Try.pinned (OpenSpec.ofChange Rows.varintDecodesSpec) :=
  OpenClaim.holds_of_wide 3 Try.f3 rfl rfl rfl rfl rfl rfl rfl ⟨rfl, rfl, rfl, rfl, rfl⟩ rfl rfl rfl rfl rfl (by kernel_rfl) Try.func3 (by kernel_rfl)
    (of_decide_eq_true (by kernel_rfl)) (by unfold Func.isWrapper; first | (rw [if_pos (by decide +kernel)]; kernel_rfl) | (rw [if_neg (by decide +kernel)]; exact ⟨rfl, rfl⟩))
    (fun os started H enc _ => lifted os started H enc)
theorem proved : Rows.VarintDecodesSaid := over
end Go.Proofs.Ytenekcnccmghhab.varintDecodes
